import PyProof.Rows.All
import Open.Pieces
import OpenK.KLine
import PySem.Challenge.RW_tellworld_k29_tests_and_deeds_told
import Wide.All
import OpenK.AllK
import Wide.FinOn
import PyProof.EqAt
import PyProof.EqKinds
import PyProof.TupleCall
import PyProof.StrWalks
import PyProof.ConsumeWalk
import PyProof.NeKinds
import PyProof.Rows.SetFrom
import KE.KIsAll
import PyProof.WalksMore
import PyProof.TupleKey
import PyProof.DictWalks
import PyProof.Rows.ZipGen
import KE.KDictLaws
import PyProof.DictItems
import KE.KSortTup
import PyProof.TupleOfSeq
import PyProof.Rows.SortStr
import PyProof.Rows.StrInSeq3
import PyProof.TupleIter
import KE.KDictOf
import PyProof.CollectWalk
import PyProof.Rows.SeqMore
set_option genSizeOf false
local macro_rules (kind:=Lean.Parser.Command.declaration)|s=>do
 if s.getPos?.isNone||s[1][1][0].getId.getRoot== `PySem then Lean.Macro.throwUnsupported
 let s:=s.rewriteBottomUp (·.setInfo .none)
 if s[1].getKind∈[``Lean.Parser.Command.definition,``Lean.Parser.Command.abbrev,``Lean.Parser.Command.instance]&&s[0][4].isNone then
  return s.setArg 0 (s[0].setArg 4 (Lean.mkNullNode #[Lean.Syntax.node .none ``Lean.Parser.Command.noncomputable #[Lean.mkAtom "noncomputable"]]))
 return s
set_option compiler.extract_closed false
noncomputable section
open List renaming length_map->ah,getElem?_eq_getElem->aL,length_append->aA,map_cons->ay,length_cons->aE,mem_singleton->aO,length_singleton->bb,mem_cons_self->ba,mem_map->aF,mem_cons_of_mem->bh,mem_cons->aM,map_append->aW,size_toArray->bf,getElem?_map->bj,getElem?_eq_some_iff->bQ,mem_append->bg,length_take->br,mem_append_right->bH,mem_append_left->bF,map_map->aV,append_nil->bt,append_assoc->bB,all_eq_true->bC,getD_eq_getElem?_getD->ck,getElem?_append_right->cz,length_replicate->cb,getElem?_set->bR,not_mem_nil->bO,getElem?_append_left->cF,nil_append->bK,nodup_append->bX,mem_filter->bS,mem_map_of_mem->cp,mem_of_getElem?->cA,map_nil->bI,length_drop->cc,range->bz,nodup_cons->cg,length->bT,mem_range->cq,getElem?_drop->cW,zip_cons_cons->df,exists_cons_of_ne_nil->eU,length_nil->cN,getElem_mem->cZ,zipWith_cons_cons->dY,getElem?_replicate->eV,lookup_cons->dF,find?_cons->dG,length_set->dH,zipWith->c4,lookup->cO,replicate->dJ,getElem?_eq_none->fP,length_filter_le->fQ,drop_eq_getElem_cons->gS,length_zip->eD,any_eq_true->eY,getElem?_cons_succ->gV,getElem?_set_self->gW,any_cons->eF,length_range->fW,filter_cons->fZ,all_cons->eZ,map_drop->fi,map_take->fj,take_sublist->hE,nodup_nil->f9,getElem?_zipWith->jd,take_append_drop->je,getElem?_set_ne->jf,mem_iff_getElem->jh,mem_of_mem_drop->jj,of_mem_zip->ib,countP_eq_length_filter->kQ,filterMap_cons->jk,length_zipWith->jl,getElem_of_mem->jm,filter_eq_self->jn,mergeSort_perm->jo,mem_filterMap->jq,getElem?_zip_eq_some->kY,pairwise_iff_getElem->la,getLastD_eq_getLast?->lb,getElem_inj->jz,length_eq_zero_iff->ll,drop_eq_nil_of_le->lq,take_of_length_le->lr,contains_iff_mem->lD,mem_of_mem_take->lI,mem_erase_of_ne->lJ,getElem?_range->lL,length_pos_iff->lQ,zip_map'->jS,contains_cons->lY,getElem?_take->l5,ext_getElem?->l6,any_eq_false->l7,map_fst_zip->mD,map_id->ka,zip_append->mF,foldl_cons->mG,drop_nil->mS,all_map->mV
open PySem.Heap renaming get?_push_of_some->aK,lt_size->aN,get?_push_size->bu,size_push->dh,get?_update_other->fO,SameBut->fo,get?_update_self->jc
open PySem renaming Value->ae,wpAny_bind->au,Shared->af,wpAny_pure->aD,Program->aS,sizeLine_eq->bJ,Around->aQ,World->aI,wpAny_truthy_bool->cK,wpAny_mono->bU,Spec->nX,wpAny_holding->cG,wpAny_Call_Name_kw->dD,codeAny_builtin->dg,FuncData->bW,wpAny_passesOwn->eC,mem_of_lookup->fR,wpAny_pyIter_list->fT,wpAny_setState_of->fV,plainId_quiet->fg,codeAny_mono->fw,NameKind->c8,wpAny_forIn_list->hU,wpAny_execs_nil->hZ,tupleKind_room_in1->ju,Paired->eG,wpAny_call_entry->jA,Keyword->dO,call_meetsIn->ik,Builtin->dP,Scope->cD,wpAny_specialOf->jC,wpAny_updateSeq->jF,wpAny_loadPart'->ly,wpAny_isTrue_Compare1->lA,wpAny_eqIsQuiet_tuple->lC,CmpOp->cI,isSubtype_type->jI,codeAny_call_builtin->lG,wpAny_newList->jQ,wpAny_pyIter_tuple->lV,wpAny_call->ir,call_meets->iw,wpAny_pyHash_tuple->l3,Within->jT,GenState->gj,BindsTo->fC,slot_list_getitem->l9,wpAny_Call_method->md,wpAny_newObj_type->me,wpAny_typeOf->jY,wpAny_pyIter_dict->mf,PassesOwn->iz,seqIndex_of->j7,wpAny_Name->kc,Operator->iA,Result->fD,PlainAttrs->kh,call->kj,SetTable->iE,boot_len->mN
open Nat renaming le_refl->aG,le_of_ble_eq_true->bE,ne_of_lt->aX,lt_of_lt_of_le->bZ,le_trans->bL,lt_succ_of_lt->cX,zero_le->cj,lt_succ_self->dE,lt_irrefl->di,min_eq_left->eE,min_self->dM,ble_eq->c6,le_add_right->fY,le_of_lt->fm,ne_of_gt->fq,ble->c9,lt_of_le_of_lt->jv,le_succ->gf,sub_self->il,add_right_comm->lR,le_of_eq->jU,lt_trichotomy->mj,le_of_not_lt->mx,not_lt_zero->mJ,beq->gm
open Bool renaming false_ne_true->bp,and_eq_true->bo,eq_iff_iff->cM,false_eq_true->dZ,not_eq_true'->eX,eq_false_iff->hJ,or_eq_false_iff->ji,or_eq_true->jE,false_and->mL,and_false->mM,or_false->mQ,true_and->mT,or_true->mW,rec->kr
open Prod renaming fst->aC,snd->iG
open PySem.W renaming Frag->aw,kia_one->cu,emptyDict->c5,findIn->cv,kitOne->cH,instObj->dj,keepIn->c7,fnOf->dq,codeIn->fz,OpenLaw->fA,plainGet_of->jL,callWith_K0->jM,plainGet->iq,callWith_K->jX,cellsFrom_some->mm,methodObj->j3,hasDictIn->j4,kitx_list->j5,kitx_dict->j6,methodCall_KW->mE,lookIn->iC,kas_sort->iF,makes_of->km,takerIn->ko,makesIn->kq,nsIn->gu,mg_of->iH
open Int renaming eq_ofNat_of_zero_le->cn,toNat_natCast->hG,emod_lt_of_pos->jx,emod_nonneg->jH
open Option.some renaming inj->cf
open PyProof.Rows.F renaming plain_set_update_loop->dA,entry_set_update_loop->fN
open PySem.SetTable.probe renaming go->cY
open PySem.Around renaming under_plainId->dB,in1_units->hX,under->jV
open PySem.Builtin.List renaming listTooLong->fM,listExtendWith->kR,listLengthHint->kU,listSameRef->lj
open PySem.SetTable renaming insertAt->ef,below->f7,has->gb,Probe->ic,fresh->ie,bits->ig,runEnd->jG,fill->jN,put->jZ,gaveWay->mB,tooFull->mC,slot->mR
open List.Sublist renaming refl->eA
open False renaming elim->cB
open Array renaming length_toList->eW,getElem?_toList->jb,perm_iff_toList_perm->kX,forIn_toList->lZ,toList->mU
open Classical renaming byContradiction->gU,choose_spec->lE
open Option renaming map_some->eB,getD_none->mr,getD_some->my
open PySem.Obj renaming mapSeq->cP,putSet->kl
open PySem.Calls renaming spliced_cons->fS,callWith_builtin->gX,spliced_nil->gZ,evalArgs_plain->jg,Name_function_global->kW,call_function_entry->kZ
open PySem.F renaming called_set->dN,plainAttrs_list->fX,slot_dict_itemiterator_iter->kP,slot_list_append->jr,slot_list_extend->jt,plainAttrs_dict->jy,slot_dict_setdefault->lu,slot_list_pop->jB,slot_dict_get->jD,args_list_extend_2->lF,sub_list_frozenset->lH,entry_list_extend->lK,args_tuple_add_2->lW,type_list_append->l4,entry_tuple_add->l8,args_dict_get_2->ma,slot_dict_items->mh,plain_list_iadd->ml,slot_tuple_add->mq,entry_dict_get->mw,plain_set_new->mH,type_list_pop->mI
open PySem.SetTable.below renaming go->fU
open PyProof.Rows renaming StrsAre->gY,AllBare->dm,subscriptTail_builtinR->lp,listUpdate_at->jP,seqEpoch_at->j9,IntsAre->gn,IsTup->dQ,Subscript_->kg
open PySem.SeqAt.EqAt renaming same->f6,of_refs->jw,int_str->lT,str_int->lU,str_str->lX
open Ne renaming symm->cQ
open Nat.succ renaming inj->gd
open PySem.AutoSeq1 renaming sub_tuple_tuple->lg,wpAny_loadPart'->lh
open Sum.inr renaming inj->ip
open List.Perm renaming refl->jJ
open LawfulBEq renaming eq_of_beq->gh
open PySem.Heap.SameBut renaming update->lM
open PySem.Paired renaming length->jK,snoc->mY
open PySem.Shared renaming TypeIs->jO
open List.cons renaming inj->jR
open PySem.SeqAt renaming EqAt->iu
open PySem.Walks renaming list->iy,dictKeys->mO
open PySem.Code renaming isFrame->jW
open Prod.mk renaming inj->j2
open PySem.Moved renaming trans->j8
open PySem.Builtin.Frozenset renaming updateFrom->nR,newClass->nS
open PySem.PassesOwn renaming never->mK
open PySem.Txt renaming mul->gq
open PySem.Value renaming isStrOf->mP,isInt->mX
open PySem.Heap.IsSliceOf renaming new->nU
open PySem.W.WShape renaming has->mZ
def aH:=@decide_eq_false
def ai:=@if_pos
def aT:=@decide_eq_true
def aj:=@if_neg
def ao:=@absurd
def bq:=@of_decide_eq_true
def bG:=@decide_eq_true_eq
def aR:=@congrArg
abbrev cy:=List (PySem.Addr×PySem.Obj)
abbrev aB:=List PySem.Str
set_option Elab.async false
set_option linter.all false
namespace L5
open PySem PySem.W
noncomputable def pick(l:List Obj):Nat->List Addr->List Obj:=
 @List.rec Obj (λ_=>Nat->List Addr->List Obj) (λ_ _=>[])
  (λo _ ih i as=>@List.rec Addr (λ_=>List Obj) [] (λa r _=>@kr (λ_=>List Obj) (ih (Nat.succ i) as) (o::ih (Nat.succ i) r) (gm a i)) as) l
theorem LJ(i:Nat)(as:List Addr):pick [] i as=[]:=rfl
theorem OC(o:Obj)(l:List Obj)(i:Nat)(r:List Addr):pick (o::l) i (i::r)=o::pick l (i+1) r:=by show @kr (λ_=>List Obj) _ _ (gm i i)=_;rw[Nat.beq_refl];rfl
theorem OD(o:Obj)(l:List Obj)(i a:Nat)(r:List Addr)(h:a≠i):pick (o::l) i (a::r)=pick l (i+1) (a::r):=by
 show @kr (λ_=>List Obj) _ _ (gm a i)=_;have:gm a i=false:=by
  cases q:gm a i with
  |false=>rfl
  |true=>exact ao (Nat.eq_of_beq_eq_true q) h
 rw[this];rfl
theorem ER:∀(l:List Obj) (i:Nat) (as:List Addr),(pick l i as).length=as.length->∀j (hj:j<as.length),∃b,as[j]=i+b/\l[b]?=(pick l i as)[j]?
 |[],i,as,h,j,hj=>by rw[LJ]at h;simp at h;omega
 |o::l,i,[],h,j,hj=>by simp at hj
 |o::l,i,a::r,h,j,hj=>by
  by_cases q:a=i
  ·subst q;rw[OC]at h ⊢;cases j with
   |zero=>exact⟨0,rfl,rfl⟩
   |succ j=>obtain⟨b,e1,e2⟩:=ER l (a+1) r (by simpa using h) j (by simpa using hj);exact⟨b+1,by rw[List.getElem_cons_succ,e1];exact lR a 1 b,by simpa using e2⟩
  ·rw[OD _ _ _ _ _ q]at h ⊢;obtain⟨b,e1,e2⟩:=ER l (i+1) (a::r) h j hj;exact⟨b+1,by rw[e1];exact lR i 1 b,by simpa using e2⟩
def live(o:Obj):Bool:=match o with|⟨_,_,.freed,_⟩=>false|_=>true
theorem OE{h:Heap}{as:List Addr}{K:Frag}(e:as=K.map (·.1))(x:(pick h.objs.toList 0 as,K.all λp=>live p.2)=(K.map (·.2),true)):K.In h:=by
 obtain⟨x1,x2⟩:=j2 x;refine Frag.in_of e (l6 λj=>?_);rw[bj,bj];by_cases hj:j<as.length
 ·have hl:(pick h.objs.toList 0 as).length=as.length:=by rw[x1,e,ah,ah]
  obtain⟨b,e1,e2⟩:=ER _ _ _ hl j hj;have hk:j<K.length:=by rw[e,ah]at hj;exact hj
  rw[aL hj,aL hk,eB,eB,e1,Nat.zero_add];have e3:h.objs[b]?=some (K[j].2):=by rw[<-jb,e2,x1,bj,aL hk];rfl
  have lv:live K[j].2=true:=bC.mp x2 _ (cZ hk);refine aR some ?_;unfold Heap.get?;rw[e3];revert lv;cases K[j].2 with
  |mk c d data sl=>cases data<;>intro lv<;>first|rfl|cases lv
 ·rw[fP (by omega),fP (by rw[e,ah]at hj;omega)];rfl
noncomputable def V2(K:Params->Frag) (as:List Addr) (e:∀P,as=(K P).map (·.1)):Hook:=
 ⟨List Obj×Bool,λs=>(pick s.heap.objs.toList 0 as,true),λw=>((K w.params).map (·.2),(K w.params).all λp=>live p.2),InK K,λw s x=>OE (e w.params) (by
  obtain⟨x1,x2⟩:=j2 x;rw[x1,<- x2]),InK.keeps⟩
end L5
section
open PySem PySem.W PyProof.Rows
local macro_rules|`(tactic|o_head ($f:ident $k $as $e))=>`(tactic|o_head ((L5.V2 $k $as (fun _=>by kernel_rfl)):W.Hook))
local macro_rules|`(command|#where)=>do
 let mut r:=#[]
 for n in [43:1697] do
  let x:=Lean.mkIdent (.mkSimple s!"tw{((Lean.Name.mkSimple "hd").str s!"o_{n}").hash}")
  r:=r.push ((<-`(command|noncomputable def $x:ident:=0)).raw.rewriteBottomUp (·.setInfo .none))
 return Lean.mkNullNode r
noncomputable section
namespace PySem.W.Fast
def tw7114331638534920054:=0
def tw242658763761655840:=0
def tw8392064620871618817:=0
def tw662514624603801313:=0
def tw344948819180407745:=0
def tw5969007393038138051:=0
def tw15709406588529926149:=0
def tw8892601084892991942:=0
def tw7051923422236005608:=0
def tw12974521656910163624:=0
def tw10374632558016547081:=0
def tw7565920981138742603:=0
def tw938635154573522699:=0
def tw14572810596863954285:=0
def tw7639169818455392173:=0
def tw6300683209687049262:=0
def tw7774113678449685934:=0
def tw15464270588779422128:=0
def tw6429771649973162960:=0
def tw17472811087150755858:=0
def tw10968801011373222770:=0
def tw861502493610598483:=0
def tw18168846237328670995:=0
def tw1396268111144954227:=0
def tw13172660604052367476:=0
def tw11070388883789476980:=0
def tw6344153461787385748:=0
def tw4852598208274030645:=0
def tw2789366408237562005:=0
def tw5617726103321767126:=0
def tw15311470361507034358:=0
def tw18237906538492839801:=0
def tw4529759306923343198:=0
def tw4642255945157176958:=0
def tw13049043944605299518:=0
def tw10076701801029333439:=0
def tw871667364710518783:=0
def tw11719068948213365774:=0
def tw8520198449270238397:=0
def tw5345397513012891929:=0
def tw18433024733513635098:=0
def tw8730367617459091693:=0
def tw15500368018277343480:=0
def tw4361683134600772621:=0
def tw18338812989404203605:=0
def tw6784737039638806343:=0
def tw8997383693586321770:=0
def tw5930135305076673311:=0
def tw5229642192039948113:=0
def tw7183593518928777464:=0
def tw8327717152232216106:=0
#where
end PySem.W.Fast
end
def zvp:=PySem.Challenge.pw_tellworld_k29_tests_and_deeds_told
noncomputable def zvq:=PySem.W.view zvp [168]
local macro_rules|`(tactic|refine $t)=>do
 if t.raw[0].getId != ``PySem.W.holds_open||t.raw[1][0][3].getId.eraseMacroScopes== `zvq then Lean.Macro.throwUnsupported
 let n:=fun (i:Nat) (x:Lean.Term) (a:Array Lean.Syntax)=>a.set! i (a[i]!.setArg 3 x)
 `(tactic|refine $(Lean.TSyntax.mk (t.raw.setArg 1 (Lean.mkNullNode (n 0 (<-`(zvq)) (n 1 (<-`(zvp.boundNames)) (n 2 (<-`(fun s=>PySem.W.xlAt zvq [] s&&PySem.W.recOk [] s)) (n 3 (<-`(PySem.W.XL zvq [])) t.raw[1].getArgs))))))))
set_option maxRecDepth 100000 in
set_option maxHeartbeats 0 in
open_top hd for PySem.Challenge.rw_tellworld_k29_tests_and_deeds_told
end
set_option maxRecDepth 100000
namespace L2
open PySem PySem.Spec PyProof.Rows
abbrev Key:=Sum Int Str
def DV:Key->ae->Bool
 |.inl k,v=>mX k v
 |.inr x,v=>mP x v
def XI(w:aI):Key->Int
 |.inl k=>hashInt k
 |.inr x=>hashStr w x
theorem pP:∀{k:Key} {v:ae},DV k v=true->(∃i t,k=Sum.inl i/\v=Value.int i t)\/(∃x t,k=Sum.inr x/\v=Value.str x t)
 |.inl i,v,h=>by obtain⟨t,e⟩:=Value.isInt_shape (k:=i) (v:=v) h;exact .inl ⟨i,t,rfl,e⟩
 |.inr x,v,h=>by obtain⟨t,e⟩:=Value.isStrOf_shape (x:=x) (v:=v) h;exact .inr ⟨x,t,rfl,e⟩
theorem Kq(i:Int)(t:Tok):DV (.inl i) (.int i t)=true:=by simp[DV,mX]
theorem Kr(x:Str)(t:Tok):DV (.inr x) (.str x t)=true:=by simp[DV,mP]
theorem RO(a b:Int):decide ((Sum.inl a:Key)=Sum.inl b)=(a==b):=by
 by_cases e:a=b
 ·subst e;simp
 ·have h:¬(Sum.inl a:Key)=Sum.inl b:=λq=>e (Sum.inl.inj q);rw[aH h];exact(beq_eq_false_iff_ne.mpr e).symm
theorem RP(a b:Str):decide ((Sum.inr a:Key)=Sum.inr b)=decide (a=b):=by
 by_cases e:a=b
 ·subst e;simp
 ·have h:¬(Sum.inr a:Key)=Sum.inr b:=λq=>e (ip q);rw[aH h,aH e]
theorem RQ(a:Int)(b:Str):decide ((Sum.inl a:Key)=Sum.inr b)=false:=aH (λq=>nomatch q)
theorem RR(a:Str)(b:Int):decide ((Sum.inr a:Key)=Sum.inl b)=false:=aH (λq=>nomatch q)
def oQ(prog:aS)(w:aI):PySem.KeyKind prog w Key where
 is:=DV
 hash:=XI w
 inj:=λv a b ha hb=>by
  rcases pP ha with ⟨i,t,rfl,rfl⟩|⟨x,t,rfl,rfl⟩
  ·rcases pP hb with ⟨j,u,rfl,e⟩|⟨y,u,rfl,e⟩
   ·injection e with e1 _;rw[e1]
   ·exact nomatch e
  ·rcases pP hb with ⟨j,u,rfl,e⟩|⟨y,u,rfl,e⟩
   ·exact nomatch e
   ·injection e with e1 _;rw[e1]
 byValue:=λk v h=>by rcases pP h with ⟨i,t,rfl,rfl⟩|⟨x,t,rfl,rfl⟩<;>rfl
 pyHash:=λhv h=>by
  rcases pP hv with ⟨i,t,rfl,rfl⟩|⟨x,t,rfl,rfl⟩
  ·exact wpAny_pyHash_int h
  ·exact wpAny_pyHash_str h
 eqBool:=λhu hv h=>by
  rcases pP hu with ⟨i,t,rfl,rfl⟩|⟨x,t,rfl,rfl⟩
  ·rcases pP hv with ⟨j,u,rfl,rfl⟩|⟨y,u,rfl,rfl⟩
   ·rw[RO]at h;exact wpAny_eqBool_int h
   ·rw[RQ]at h;exact lT i t y u _ _ _ _ h
  ·rcases pP hv with ⟨j,u,rfl,rfl⟩|⟨y,u,rfl,rfl⟩
   ·rw[RR]at h;exact lU x t j u _ _ _ _ h
   ·rw[RP]at h;exact wpAny_eqBool_str h
 «strs»:=λk x t v h=>by
  rcases pP h with ⟨i,u,rfl,e⟩|⟨y,u,rfl,e⟩
  ·exact nomatch e
  ·injection e with e1 _;subst e1;cases v<;>rfl
theorem FV(prog:aS)(w:aI)(i:Int)(t:Tok):(oQ prog w).is (.inl i) (.int i t)=true:=Kq i t
theorem FW(prog:aS)(w:aI)(x:Str)(t:Tok):(oQ prog w).is (.inr x) (.str x t)=true:=Kr x t
inductive V where
 |non|bl (b:Bool)|int (i:Int)|str (x:Str)|byt (b:Array UInt8)|flt (b:UInt64)|ref (a:Addr)|ty (n:String)
 deriving DecidableEq
abbrev bA:=List V
def RelV:V->ae->Prop
 |.non,u=>u=Value.none
 |.bl b,u=>u=Value.bool b
 |.int i,u=>∃t,u=Value.int i t
 |.str x,u=>∃t,u=Value.str x t
 |.byt b,u=>∃t,u=Value.bytes b t
 |.flt b,u=>∃t,u=Value.float b t
 |.ref a,u=>u=Value.ref a
 |.ty n,u=>u=Value.type n
abbrev Vals:bA->List ae->Prop:=eG RelV
theorem Vals.length(r:Vals xs us):xs.length=us.length:=jK r
theorem Vals.get:∀{xs:bA} {us:List ae} {i:Nat} {x:V},Vals xs us->xs[i]?=some x->∃u,us[i]?=some u/\RelV x u
 |_,_,_,_,.nil,e=>by simp at e
 |_,_,0,_,.cons r _,e=>by simp at e;subst e;exact⟨_,rfl,r⟩
 |_,_,i+1,x,.cons _ t,e=>by obtain⟨u,h1,h2⟩:=Vals.get (i:=i) (x:=x) t (by simpa using e);exact⟨u,by simpa using h1,h2⟩
theorem Vals.set(r:RelV x u):∀{xs:bA} {us:List ae} (i:Nat),Vals xs us->Vals (xs.set i x) (us.set i u)
 |_,_,_,.nil=>.nil
 |_,_,0,.cons _ t=>.cons r t
 |_,_,i+1,.cons q t=>.cons q (Vals.set r i t)
theorem Vals.append:∀{xs ys:bA} {us ws:List ae},Vals xs us->Vals ys ws->Vals (xs++ys) (us++ws)
 |_,_,_,_,.nil,s=>s
 |_,_,_,_,.cons r t,s=>.cons r (Vals.append t s)
theorem Vals.take:∀{xs:bA} {us:List ae} (n:Nat),Vals xs us->Vals (xs.take n) (us.take n)
 |_,_,0,_=>.nil
 |_,_,_+1,.nil=>.nil
 |_,_,n+1,.cons r t=>.cons r (Vals.take n t)
theorem Vals.drop:∀{xs:bA} {us:List ae} (n:Nat),Vals xs us->Vals (xs.drop n) (us.drop n)
 |_,_,0,r=>r
 |_,_,_+1,.nil=>.nil
 |_,_,n+1,.cons _ t=>Vals.drop n t
def xm:Option V->Option ae->Prop
 |some v,some u=>RelV v u
 |none,none=>True
 |_,_=>False
def KV{κ:Type}:List (κ×V)->List (κ×ae)->Prop:=eG λ(p:κ×V) (q:κ×ae)=>p.1=q.1/\RelV p.2 q.2
def kV:Key->V
 |.inl i=>.int i
 |.inr x=>.str x
inductive HO where
 |lst (xs:bA)
 |tup (xs:bA)
 |dK (kvs:List (Key×V))|dT (kvs:List (List Key×V))
 |set (S:Int->Bool) (n:Nat)
 |ins (C dx:Addr) (fs:List (Str×V))
 |own (x:Addr)
 |xd (fs:List (Str×V))
 |met (f x:Addr)
 |rng (lo hi:Int)
 |frz (o:Obj) (u:HO)
 |tbl (ps:Array ae)
 |ext (φ:Heap->Prop)
abbrev Hp:=Addr->Option HO
def upd(H:Hp)(a:Addr)(o:HO):Hp:=λb=>if b=a then some o else H b
theorem om:upd H a o a=some o:=by unfold upd;rw[ai rfl]
theorem oo(h:b≠a):upd H a o b=H b:=by unfold upd;rw[aj h]
theorem V3{H:Hp}{a b:Addr}{o u:HO}(h:H a=some o)(h':H b=some u)(d:o≠u):a≠b:=by intro e;subst e;rw[h]at h';exact d (cf h')
theorem ra{H:Hp}{a b:Addr}{o:HO}(h:H a=some o)(h':H b=none):a≠b:=by intro e;subst e;rw[h]at h';cases h'
section
variable(P:aS)(w:aI)
def pI(H:Hp)(h:Heap)(a:Addr):HO->Prop
 |.lst xs=>xs.length<=sizeLine/\∃(its:List ae) (n:Nat),Vals xs its/\h.get? a=some { cls:=.type "list", data:=.seq its.toArray n }
 |.tup xs=>xs.length<=sizeLine/\∃its:List ae,Vals xs its/\dQ h a its.toArray
 |.dK kvs=>kvs.length<=sizeLine/\(a==sysModules)=false/\∃vs,KV kvs vs/\h.DictOf (oQ P w) a vs
 |.dT kvs=>kvs.length<=sizeLine/\(a==sysModules)=false/\∃xs:List (List Key×Addr×ae),
   eG (λ(p:List Key×V) (q:List Key×Addr×ae)=>p.1=q.1/\H q.2.1=some (.tup (p.1.map kV))/\RelV p.2 q.2.2) kvs xs/\
   ∃o es ep,h.get? a=some o/\o.ExactDict/\o.data=.dict es ep/\es.toList=xs.map (entryOfKey (tupleKind (oQ P w)))/\(xs.map (·.1)).Nodup
 |.set S n=>h.SetOf (intKind P w) a S n
 |.ins C dx fs=>H dx=some (.own a)/\fs.length<=1000/\dx≠a/\h.get? a=some (dj C dx)/\
   ∃mA,h.Ns1 dx mA/\(∀f,xm (fs.lookup f) (mA f))/\jT mA (fs.map (·.1))
 |.own _=>∃o,h.get? a=some o
 |.xd fs=>∃mA,h.Ns1 a mA/\∀f,xm (fs.lookup f) (mA f)
 |.rng lo hi=>∃t u v,h.get? a=some { cls:=.type "range", data:=.fields #[.int lo t,.int hi u,.int 1 v] }
 |.frz o u=>h.get? a=some o/\pI H h a u
 |.tbl ps=>h.get? a=some { cls:=.none,data:=.fields ps }
 |.met f x=>h.get? a=some (j3 (.ref f) (.ref x))
 |.ext φ=>φ h/\(∃o,h.get? a=some o)/\∀h1 h2:Heap,φ h1->(∀o,h1.get? a=some o->h2.get? a=some o)->φ h2
def HOk(H:Hp)(h:Heap):Prop:=∀a o,H a=some o->pI P w H h a o
end
section
variable{P:aS}{w:aI}{H H':Hp}{h h':Heap}{a:Addr}{o:HO}
theorem pI.lt(x:pI P w H h a o):a<h.objs.size:=by
 cases o with
 |lst xs=>obtain⟨_,_,_,_,e⟩:=x;exact aN e
 |tup xs=>obtain⟨_,_,_,p⟩:=x;exact p.lt
 |dK kvs=>obtain⟨_,_,_,_,o,_,_,e,_⟩:=x;exact aN e
 |dT kvs=>obtain⟨_,_,_,_,o,_,_,e,_⟩:=x;exact aN e
 |set S n=>obtain⟨o,_,_,_,e,_⟩:=x;exact aN e
 |ins C dx fs=>obtain⟨_,_,_,e,_⟩:=x;exact aN e
 |own y=>obtain⟨_,e⟩:=x;exact aN e
 |xd fs=>obtain⟨_,⟨_,_,_,e,_⟩,_⟩:=x;exact aN e
 |rng lo hi=>obtain⟨_,_,_,e⟩:=x;exact aN e
 |frz ob u=>obtain⟨e,_⟩:=x;exact aN e
 |tbl ps=>exact aN (show h.get? a=some _ from x)
 |met f y=>exact aN (show h.get? a=some _ from x)
 |ext φ=>obtain⟨_,⟨_,e⟩,_⟩:=x;exact aN e
theorem Paired.mapP{α β:Type}{F G:α->β->Prop}:∀{l₁:List α} {l₂:List β},eG F l₁ l₂->(∀a b,F a b->G a b)->eG G l₁ l₂
 |_,_,.nil,_=>.nil
 |_,_,.cons r t,f=>.cons (f _ _ r) (Paired.mapP t f)
theorem pI.stay(x:pI P w H h a o)(k:∀b u,(b=a\/H b=some (.own a))->h.get? b=some u->h'.get? b=some u)
  (ho:∀b,H b=some (.own a)->H' b=some (.own a)) (ht:∀b xs,H b=some (.tup xs)->H' b=some (.tup xs)):pI P w H' h' a o:=by
 induction o with
 |lst xs=>obtain⟨z,its,n,r,e⟩:=x;exact⟨z,its,n,r,k _ _ (.inl rfl) e⟩
 |tup xs=>obtain⟨z,its,r,ob,e,c⟩:=x;exact⟨z,its,r,ob,k _ _ (.inl rfl) e,c⟩
 |dK kvs=>obtain⟨z,y,vs,r,ob,es,ep,e,c⟩:=x;exact⟨z,y,vs,r,ob,es,ep,k _ _ (.inl rfl) e,c⟩
 |dT kvs=>obtain⟨z,y,xs,r,ob,es,ep,e,c⟩:=x;exact⟨z,y,xs,Paired.mapP r λp q z=>⟨z.1,ht _ _ z.2.1,z.2.2⟩,ob,es,ep,k _ _ (.inl rfl) e,c⟩
 |set S n=>obtain⟨ob,es,ep,t,e,c⟩:=x;exact⟨ob,es,ep,t,k _ _ (.inl rfl) e,c⟩
 |ins C dx fs=>obtain⟨d,z,ne,e,mA,⟨od,es,ep,e2,c⟩,r⟩:=x;exact⟨ho _ d,z,ne,k _ _ (.inl rfl) e,mA,⟨od,es,ep,k _ _ (.inr d) e2,c⟩,r⟩
 |own y=>obtain⟨ob,e⟩:=x;exact⟨ob,k _ _ (.inl rfl) e⟩
 |xd fs=>obtain⟨mA,⟨od,es,ep,e,c⟩,r⟩:=x;exact⟨mA,⟨od,es,ep,k _ _ (.inl rfl) e,c⟩,r⟩
 |rng lo hi=>obtain⟨t,u,v,e⟩:=x;exact⟨t,u,v,k _ _ (.inl rfl) e⟩
 |frz ob u ih=>obtain⟨e,q⟩:=x;exact⟨k _ _ (.inl rfl) e,ih q⟩
 |tbl ps=>have e:h.get? a=some { cls:=.none,data:=.fields ps }:=x;show h'.get? a=some { cls:=.none,data:=.fields ps };exact k a _ (.inl rfl) e
 |met f y=>have e:h.get? a=some (j3 (.ref f) (.ref y)):=x;show h'.get? a=some (j3 (.ref f) (.ref y));exact k a _ (.inl rfl) e
 |ext φ=>obtain⟨p,⟨o,e⟩,st⟩:=x;exact⟨st _ _ p λo q=>k _ _ (.inl rfl) q,⟨o,k _ _ (.inl rfl) e⟩,st⟩
theorem HOk.lt(x:HOk P w H h)(e:H a=some o):a<h.objs.size:=(x a o e).lt
theorem HOk.fresh(x:HOk P w H h)(e:h.objs.size<=a):H a=none:=by
 cases q:H a with
 |none=>rfl
 |some u=>exact ao (bZ (x.lt q) e) (di _)
theorem HOk.kept(x:HOk P w H h)(k:∀b u,h.get? b=some u->h'.get? b=some u):HOk P w H h':=λa o e=>
 (x a o e).stay (λb u _ q=>k b u q) (λ_ q=>q) λ_ _ q=>q
theorem HOk.laid(x:HOk P w H h)(k:∀b u,h.get? b=some u->h'.get? b=some u)(hp:h.objs.size<=a)(new:pI P w (upd H a o) h' a o):HOk P w (upd H a o) h':=λb u e=>by
 have hn:=x.fresh hp;by_cases hb:b=a
 ·subst hb;rw[om]at e;cases e;exact new
 ·rw[oo hb]at e;exact(x b u e).stay (λc v _ q=>k c v q) (λc q=>by rw[oo (ra q hn)];exact q) λc xs q=>by rw[oo (ra q hn)];exact q
end
def Rd(H:Hp)(a:Addr)(u:HO):Prop:=H a=some u\/∃o,H a=some (.frz o u)
theorem Rd.ok(r:Rd H a u)(x:HOk P w H h):pI P w H h a u:=by
 rcases r with r|⟨o,r⟩
 ·exact x a u r
 ·obtain⟨_,q⟩:=x a _ r;exact q
def Mut:Option HO->Prop
 |some (.lst _)=>True
 |some (.dK _)=>True
 |some (.dT _)=>True
 |some (.set _ _)=>True
 |some (.ins _ _ _)=>True
 |some (.ext _)=>True
 |_=>False
section
variable{P:aS}{w:aI}{H:Hp}{h h':Heap}{x e:Addr}{o':HO}
theorem HOk.write(ok:HOk P w H h)(mu:Mut (H x))(he:e=x\/H e=some (.own x))(k:∀b u,b≠e->h.get? b=some u->h'.get? b=some u)(heo:∃u,h'.get? e=some u)
  (new:pI P w (upd H x o') h' x o'):HOk P w (upd H x o') h':=λb u q=>by
 have nown:∀c y,H c=some (.own y)->c≠x:=λc y r z=>by subst z;rw[r]at mu;exact mu
 have ntup:∀c xs,H c=some (.tup xs)->c≠x:=λc xs r z=>by subst z;rw[r]at mu;exact mu
 by_cases hb:b=x
 ·subst hb;rw[om]at q;cases q;exact new
 ·rw[oo hb]at q;by_cases hbe:b=e
  ·have q':H b=some (.own x):=by
    rcases he with z|z
    ·exact ao (hbe.trans z) hb
    ·rw[hbe];exact z
   rw[q]at q';cases q';obtain⟨v,hv⟩:=heo;exact⟨v,by rw[hbe];exact hv⟩
  ·refine(ok b u q).stay (λc v hc r=>k c v ?_ r) (λc r=>by rw[oo (nown c b r)];exact r) λc xs r=>by rw[oo (ntup c xs r)];exact r
   rcases hc with rfl|hc
   ·exact hbe
   ·rintro rfl;rcases he with z|z
    ·exact nown c b hc z
    ·rw[hc]at z;cases z;exact hb rfl
end
structure Un(fs ex:List Addr)(H H':Hp)(h h':Heap):Prop where
 keep:∀b o,h.get? b=some o->H b=none->b∉fs->b∉ex->h'.get? b=some o
 slot:∀b o,h.get? b=some o->H b=none->b∈fs->b∉ex->∃sl,h'.get? b=some { o with slots:=sl }
 free:∀b o,h.get? b=some o->H b=none->b∉ex->H' b=none
 there:∀b o,h.get? b=some o->b∉ex->∃o',h'.get? b=some o'
 tups:∀b xs,H b=some (.tup xs)->H' b=some (.tup xs)
 frzs:∀b o u,H b=some (.frz o u)->H' b=some (.frz o u)
 tbls:∀b ps,H b=some (.tbl ps)->∃more,H' b=some (.tbl (ps++more))
section
variable{fs fs' ex ex':List Addr}{H H1 H2:Hp}{h h1 h2 h':Heap}{a x e:Addr}{o:HO}
theorem Un.any(u:Un fs ex H H1 h h1)(q:h.get? b=some ob)(n:H b=none)(hx:b∉ex):∃sl,h1.get? b=some { ob with slots:=sl }:=by
 by_cases hb:b∈fs
 ·exact u.slot b ob q n hb hx
 ·exact⟨ob.slots,u.keep b ob q n hb hx⟩
theorem Un.kept(k:∀b u,h.get? b=some u->h'.get? b=some u):Un fs ex H H h h':=
 ⟨λb ob q _ _ _=>k b ob q,λb ob q _ _ _=>⟨ob.slots,k b ob q⟩,λ_ _ _ n _=>n,λb ob q _=>⟨ob,k b ob q⟩,λ_ _ q=>q,λ_ _ _ q=>q,λ_ ps q=>⟨#[],by rw[q];simp⟩⟩
theorem Un.refl:Un fs ex H H h h:=Un.kept λ_ _ q=>q
theorem Un.laid(k:∀b u,h.get? b=some u->h'.get? b=some u)(hp:h.objs.size<=a)(hn:H a=none):Un fs ex H (upd H a o) h h' where
 keep:=λb u q _ _ _=>k b u q
 slot:=λb u q _ _ _=>⟨u.slots,k b u q⟩
 free:=λb u q n _=>by rw[oo (aX (bZ (aN q) hp))];exact n
 there:=λb u q _=>⟨u,k b u q⟩
 tups:=λb xs q=>by rw[oo (ra q hn)];exact q
 frzs:=λb u xs q=>by rw[oo (ra q hn)];exact q
 tbls:=λb ps q=>⟨#[],by rw[oo (ra q hn),q];simp⟩
theorem Un.write(mu:Mut (H x))(he:e=x\/H e=some (.own x))(k:∀b u,b≠e->h.get? b=some u->h'.get? b=some u)(heo:∃u,h'.get? e=some u):Un fs ex H (upd H x o) h h':=by
 have hx:∀b,H b=none->b≠x:=λb n z=>by subst z;rw[n]at mu;exact mu
 have hb:∀b,H b=none->b≠e:=λb n z=>by
  subst z;rcases he with r|r
  ·exact hx b n r
  ·rw[n]at r;cases r
 have hm:∀b u,H b=some u->¬Mut (some u)->b≠x:=λb u q nm z=>by subst z;rw[q]at mu;exact nm mu
 refine⟨λb u q n _ _=>k b u (hb b n) q,λb u q n _ _=>⟨u.slots,k b u (hb b n) q⟩,λb u q n _=>by rw[oo (hx b n)];exact n,λb u q _=>?_,
  λb xs q=>by rw[oo (hm b _ q λz=>z)];exact q,λb u xs q=>by rw[oo (hm b _ q λz=>z)];exact q,λb ps q=>⟨#[],by rw[oo (hm b _ q λz=>z),q];simp⟩⟩
 by_cases hbe:b=e
 ·subst hbe;exact heo
 ·exact⟨u,k b u hbe q⟩
end
def trk(h:Heap)(H:Hp):List Addr:=(bz h.objs.size).filter λa=>(H a).isSome
def ES(h:Heap)(H:Hp):Heap:=W.hideAll h (trk h H)
theorem Ks(h:Heap)(H:Hp):(ES h H).objs.size=h.objs.size:=W.hideAll_size _ _
theorem LK{h:Heap}(e:h.get? b=some o)(n:H b=none):(ES h H).get? b=some o:=
 W.hideAll_get _ e λhm=>by have q:(H b).isSome=true:=(bS.mp hm).2;rw[n]at q;simp at q
theorem OF(e:(ES h H).get? b=some o):h.get? b=some o/\H b=none:=by
 have e':h.get? b=some o:=W.of_hideAll (trk h H) e;refine⟨e',?_⟩;cases q:H b with
 |none=>rfl
 |some x=>have hm:b∈trk h H:=bS.mpr ⟨cq.mpr (aN e'),by simp[q]⟩;have z:(ES h H).get? b=none:=W.hideAll_none (trk h H) hm;rw[z]at e;cases e
def OG(g h:Heap)(L:Addr):cy:=(bz h.objs.size).filterMap λa=>if a=L\/(g.get? a).isSome=true then none else (h.get? a).map λo=>(a,o)
def rest(g h:Heap)(L d:Addr):cy:=(OG g h L).filter λp=>decide (p.1≠d)
structure Mod(K:aw)(mg:Str->Option ae)(base:Heap):Prop where
 kin:K.In base
 glob:base.Ns mainGlobals mg
 blt:∃mb,base.Ns builtinsNs mb/\∀x:Str,x≠"__name__" -> mb x=bootBuiltins x
 nolimit:base.NoLimit
structure Cx where
 prog:aS
 w:aI
 K:aw
 mg:Str->Option ae
 base:Heap
 A:aQ
 N:aB
 s₀:af
 H₀:Hp
 env:Env
 outer:List Env
 stack:List Env
 ex:List Addr
 fn:Str->Bool
 calm:Bool
 pn:cy
 xe:ae->af->Prop
def frs(l:List Env):List Addr:=l.filterMap (·.frame)
abbrev Cx.fs(X:Cx):List Addr:=frs X.outer
def Vis(sc:cD)(x:Str):Prop:=sc.names.lookup x=some .local\/sc.names.lookup x=some .cell\/sc.names.lookup x=some .free
def Loc(sc:cD)(x:Str):Prop:=sc.names.lookup x=some .local\/sc.names.lookup x=some .cell
def Look(env:Env)(h:Heap)(m:Str->Option ae)(x:Str)(u:ae):Prop:=
 (env.kindOf x=some .local/\m x=some u)\/((env.kindOf x=some .cell\/env.kindOf x=some .free)/\∃c,env.cells.lookup x=some c/\h.IsCell c (some u))
structure Cx.Ok(X:Cx):Prop where
 mod:Mod X.K X.mg X.base
 kind:X.env.scope.kind=.function
 glob:X.env.globals=mainGlobals
 blt:X.env.builtins=builtinsNs
 above:X.s₀.heap.objs.size<=X.env.locals
 inj:∀x y c,X.env.cells.lookup x=some c->X.env.cells.lookup y=some c->x=y
 has:∀x,(X.env.kindOf x=some .cell\/X.env.kindOf x=some .free)->∃c,X.env.cells.lookup x=some c
 cab:∀x c,X.fn x=true->X.env.cells.lookup x=some c->X.s₀.heap.objs.size<=c
 hd:X.calm=true->X.A.handled=none
 frames:X.A.frames=some X.stack
 stk:X.stack=X.outer\/(X.stack=X.env::X.outer/\X.env.frame=some X.env.locals)
 exf:∀b∈X.ex,b≠X.env.locals/\∀x c,X.env.cells.lookup x=some c->c≠b
 bs:∀b o,X.base.get? b=some o->X.s₀.heap.get? b=some o/\X.H₀ b=none
 bsz:X.base.objs.size<=X.s₀.heap.objs.size
 noex:∀b o,X.base.get? b=some o->b∉X.ex
 exfs:∀b∈X.ex,b∉X.fs
 funs:X.s₀.heap.FunFrames X.base X.outer
 frf:∀b∈X.fs,X.H₀ b=none
structure Inv(X:Cx)(pins:cy)(σ:List (Option V))(H:Hp)(s:af):Prop where
 ok:X.Ok
 os:s.os=X.s₀.os
 bare:dm s.gens
 base:Un X.fs X.ex X.H₀ H X.s₀.heap s.heap
 loc:∃m,s.heap.Ns X.env.locals m/\∀(i:Nat) (x:Str) (v:V),X.N[i]?=some x->σ[i]?=some (some v)->Vis X.env.scope x->∃u,RelV v u/\Look X.env s.heap m x u
 cell:∀x c,X.env.cells.lookup x=some c->∃v,s.heap.IsCell c v
 free:H X.env.locals=none
 freeC:∀x c,X.env.cells.lookup x=some c->H c=none
 pin:∀p∈X.pn++pins,s.heap.get? p.1=some p.2/\H p.1=none/\p.1≠X.env.locals/\p.1∉X.fs/\∀v,p.2.data≠.cell v
 hok:HOk X.prog X.w H s.heap
 len:σ.length=X.N.length
section
variable{X:Cx}{pins:cy}{σ:List (Option V)}{H H':Hp}{s:af}{h':Heap}
theorem Cx.Ok.nofr(ok:X.Ok)(e:X.base.get? b=some o):b∉X.fs:=λhb=>by have:=(ok.funs.mem hb).1;rw[e]at this;cases this
theorem Inv.bs(I:Inv X pins σ H s):∀b o,X.base.get? b=some o->s.heap.get? b=some o/\H b=none:=λb o e=>
 ⟨I.base.keep b o (I.ok.bs b o e).1 (I.ok.bs b o e).2 (I.ok.nofr e) (I.ok.noex b o e),I.base.free b o (I.ok.bs b o e).1 (I.ok.bs b o e).2 (I.ok.noex b o e)⟩
theorem Inv.bk(I:Inv X pins σ H s):∀b o,X.base.get? b=some o->s.heap.get? b=some o:=λb o e=>(I.bs b o e).1
theorem Inv.mod(I:Inv X pins σ H s):Mod X.K X.mg X.base:=I.ok.mod
theorem Inv.kIn(I:Inv X pins σ H s):X.K.In s.heap:=I.ok.mod.kin.keeps I.bk
theorem Inv.fr(I:Inv X pins σ H s):∃m,Fr X.base X.env.locals s.heap m:=
 let ⟨m,hn,_⟩:=I.loc
 ⟨m,hn,I.bk,bL I.ok.bsz I.ok.above⟩
theorem Inv.lt(I:Inv X pins σ H s):X.env.locals<s.heap.objs.size:=let ⟨_,hn,_⟩:=I.loc;hn.lt
theorem Inv.sz(I:Inv X pins σ H s):X.s₀.heap.objs.size<=s.heap.objs.size:=bL I.ok.above (fm I.lt)
theorem Inv.nofs(I:Inv X pins σ H s)(h:s.heap.objs.size<=a):a∉X.fs:=λhb=>by obtain⟨_,o,ho,_⟩:=I.ok.funs.mem hb;exact ao (bZ (aN ho) (bL I.sz h)) (di _)
theorem Inv.cne(I:Inv X pins σ H s):∀x c,X.env.cells.lookup x=some c->c≠X.env.locals:=λx c e z=>by obtain⟨v,o,ho,hd⟩:=I.cell x c e;obtain⟨m,⟨o',es,ep,ho',hd',_⟩,_⟩:=I.loc;rw[z,ho']at ho;cases ho;rw[hd']at hd;cases hd
theorem Inv.funs(I:Inv X pins σ H s):s.heap.FunFrames X.base X.outer:=by
 have all:∀(l:List Env),(∀b∈frs l,b∈X.fs)->X.s₀.heap.FunFrames X.base l->s.heap.FunFrames X.base l:=by
  intro l
  induction l with
  |nil=>intro _ _;trivial
  |cons env r ih=>intro hs hl;obtain⟨hk,⟨L,o,hf,hn,ho,hd⟩,hr⟩:=hl;have hL:L∈X.fs:=hs L (by unfold frs;rw[jk,hf];exact ba);obtain⟨sl,e⟩:=I.base.slot L o ho (I.ok.frf L hL) hL λz=>I.ok.exfs L z hL;exact⟨hk,⟨L,_,hf,hn,e,hd⟩,ih (λb hb=>hs b (by unfold frs;rw[jk,hf];exact bh _ hb)) hr⟩
 exact all X.outer (λ_ hb=>hb) I.ok.funs
theorem Inv.stack(I:Inv X pins σ H s):s.heap.FunFrames X.base X.stack:=by
 rcases I.ok.stk with e|⟨e,hf⟩
 ·rw[e];exact I.funs
 ·rw[e];obtain⟨m,hn,_⟩:=I.loc;refine .cons (by rw[I.ok.kind];decide) hf hn ?_ I.funs;exact Heap.get?_none_of_le (bL I.ok.bsz I.ok.above)
theorem Inv.stkSub(I:Inv X pins σ H s):∀b∈frs X.stack,b∈X.env.locals::X.fs:=λb hb=>by
 rcases I.ok.stk with e|⟨e,hf⟩
 ·rw[e]at hb;exact bh _ hb
 ·rw[e]at hb;unfold frs at hb;rw[jk,hf]at hb;exact hb
theorem Inv.stkFree(I:Inv X pins σ H s):∀b∈frs X.stack,H b=none:=λb hb=>by
 rcases aM.mp (I.stkSub b hb)with e|hb
 ·rw[e];exact I.free
 ·obtain⟨_,o,ho,_⟩:=I.ok.funs.mem hb;exact I.base.free b o ho (I.ok.frf b hb) λz=>I.ok.exfs b z hb
theorem Inv.step{g':Array gj}{t':Nat}{d':Drawn}{ch:List Addr}(I:Inv X pins σ H s)
  (hch:∀b∈ch,(b∈X.ex\/X.s₀.heap.objs.size<=b)/\b≠X.env.locals/\(∀x c,X.env.cells.lookup x=some c->c≠b)/\∀p∈X.pn++pins,p.1≠b)
  (keep:∀b o,b≠X.env.locals->b∉X.fs->b∉ch->s.heap.get? b=some o->H b=none->h'.get? b=some o)
  (slot:∀b o,b≠X.env.locals->b∈X.fs->b∉ch->s.heap.get? b=some o->H b=none->∃sl,h'.get? b=some { o with slots:=sl }) (free:∀b o,b∉ch->s.heap.get? b=some o->H b=none->H' b=none)
  (there:∀b o,b∉ch->s.heap.get? b=some o->∃o',h'.get? b=some o')
  (tups:∀b xs,H b=some (.tup xs)->H' b=some (.tup xs)) (frzs:∀b o u,H b=some (.frz o u)->H' b=some (.frz o u)) (tbls:∀b ps,H b=some (.tbl ps)->∃more,H' b=some (.tbl (ps++more)))
  (ns:∀m,s.heap.Ns X.env.locals m->h'.Ns X.env.locals m) (hok:HOk X.prog X.w H' h') (hg:dm g'):
  Inv X pins σ H' { s with heap:=h',gens:=g',drawn:=d',toks:=t' }:=by
 have neL:∀b o,X.s₀.heap.get? b=some o->b≠X.env.locals:=λb o e=>aX (bZ (aN e) I.ok.above);have neC:∀b o,X.s₀.heap.get? b=some o->b∉X.ex->b∉ch:=λb o e hx hb=>by
  rcases(hch b hb).1 with z|z
  ·exact hx z
  ·exact ao (bZ (aN e) z) (di _)
 have cellK:∀x c,X.env.cells.lookup x=some c->∀v,s.heap.IsCell c v->h'.IsCell c v:=λx c e v ⟨o,ho,hd⟩=>by
  have nch:c∉ch:=λz=>(hch c z).2.2.1 x c e rfl;by_cases hc:c∈X.fs
  ·obtain⟨sl,q⟩:=slot c o (I.cne x c e) hc nch ho (I.freeC x c e);exact⟨_,q,hd⟩
  ·exact⟨o,keep c o (I.cne x c e) hc nch ho (I.freeC x c e),hd⟩
 refine⟨I.ok,I.os,hg,⟨λb o e n hb hx=>?_,λb o e n hb hx=>?_,λb o e n hx=>?_,λb o e hx=>?_,λb xs e=>tups b xs (I.base.tups b xs e),λb o xs e=>frzs b o xs (I.base.frzs b o xs e),λb ps e=>?_⟩,?_,λx c e=>?_,?_,λx c e=>?_,λp hp=>?_,hok,I.len⟩
 ·exact keep b o (neL b o e) hb (neC b o e hx) (I.base.keep b o e n hb hx) (I.base.free b o e n hx)
 ·obtain⟨sl,e1⟩:=I.base.slot b o e n hb hx;obtain⟨sl',e2⟩:=slot b _ (neL b o e) hb (neC b o e hx) e1 (I.base.free b o e n hx);exact⟨sl',e2⟩
 ·obtain⟨o',e1⟩:=I.base.there b o e hx;exact free b o' (neC b o e hx) e1 (I.base.free b o e n hx)
 ·obtain⟨o',e1⟩:=I.base.there b o e hx;exact there b o' (neC b o e hx) e1
 ·obtain⟨m1,e1⟩:=I.base.tbls b ps e;obtain⟨m2,e2⟩:=tbls b _ e1;exact⟨m1++m2,by rw[e2,Array.append_assoc]⟩
 ·obtain⟨m,hn,hl⟩:=I.loc;refine⟨m,ns m hn,λi x v e1 e2 e3=>?_⟩;obtain⟨u,r,l⟩:=hl i x v e1 e2 e3;refine⟨u,r,?_⟩;rcases l with l|⟨k,c,e,z⟩
  ·exact .inl l
  ·exact .inr ⟨k,c,e,cellK x c e _ z⟩
 ·obtain⟨v,z⟩:=I.cell x c e;exact⟨v,cellK x c e v z⟩
 ·obtain⟨m,⟨o,_,_,ho,_⟩,_⟩:=I.loc;exact free _ o (λz=>(hch _ z).2.1 rfl) ho I.free
 ·obtain⟨v,o,ho,hd⟩:=I.cell x c e;exact free c o (λz=>(hch c z).2.2.1 x c e rfl) ho (I.freeC x c e)
 ·obtain⟨e,n,ne,nf,d⟩:=I.pin p hp;have nch:p.1∉ch:=λz=>(hch p.1 z).2.2.2 p hp rfl;exact⟨keep p.1 p.2 ne nf nch e n,free p.1 p.2 nch e n,ne,nf,d⟩
theorem Inv.un(I:Inv X pins σ H s)(u:Un X.fs [] H H' s.heap h')(hok:HOk X.prog X.w H' h'):Inv X pins σ H' { s with heap:=h',toks:=t' }:=by
 obtain⟨m,⟨o,es,ep,ho,r⟩,_⟩:=id I.loc;obtain⟨sl,hL⟩:=u.any ho I.free (by simp);exact I.step (g':=s.gens) (d':=s.drawn) (ch:=[]) (λ_ z=>nomatch z) (λb o _ hb _ e n=>u.keep b o e n hb (by simp)) (λb o _ hb _ e n=>u.slot b o e n hb (by simp)) (λb o _ e n=>u.free b o e n (by simp)) (λb o _ e=>u.there b o e (by simp)) u.tups u.frzs u.tbls (λm' hm=>by
  obtain⟨o',es',ep',ho',r'⟩:=hm;rw[ho]at ho';cases ho';exact⟨_,es',ep',hL,r'⟩) hok I.bare
theorem Inv.call(I:Inv X pins σ H s)(u:Un (frs X.stack) ch H H' s.heap h')(hok:HOk X.prog X.w H' h')(hg:dm g')
  (hch:∀b∈ch,(b∈X.ex\/X.s₀.heap.objs.size<=b)/\b≠X.env.locals/\(∀x c,X.env.cells.lookup x=some c->c≠b)/\∀p∈X.pn++pins,p.1≠b):
  Inv X pins σ H' { s with heap:=h',gens:=g',drawn:=d',toks:=t' }:=by
 obtain⟨m,⟨o,es,ep,ho,r⟩,_⟩:=id I.loc;obtain⟨sl,hL⟩:=u.any ho I.free λz=>(hch _ z).2.1 rfl;exact I.step (ch:=ch) hch (λb o hL hb hc e n=>u.keep b o e n (λz=>(aM.mp (I.stkSub b z)).elim hL hb) hc) (λb o _ _ hc e n=>u.any e n hc) (λb o hc e n=>u.free b o e n hc) (λb o hc e=>u.there b o e hc) u.tups u.frzs u.tbls (λm' hm=>by
  obtain⟨o',es',ep',ho',r'⟩:=hm;rw[ho]at ho';cases ho';exact⟨_,es',ep',hL,r'⟩) hok hg
theorem Inv.turned(I:Inv X pins σ H s)(k:∀b o,b≠it->s.heap.get? b=some o->h'.get? b=some o)(hn:H it=none)(hL:it≠X.env.locals)
  (h1:it∈X.ex\/X.s₀.heap.objs.size<=it) (h2:∀x c,X.env.cells.lookup x=some c->c≠it) (h3:∀p∈X.pn++pins,p.1≠it):Inv X pins σ H { s with heap:=h',toks:=t' }:=by
 have nit:∀b u,H b=some u->b≠it:=λb u e z=>by rw[z,hn]at e;cases e
 refine I.step (g':=s.gens) (d':=s.drawn) (ch:=[it]) (λb hb=>?_) (λb o _ _ hc e _=>k b o (λz=>hc (by simp[z])) e) (λb o _ _ hc e _=>⟨o.slots,k b o (λz=>hc (by simp[z])) e⟩) (λ_ _ _ _ n=>n)
  (λb o hc e=>⟨o,k b o (λz=>hc (by simp[z])) e⟩) (λ_ _ e=>e) (λ_ _ _ e=>e) (λb ps e=>⟨#[],by rw[e];simp⟩) (λm hm=>?_) (λb u e=>?_) I.bare
 ·have e:b=it:=by simpa using hb
  subst e;exact⟨h1,hL,h2,h3⟩
 ·obtain⟨o,es,ep,ho,r⟩:=hm;exact⟨o,es,ep,k _ o (cQ hL) ho,r⟩
 ·refine(I.hok b u e).stay (λc v hc q=>k c v ?_ q) (λ_ q=>q) λ_ _ q=>q;rcases hc with z|z
  ·rw[z];exact nit b u e
  ·exact nit c _ z
theorem Inv.tok(I:Inv X pins σ H s)(t:Nat):Inv X pins σ H { s with toks:=t }:=I.un (h':=s.heap) (t':=t) Un.refl I.hok
theorem Inv.kept(I:Inv X pins σ H s)(k:∀b u,s.heap.get? b=some u->h'.get? b=some u):Inv X pins σ H { s with heap:=h',toks:=t' }:=I.un (Un.kept k) (I.hok.kept k)
theorem Inv.laid(I:Inv X pins σ H s)(k:∀b u,s.heap.get? b=some u->h'.get? b=some u)(hp:s.heap.objs.size<=a)(new:pI X.prog X.w (upd H a o) h' a o):
  Inv X pins σ (upd H a o) { s with heap:=h',toks:=t' }:=I.un (Un.laid k hp (I.hok.fresh hp)) (I.hok.laid k hp new)
theorem Inv.write(I:Inv X pins σ H s)(mu:Mut (H x))(he:e=x\/H e=some (.own x))(k:∀b u,b≠e->s.heap.get? b=some u->h'.get? b=some u)(heo:∃u,h'.get? e=some u)
  (new:pI X.prog X.w (upd H x o) h' x o):Inv X pins σ (upd H x o) { s with heap:=h',toks:=t' }:=I.un (Un.write mu he k heo) (I.hok.write mu he k heo new)
theorem Inv.weak{σ':List (Option V)}(I:Inv X pins σ H s)(hl:σ'.length=σ.length)(w:∀(i:Nat) v,σ'[i]?=some (some v)->σ[i]?=some (some v)):Inv X pins σ' H s:=
 ⟨I.ok,I.os,I.bare,I.base,let ⟨m,hn,hl'⟩:=I.loc;⟨m,hn,λi x v e1 e2 e3=>hl' i x v e1 (w i v e2) e3⟩,I.cell,I.free,I.freeC,I.pin,I.hok,hl.trans I.len⟩
theorem Inv.pins_of(I:Inv X pins σ H s)(h:∀p∈pins',s.heap.get? p.1=some p.2/\H p.1=none/\p.1≠X.env.locals/\p.1∉X.fs/\∀v,p.2.data≠.cell v):Inv X pins' σ H s:=
 ⟨I.ok,I.os,I.bare,I.base,I.loc,I.cell,I.free,I.freeC,λp hp=>(bg.mp hp).elim (λz=>I.pin p (bF _ z)) (h p),I.hok,I.len⟩
theorem FX{N:aB}(hN:N.Nodup){i j:Nat}{x:Str}(a:N[i]?=some x)(b:N[j]?=some x):i=j:=by obtain⟨h1,e1⟩:=bQ.mp a;obtain⟨h2,e2⟩:=bQ.mp b;exact(jz hN).mp (e1.trans e2.symm)
theorem Kt{v:V}(I:Inv X pins σ H s)(hN:X.N.Nodup)(hi:X.N[i]?=some x)(hx:Loc X.env.scope x)(r:RelV v u)
  (h:∀s',Inv X pins (σ.set i (some v)) H s'->(∃a,fo a s.heap s'.heap/\(a=X.env.locals\/X.env.cells.lookup x=some a))->Q () s') (hf:X.fn x=true\/X.env.scope.names.lookup x=some .local:=by first|exact .inl rfl|exact .inr rfl|assumption):wpAny M A (storeName X.env x u) Q E s:=by
 obtain⟨m,hn,hl⟩:=id I.loc;have hcls:(X.env.scope.kind==.class||(X.env.scope.kind==.module&&X.env.locals != X.env.globals))=false:=by rw[I.ok.kind];rfl
 have hiσ:i<σ.length:=by rw[I.len];exact(bQ.mp hi).1
 have cne:=I.cne;have tracked:∀{a:Addr} {h':Heap},(∃o,s.heap.get? a=some o/\H a=none)->fo a s.heap h'->HOk X.prog X.w H h':=λ{a h'} ha hs b ob e=>by
  obtain⟨_,_,hfree⟩:=ha;refine(I.hok b ob e).stay (λc w' hc q=>(hs.2 c ?_).trans q) (λ_ q=>q) λ_ _ q=>q;rintro rfl;rcases hc with rfl|hc
  ·rw[hfree]at e;cases e
  ·rw[hfree]at hc;cases hc
 rcases hx with hk|hk
 ·refine wpAny_storeName_local hk hn (λh' hn' hs=>?_) hcls;obtain⟨oL,_,_,hoL,_⟩:=id hn;refine h _ ⟨I.ok,I.os,I.bare,⟨λb o e n hb hx=>?_,λb o e n hb hx=>?_,I.base.free,λb o e hx=>?_,I.base.tups,I.base.frzs,I.base.tbls⟩,⟨_,hn',λj y v' e1 e2 e3=>?_⟩,λy c e=>?_,I.free,I.freeC,λp hp=>?_,tracked ⟨oL,hoL,I.free⟩ hs,by simpa using I.len⟩ ⟨_,hs,.inl rfl⟩
  ·exact(hs.2 b (aX (bZ (aN e) I.ok.above))).trans (I.base.keep b o e n hb hx)
  ·obtain⟨sl,e1⟩:=I.base.slot b o e n hb hx;exact⟨sl,(hs.2 b (aX (bZ (aN e) I.ok.above))).trans e1⟩
  ·obtain⟨o',e1⟩:=I.base.there b o e hx;exact⟨o',(hs.2 b (aX (bZ (aN e) I.ok.above))).trans e1⟩
  ·by_cases hj:j=i
   ·subst hj;rw[hi]at e1;cases e1;rw[gW hiσ]at e2;cases e2;exact⟨u,r,.inl ⟨hk,by simp⟩⟩
   ·rw[jf (cQ hj)]at e2;obtain⟨u',r',q⟩:=hl j y v' e1 e2 e3;refine⟨u',r',?_⟩;rcases q with ⟨k,e⟩|⟨k,c,e,z⟩
    ·refine .inl ⟨k,?_⟩;have:y≠x:=λe=>hj (FX hN e1 (e▸hi));simp[this,e]
    ·exact .inr ⟨k,c,e,z.sameBut hs (cne y c e)⟩
  ·obtain⟨w',z⟩:=I.cell y c e;exact⟨w',z.sameBut hs (cne y c e)⟩
  ·obtain⟨e,n,ne,nf,d⟩:=I.pin p hp;exact⟨(hs.2 p.1 ne).trans e,n,ne,nf,d⟩
 ·have hfn:X.fn x=true:=by
   rcases hf with z|z
   ·exact z
   ·rw[z]at hk;cases hk
  obtain⟨c,hc⟩:=I.ok.has x (.inl hk);obtain⟨w',z⟩:=I.cell x c hc;refine wpAny_storeName_cell I.ok.kind hk hc z (λh' hc' hs=>?_);obtain⟨oc,hoc,hocd⟩:=id z;refine h { s with heap:=h' } ⟨I.ok,I.os,I.bare,⟨λb o e n hb hx=>?_,λb o e n hb hx=>?_,I.base.free,λb o e hx=>?_,I.base.tups,I.base.frzs,I.base.tbls⟩,⟨m,hn.sameBut hs (cQ (cne x c hc)),λj y v' e1 e2 e3=>?_⟩,λy c' e=>?_,I.free,I.freeC,λp hp=>?_,tracked ⟨oc,hoc,I.freeC x c hc⟩ hs,by simpa using I.len⟩ ⟨c,hs,.inr hc⟩
  ·exact(hs.2 b (aX (bZ (aN e) (I.ok.cab x c hfn hc)))).trans (I.base.keep b o e n hb hx)
  ·obtain⟨sl,e1⟩:=I.base.slot b o e n hb hx;exact⟨sl,(hs.2 b (aX (bZ (aN e) (I.ok.cab x c hfn hc)))).trans e1⟩
  ·obtain⟨o',e1⟩:=I.base.there b o e hx;exact⟨o',(hs.2 b (aX (bZ (aN e) (I.ok.cab x c hfn hc)))).trans e1⟩
  ·by_cases hj:j=i
   ·subst hj;rw[hi]at e1;cases e1;rw[gW hiσ]at e2;cases e2;exact⟨u,r,.inr ⟨.inl hk,c,hc,hc'⟩⟩
   ·rw[jf (cQ hj)]at e2;obtain⟨u',r',q⟩:=hl j y v' e1 e2 e3;refine⟨u',r',?_⟩;rcases q with q|⟨k,c',e,z'⟩
    ·exact .inl q
    ·refine .inr ⟨k,c',e,z'.sameBut hs ?_⟩;rintro rfl;exact hj (FX hN e1 (I.ok.inj _ _ _ e hc▸hi))
  ·by_cases hcc:c'=c
   ·subst hcc;exact⟨_,hc'⟩
   ·obtain⟨w2,z2⟩:=I.cell y c' e;exact⟨w2,z2.sameBut hs hcc⟩
  ·obtain⟨e,n,ne,nf,d⟩:=I.pin p hp;refine⟨(hs.2 p.1 ?_).trans e,n,ne,nf,d⟩;intro q;rw[q,hoc]at e;have q':oc=p.2:=cf e;exact d w' (by rw[<-q'];exact hocd)
theorem FY{v:V}(I:Inv X pins σ H s)(hN:X.N.Nodup)(hi:X.N[i]?=some x)(hx:Loc X.env.scope x)(r:RelV v u)
  (h:∀s',Inv X pins (σ.set i (some v)) H s'->Q () s') (hf:X.fn x=true\/X.env.scope.names.lookup x=some .local:=by first|exact .inl rfl|exact .inr rfl|assumption):wpAny M A (storeName X.env x u) Q E s:=
 Kt I hN hi hx r (λs' I' _=>h s' I') hf
theorem Inv.call'{s':af}(I:Inv X pins σ H s)(ho:s'.os=s.os)(u:Un (frs X.stack) ch H H' s.heap s'.heap)(hok:HOk X.prog X.w H' s'.heap)(hg:dm s'.gens)
  (hch:∀b∈ch,(b∈X.ex\/X.s₀.heap.objs.size<=b)/\b≠X.env.locals/\(∀x c,X.env.cells.lookup x=some c->c≠b)/\∀p∈X.pn++pins,p.1≠b):Inv X pins σ H' s':=by
 obtain⟨h',g',d',t',o'⟩:=s';have e:o'=s.os:=ho;subst e;exact I.call (g':=g') (t':=t') (d':=d') u hok hg hch
end
abbrev XK:=ae->Option Addr->Hp->Prop
abbrev St:=List (Option V)
abbrev VK:=V->Hp->Prop
abbrev TE:=St->Hp->VK->Prop
abbrev TT:=St->Hp->(Bool->Hp->Prop)->Prop
abbrev TA:=St->Hp->(bA->Hp->Prop)->Prop
structure Ends where
 nx:St->Hp->Prop
 rt:VK
 bk:St->Hp->Prop:=λ_ _=>False
 ct:St->Hp->Prop:=λ_ _=>False
abbrev TS:=Ends->St->Hp->Prop
def EP(X:Cx)(pins:cy)(σ:St)(Q:VK)(u:ae)(s':af):Prop:=∃v H',Inv X pins σ H' s'/\RelV v u/\Q v H'
def TP(X:Cx)(pins:cy)(σ:St)(Q:Bool->Hp->Prop)(b:Bool)(s':af):Prop:=∃H',Inv X pins σ H' s'/\Q b H'
def AP(X:Cx)(pins:cy)(σ:St)(Q:bA->Hp->Prop)(us:List ae)(s':af):Prop:=∃vs H',Inv X pins σ H' s'/\Vals vs us/\Q vs H'
def SP(X:Cx)(pins:cy)(D:Ends)(f:Flow)(s':af):Prop:=
 match f with
 |.next=>∃σ' H',Inv X pins σ' H' s'/\D.nx σ' H'
 |.brk=>∃σ' H',Inv X pins σ' H' s'/\D.bk σ' H'
 |.cont=>∃σ' H',Inv X pins σ' H' s'/\D.ct σ' H'
 |.ret u=>∃v σ' H',Inv X pins σ' H' s'/\RelV v u/\D.rt v H'
def PE(X:Cx)(e:Expr)(t:TE):Prop:=
 ∀(pins:cy) (s:af) (σ:St) (H:Hp) (Q:VK),Inv X pins σ H s->t σ H Q->wpAny (model X.prog X.w) X.A (eval e X.env) (EP X pins σ Q) X.xe s
def PT(X:Cx)(e:Expr)(t:TT):Prop:=
 ∀(pins:cy) (s:af) (σ:St) (H:Hp) (Q:Bool->Hp->Prop),Inv X pins σ H s->t σ H Q->wpAny (model X.prog X.w) X.A (isTrue e X.env (eval e X.env)) (TP X pins σ Q) X.xe s
def PW(X:Cx)(e:Expr)(t:TT):Prop:=
 ∀(whole:Sem ae) (pins:cy) (s:af) (σ:St) (H:Hp) (Q:Bool->Hp->Prop),Inv X pins σ H s->t σ H Q->wpAny (model X.prog X.w) X.A (isTrue e X.env whole) (TP X pins σ Q) X.xe s
theorem PW.pt{X:Cx}{e:Expr}{t:TT}(h:PW X e t):PT X e t:=h _
def PA(X:Cx)(es:List Expr)(t:TA):Prop:=
 ∀(pos:Pos) (pins:cy) (s:af) (σ:St) (H:Hp) (Q:bA->Hp->Prop),Inv X pins σ H s->t σ H Q->wpAny (model X.prog X.w) X.A (spliced (backTo pos (starEach es X.env))) (AP X pins σ Q) X.xe s
def PS(X:Cx)(st:Stmt)(t:TS):Prop:=
 ∀(pins:cy) (s:af) (σ:St) (H:Hp) (D:Ends),Inv X pins σ H s->t D σ H->wpAny (model X.prog X.w) X.A (exec st X.env) (SP X pins D) X.xe s
def PSs(X:Cx)(st:List Stmt)(t:TS):Prop:=
 ∀(pins:cy) (s:af) (σ:St) (H:Hp) (D:Ends),Inv X pins σ H s->t D σ H->wpAny (model X.prog X.w) X.A (execs st X.env) (SP X pins D) X.xe s
theorem thn{α:Type}{t:Sem α}{Q Q':α->af->Prop}{M:Model}{A:aQ}{E:ae->af->Prop}{s:af}(h:wpAny M A t Q E s)(hQ:∀a s,Q a s->Q' a s):wpAny M A t Q' E s:=bU h hQ λ_ _ x=>x
section
variable{X:Cx}
theorem bin{a b:Expr}{ta tb:TE}(ha:PE X a ta)(hb:PE X b tb){pins:cy}{s:af}{σ:St}{H:Hp}{R:V->V->Hp->Prop}(I:Inv X pins σ H s)(h:ta σ H λx H1=>tb σ H1 λy H2=>R x y H2)
  {α:Type} {Q:α->af->Prop} {f:ae->ae->Sem α}
  (hf:∀v u s2 x y H2,Inv X pins σ H2 s2->RelV x v->RelV y u->R x y H2->wpAny (model X.prog X.w) X.A (f v u) Q X.xe s2):
  wpAny (model X.prog X.w) X.A (eval a X.env) (λv s₁=>wpAny (model X.prog X.w) X.A (eval b X.env) (λu s₂=>wpAny (model X.prog X.w) X.A (f v u) Q X.xe s₂) X.xe s₁) X.xe s:=by
 refine thn (ha pins s σ H _ I h) λv s1 zz=>?_;obtain⟨x,H1,I1,r1,q1⟩:=zz;refine thn (hb pins s1 σ H1 _ I1 q1) λu s2 zz=>?_;obtain⟨y,H2,I2,r2,q2⟩:=zz;exact hf v u s2 x y H2 I2 r1 r2 q2
def vp(i:Nat):TE:=λσ H Q=>∃v,σ[i]?=some (some v)/\Q v H
def tC(v:V):TE:=λ_ H Q=>Q v H
theorem RS(hN:X.N[i]?=some x)(hv:Vis X.env.scope x)(hd:(x==("__debug__" : Str))=false:=by decide)(hcd:(x==("__classdict__" : Str))=false:=by decide):PE X (.Name x pos) (vp i):=by
 intro pins s σ H Q I h;obtain⟨v,e,h⟩:=h;obtain⟨m,hn,hl⟩:=I.loc;obtain⟨u,r,l⟩:=hl i x v hN e hv;have fin:EP X pins σ Q u s:=⟨v,H,I,r,h⟩;rcases l with ⟨hk,hm⟩|⟨hk,c,hc,hcell⟩
 ·exact kc (wpAny_loadName_local I.ok.kind hk hn hm fin) hd
 ·rcases hk with hk|hk
  ·exact kc (wpAny_loadName_cell I.ok.kind hk hc hcell fin) hd
  ·exact kc (wpAny_loadName_free I.ok.kind hk hc hcell fin hcd) hd
theorem HH{i j pos}:PE X (.Constant (.int i) j pos) (tC (.int i)):=λ_ _ _ H _ I h=>wpAny_Constant_int ⟨.int i,H,I.tok _,⟨_,rfl⟩,h⟩
theorem V4{b j pos}:PE X (.Constant (.bool b) j pos) (tC (.bl b)):=λ_ _ _ H _ I h=>Constant_bool ⟨.bl b,H,I,rfl,h⟩
theorem RT{j pos}:PE X (.Constant .none j pos) (tC .non):=λ_ _ _ H _ I h=>Constant_none ⟨.non,H,I,rfl,h⟩
theorem LL{x j pos}:PE X (.Constant (.str x) j pos) (tC (.str x)):=λ_ _ _ H _ I h=>Calls.Constant_str ⟨.str x,H,I.tok _,⟨_,rfl⟩,h⟩
def Gl(X:Cx)(x:Str):Prop:=X.env.kindOf x=some .globalImplicit
theorem zg{s:af}(I:Inv X pins σ H s)(hg:Gl X x)(hm:X.mg x=some u)(h:Q u s)
  (hd:(x==("__debug__" : Str))=false:=by decide):wpAny (model X.prog X.w) X.A (eval (.Name x pos) X.env) Q E s:=
 kW I.ok.kind hg (Calls.loadGlobal_global (by rw[I.ok.glob];exact I.mod.glob.keeps I.bk) hm h) hd
theorem yR{s:af}(I:Inv X pins σ H s)(hg:Gl X x)(hm:X.mg x=none)(hv:bootBuiltins x=some u)(h:Q u s)
  (hn:x≠"__name__" := by decide) (hd:(x==("__debug__" : Str))=false:=by decide):wpAny (model X.prog X.w) X.A (eval (.Name x pos) X.env) Q E s:=by
 obtain⟨mb,h1,h2⟩:=I.mod.blt;exact kW I.ok.kind hg (Calls.loadGlobal_builtin (by rw[I.ok.glob];exact I.mod.glob.keeps I.bk) hm (by rw[I.ok.blt];exact h1.keeps I.bk) ((h2 x hn).trans hv) h) hd
theorem Jm{v:V}(hg:Gl X x)(hm:X.mg x=some u)(r:RelV v u)(hd:(x==("__debug__" : Str))=false:=by decide):PE X (.Name x pos) (tC v):=
 λ_ _ _ H _ I h=>zg I hg hm ⟨v,H,I,r,h⟩ hd
theorem OH{v:V}(hg:Gl X x)(hm:X.mg x=none)(hv:bootBuiltins x=some u)(r:RelV v u)(hn:x≠"__name__" := by decide)(hd:(x==("__debug__" : Str))=false:=by decide):PE X (.Name x pos) (tC v):=
 λ_ _ _ H _ I h=>yR I hg hm hv ⟨v,H,I,r,h⟩ hn hd
variable{a b:Expr}{ta tb:TE}{pos:Pos}
def PC(X:Cx)(op:cI)(a b:Expr)(t:TE):Prop:=
 ∀(pins:cy) (s:af) (σ:St) (H:Hp) (Q:VK),Inv X pins σ H s->t σ H Q->
  wpAny (model X.prog X.w) X.A (eval a X.env) (λv s₁=>wpAny (model X.prog X.w) X.A (eval b X.env) (λu s₂=>wpAny (model X.prog X.w) X.A (compareOp op v u) (EP X pins σ Q) X.xe s₂) X.xe s₁) X.xe s
def tB(t:TE):TT:=λσ H Q=>t σ H λx H1=>∃c,x=.bl c/\Q c H1
theorem XJ{op:cI}{t:TE}(h:PC X op a b t)(h1:behindInMarks op b=false:=by first|exact nobehind _ (by decide) (by decide)|rfl):PT X (.Compare a [op] [b] pos) (tB t):=by intro pins s σ H Q I hw;refine lA (thn (h pins s σ H _ I hw) λv s1 h1=>thn h1 λu s2 h2=>thn h2 λc s3 zz=>?_) h1;obtain⟨x,H1,I1,r1,q1⟩:=zz;obtain⟨d,rfl,q⟩:=q1;cases r1;exact cK ⟨H1,I1,q⟩
theorem RU{t:TE}(h:PE X e t)(he:∀whole,isTrue e X.env whole=(do let v<-whole;standAt e.pos;holding [v] (truthy v)):=by intro _;rfl):PT X e (tB t):=by intro pins s σ H Q I hw;refine isTrue_plain (thn (h pins s σ H _ I hw) λv s1 zz=>?_) (he _);obtain⟨x,H1,I1,r1,q1⟩:=zz;obtain⟨d,rfl,q⟩:=q1;cases r1;exact cK ⟨H1,I1,q⟩
variable{tA tB':TT}{rest:List Expr}
def V5(t u:TT):TT:=λσ H Q=>t σ H λc H1=>if c=true then u σ H1 Q else Q false H1
def tOr(t u:TT):TT:=λσ H Q=>t σ H λc H1=>if c=true then Q true H1 else u σ H1 Q
def XM(t:TT):TT:=λσ H Q=>t σ H λc H1=>Q (!c) H1
theorem OI(ha:PT X a tA):PW X (.BoolOp .And [a] pos) tA:=by
 intro wh pins s σ H Q I h;refine isTrue_and (thn (ha pins s σ H Q I h) λc s1 e=>?_);cases c with
 |true=>exact isTrue_and_nil e
 |false=>exact e
theorem RV(ha:PT X a tA):PW X (.BoolOp .Or [a] pos) tA:=by
 intro wh pins s σ H Q I h;refine isTrue_or (thn (ha pins s σ H Q I h) λc s1 e=>?_);cases c with
 |false=>exact isTrue_or_nil e
 |true=>exact e
theorem RW(ha:PT X a tA)(hb:PW X (.BoolOp .And (b::rest) pos) tB'):PW X (.BoolOp .And (a::b::rest) pos) (V5 tA tB'):=by
 intro wh pins s σ H Q I h;refine isTrue_and (thn (ha pins s σ H _ I h) λc s1 zz=>?_);obtain⟨H1,I1,q1⟩:=zz;cases c with
 |true=>exact hb wh pins s1 σ H1 Q I1 q1
 |false=>exact⟨H1,I1,q1⟩
theorem V6(ha:PT X a tA)(hb:PW X (.BoolOp .Or (b::rest) pos) tB'):PW X (.BoolOp .Or (a::b::rest) pos) (tOr tA tB'):=by
 intro wh pins s σ H Q I h;refine isTrue_or (thn (ha pins s σ H _ I h) λc s1 zz=>?_);obtain⟨H1,I1,q1⟩:=zz;cases c with
 |true=>exact⟨H1,I1,q1⟩
 |false=>exact hb wh pins s1 σ H1 Q I1 q1
theorem RX(ha:PT X a tA):PT X (.UnaryOp .Not a pos) (XM tA):=by intro pins s σ H Q I h;exact isTrue_not (ha pins s σ H (λc H1=>Q (!c) H1) I h)
def V7(ta tb:TE):TE:=λσ H Q=>ta σ H λx H1=>∃c,x=.bl c/\if c=true then tb σ H1 Q else Q (.bl false) H1
def XN(ta tb:TE):TE:=λσ H Q=>ta σ H λx H1=>∃c,x=.bl c/\if c=true then Q (.bl true) H1 else tb σ H1 Q
def V8(ta:TE):TE:=λσ H Q=>ta σ H λx H1=>∃c,x=.bl c/\Q (.bl (!c)) H1
theorem RY{op}{t:TE}(h:PE X a t):PE X (.BoolOp op [a] pos) t:=λpins s σ H Q I hw=>BoolOp_one (h pins s σ H Q I hw)
theorem RZ(ha:PE X a ta)(hb:PE X (.BoolOp .And (b::rest) pos) tb):PE X (.BoolOp .And (a::b::rest) pos) (V7 ta tb):=by
 intro pins s σ H Q I h;refine BoolOp_and (thn (ha pins s σ H _ I h) λv s1 zz=>?_);obtain⟨x,H1,I1,r1,q1⟩:=zz;obtain⟨c,rfl,q1⟩:=q1;cases r1;refine cK ?_;cases c with
 |true=>exact hb pins s1 σ H1 Q I1 q1
 |false=>exact⟨.bl false,H1,I1,rfl,q1⟩
theorem V9(ha:PE X a ta)(hb:PE X (.BoolOp .Or (b::rest) pos) tb):PE X (.BoolOp .Or (a::b::rest) pos) (XN ta tb):=by
 intro pins s σ H Q I h;refine BoolOp_or (thn (ha pins s σ H _ I h) λv s1 zz=>?_);obtain⟨x,H1,I1,r1,q1⟩:=zz;obtain⟨c,rfl,q1⟩:=q1;cases r1;refine cK ?_;cases c with
 |false=>exact hb pins s1 σ H1 Q I1 q1
 |true=>exact⟨.bl true,H1,I1,rfl,q1⟩
theorem R0(ha:PE X a ta):PE X (.UnaryOp .Not a pos) (V8 ta):=by intro pins s σ H Q I h;refine UnaryOp_ (thn (ha pins s σ H _ I h) λv s1 zz=>?_);obtain⟨x,H1,I1,r1,q1⟩:=zz;obtain⟨c,rfl,q1⟩:=q1;cases r1;exact not_of (cK ⟨.bl (!c),H1,I1,rfl,q1⟩)
def tIf(t:TT)(ta tb:TE):TE:=λσ H Q=>t σ H λc H1=>if c=true then ta σ H1 Q else tb σ H1 Q
theorem LM(hc:PT X c tA)(ha:PE X a ta)(hb:PE X b tb):PE X (.IfExp c a b pos) (tIf tA ta tb):=by
 intro pins s σ H Q I h;refine wpAny_IfExp (thn (hc pins s σ H _ I h) λd s1 zz=>?_);obtain⟨H1,I1,q1⟩:=zz;cases d with
 |true=>exact ha pins s1 σ H1 Q I1 q1
 |false=>exact hb pins s1 σ H1 Q I1 q1
end
def SqL(K:aw)(H:Hp)(a:Addr)(xs:bA):Prop:=
 Rd H a (.lst xs)\/
  ∃(o:Obj) (its:Array ae) (n:Nat),K.lookup a=some o/\o.cls=.type "list" /\ o.dict=none/\o.data=.seq its n/\its.size<=sizeLine/\Vals xs its.toList
def SqT(K:aw)(H:Hp)(a:Addr)(xs:bA):Prop:=
 Rd H a (.tup xs)\/
  ∃(o:Obj) (its:Array ae) (n:Nat),K.lookup a=some o/\o.cls=.type "tuple" /\ o.data=.seq its n/\its.size<=sizeLine/\Vals xs its.toList
def XO:ae->Option V
 |.none=>some .non
 |.bool b=>some (.bl b)
 |.int i _=>some (.int i)
 |.str x _=>some (.str x)
 |.bytes b _=>some (.byt b)
 |.float b _=>some (.flt b)
 |.ref a=>some (.ref a)
 |.type n=>some (.ty n)
 |_=>none
theorem RelV.abs(r:RelV x u):XO u=some x:=by
 cases x with
 |non=>cases r;rfl
 |bl _=>cases r;rfl
 |int _=>obtain⟨t,rfl⟩:=r;rfl
 |str _=>obtain⟨t,rfl⟩:=r;rfl
 |byt _=>obtain⟨t,rfl⟩:=r;rfl
 |flt _=>obtain⟨t,rfl⟩:=r;rfl
 |ref _=>cases r;rfl
 |ty _=>cases r;rfl
theorem RelV.inj(r:RelV x u)(q:RelV y u):x=y:=cf (r.abs.symm.trans q.abs)
theorem Vals.inj:∀{xs ys:bA} {us:List ae},Vals xs us->Vals ys us->xs=ys
 |_,_,_,.nil,.nil=>rfl
 |_,_,_,.cons r t,.cons r' t'=>by rw[r.inj r',Vals.inj t t']
section
variable{X:Cx}{pins:cy}{σ:St}{H:Hp}{s:af}{a:Addr}{xs ys:bA}
theorem SqL.of{K:aw}(h:H a=some (.lst xs)):SqL K H a xs:=.inl (.inl h)
theorem SqT.of{K:aw}(h:H a=some (.tup xs)):SqT K H a xs:=.inl (.inl h)
theorem Inv.list(I:Inv X pins σ H s)(h:SqL X.K H a xs):∃its:List ae,Vals xs its/\PlainL s.heap a its.toArray/\xs.length<=sizeLine:=by
 rcases h with h|⟨o,its,n,hk,hc,hd,hs,hz,r⟩
 ·obtain⟨z,its,n,r,e⟩:=h.ok I.hok;exact⟨its,r,⟨_,n,e,rfl,rfl,rfl⟩,z⟩
 ·refine⟨its.toList,r,⟨o,n,I.kIn a o hk,hc,hd,by simpa using hs⟩,?_⟩;have e:=r.length;simp only[eW]at e;omega
theorem Inv.tuple(I:Inv X pins σ H s)(h:SqT X.K H a xs):∃its:List ae,Vals xs its/\dQ s.heap a its.toArray/\xs.length<=sizeLine:=by
 rcases h with h|⟨o,its,n,hk,hc,hs,hz,r⟩
 ·obtain⟨z,its,r,p⟩:=h.ok I.hok;exact⟨its,r,p,z⟩
 ·refine⟨its.toList,r,⟨o,I.kIn a o hk,hc,n,by simpa using hs⟩,?_⟩;have e:=r.length;simp only[eW]at e;omega
theorem Inv.list_inj(I:Inv X pins σ H s)(h:SqL X.K H a xs)(h':SqL X.K H a ys):xs=ys:=by
 obtain⟨its,r,⟨o,n,e,_,_,d⟩,_⟩:=I.list h;obtain⟨its',r',⟨o',n',e',_,_,d'⟩,_⟩:=I.list h';rw[e]at e';cases e';rw[d]at d';injection d' with d1 _;have:its=its':=by simpa using aR mU d1
 subst this;exact r.inj r'
theorem Inv.tuple_inj(I:Inv X pins σ H s)(h:SqT X.K H a xs)(h':SqT X.K H a ys):xs=ys:=by
 obtain⟨its,r,⟨o,e,_,n,d⟩,_⟩:=I.tuple h;obtain⟨its',r',⟨o',e',_,n',d'⟩,_⟩:=I.tuple h';rw[e]at e';cases e';rw[d]at d';injection d' with d1 _;have:its=its':=by simpa using aR mU d1
 subst this;exact r.inj r'
end
abbrev Cx.wish(X:Cx)(E:ae->af->Prop):Cx:={ X with xe:=E }
abbrev Cx.nox(X:Cx):Cx:=X.wish λ_ _=>False
theorem Cx.Ok.wish{X:Cx}(ok:X.Ok)(E:ae->af->Prop):(X.wish E).Ok:=
 ⟨ok.mod,ok.kind,ok.glob,ok.blt,ok.above,ok.inj,ok.has,ok.cab,ok.hd,ok.frames,ok.stk,ok.exf,ok.bs,ok.bsz,ok.noex,ok.exfs,ok.funs,ok.frf⟩
theorem Cx.Ok.unwish{X:Cx}(ok:(X.wish E).Ok):X.Ok:=
 ⟨ok.mod,ok.kind,ok.glob,ok.blt,ok.above,ok.inj,ok.has,ok.cab,ok.hd,ok.frames,ok.stk,ok.exf,ok.bs,ok.bsz,ok.noex,ok.exfs,ok.funs,ok.frf⟩
section
variable{X:Cx}{pins:cy}{σ:St}{H:Hp}{s:af}{E:ae->af->Prop}
theorem Inv.wish(I:Inv X pins σ H s)(E:ae->af->Prop):Inv (X.wish E) pins σ H s:=⟨I.ok.wish E,I.os,I.bare,I.base,I.loc,I.cell,I.free,I.freeC,I.pin,I.hok,I.len⟩
theorem Inv.unwish(I:Inv (X.wish E) pins σ H s):Inv X pins σ H s:=⟨I.ok.unwish,I.os,I.bare,I.base,I.loc,I.cell,I.free,I.freeC,I.pin,I.hok,I.len⟩
theorem SP.unwish{D:Ends}(h:SP (X.wish E) pins D f s'):SP X pins D f s':=by
 cases f with
 |next=>obtain⟨σ',H',I,q⟩:=h;exact⟨σ',H',I.unwish,q⟩
 |brk=>obtain⟨σ',H',I,q⟩:=h;exact⟨σ',H',I.unwish,q⟩
 |cont=>obtain⟨σ',H',I,q⟩:=h;exact⟨σ',H',I.unwish,q⟩
 |ret u=>obtain⟨v,σ',H',I,r,q⟩:=h;exact⟨v,σ',H',I.unwish,r,q⟩
theorem PSs.nox{st:List Stmt}{t:TS}(h:PSs X.nox st t):PSs X st t:=λpins s σ H D I hw=>
 bU (h pins s σ H D (I.wish _) hw) (λ_ _ q=>q.unwish) λ_ _ z=>cB z
end
section
variable{X:Cx}{st:Stmt}{rest:List Stmt}{t u:TS}{e:Expr}{te:TE}{pos:Pos}
def Wa:TS:=λD σ H=>D.nx σ H
def XQ(t u:TS):TS:=λD σ H=>t { D with nx:=u D } σ H
theorem OJ:PSs X [] Wa:=λ_ _ σ H _ I h=>hZ ⟨σ,H,I,h⟩
theorem BW(h1:PS X st t)(h2:PSs X rest u):PSs X (st::rest) (XQ t u):=by
 intro pins s σ H D I h;refine wpAny_execs_cons (thn (h1 pins s σ H { D with nx:=u D } I h) λf s1 q=>?_);cases f with
 |next=>obtain⟨σ',H',I',q⟩:=q;exact h2 pins s1 σ' H' D I' q
 |ret v=>exact q
 |brk=>exact q
 |cont=>exact q
theorem ET(h1:PS X st t):PSs X [st] t:=by
 intro pins s σ H D I h;refine wpAny_execs_cons (thn (h1 pins s σ H D I h) λf s1 q=>?_);cases f with
 |next=>exact hZ q
 |ret v=>exact q
 |brk=>exact q
 |cont=>exact q
theorem Inv.quiet{s:af}(I:Inv X pins σ H s):interactive X.env=false:=by simp[interactive,I.ok.kind]
def Rg(te:TE):TS:=λD σ H=>te σ H λ_ H1=>D.nx σ H1
theorem Jn(he:PE X e te)(hs:swapsWith e none pos.line X.env=pure false:=by rfl):PS X (.Expr e pos) (Rg te):=by intro pins s σ H D I h;exact wpAny_Expr_any (thn (he pins s σ H _ I h) λv s1 ⟨x,H1,I1,r1,q1⟩=>⟨σ,H1,I1,q1⟩) I.quiet hs
def Wb(te:TE):TS:=λD σ H=>te σ H D.rt
theorem HI(he:PE X e te):PS X (.Return (some e) pos) (Wb te):=by intro pins s σ H D I h;exact wpAny_Return_some (thn (he pins s σ H _ I h) λv s1 ⟨x,H1,I1,r1,q1⟩=>⟨x,σ,H1,I1,r1,q1⟩)
def XR(c:TT)(t u:TS):TS:=λD σ H=>c σ H λb H1=>if b=true then t D σ H1 else u D σ H1
theorem Wc(hc:PT X c tc)(ha:PSs X a t)(hb:PSs X b u):PS X (.If c a b pos) (XR tc t u):=by
 intro pins s σ H D I h;refine wpAny_If (thn (hc pins s σ H _ I h) λd s1 zz=>?_);obtain⟨H1,I1,q1⟩:=zz;cases d with
 |true=>exact ha pins s1 σ H1 D I1 q1
 |false=>exact hb pins s1 σ H1 D I1 q1
end
abbrev TG:=V->St->Hp->(St->Hp->Prop)->Prop
abbrev TGs:=bA->St->Hp->(St->Hp->Prop)->Prop
def PG(X:Cx)(target:Expr)(t:TG):Prop:=
 ∀(pins:cy) (s:af) (σ:St) (H:Hp) (v:V) (u:ae) (Q:St->Hp->Prop),Inv X pins σ H s->RelV v u->t v σ H Q->
  wpAny (model X.prog X.w) X.A (assign target X.env u) (λ_ s'=>∃σ' H',Inv X pins σ' H' s'/\Q σ' H') X.xe s
def PGs(X:Cx)(ts:List Expr)(t:TGs):Prop:=
 ∀(pins:cy) (s:af) (σ:St) (H:Hp) (vs:bA) (us:List ae) (Q:St->Hp->Prop),Inv X pins σ H s->Vals vs us->t vs σ H Q->
  wpAny (model X.prog X.w) X.A (assignInOrder ((assignEach ts X.env).map (·.2)) us) (λ_ s'=>∃σ' H',Inv X pins σ' H' s'/\Q σ' H') X.xe s
section
variable{X:Cx}{pos:Pos}
def vK(i:Nat):TG:=λv σ H Q=>Q (σ.set i (some v)) H
theorem Jo(hN:X.N.Nodup)(hi:X.N[i]?=some x)(hx:Loc X.env.scope x)(hf:X.fn x=true\/X.env.scope.names.lookup x=some .local:=by first|exact .inl rfl|exact .inr rfl|assumption):PG X (.Name x pos) (vK i):=by intro pins s σ H v u Q I r h;exact wpAny_assign_Name (FY I hN hi hx r (λs' I'=>⟨_,H,I',h⟩) hf)
def Wd:TGs:=λvs σ H Q=>vs=[]/\Q σ H
def Rh(t:TG)(u:TGs):TGs:=λvs σ H Q=>∃v r,vs=v::r/\t v σ H λσ' H'=>u r σ' H' Q
theorem OK:PGs X [] Wd:=by intro pins s σ H vs us Q I r h;obtain⟨e,h⟩:=h;subst e;cases r;exact assignInOrder_nil ⟨σ,H,I,h⟩
theorem LN{t:TG}(h1:PG X e t)(h2:PGs X es u)
  (hs:(assignEach (e::es) X.env).map (·.2)=assign e X.env::(assignEach es X.env).map (·.2):=by rfl):PGs X (e::es) (Rh t u):=by
 intro pins s σ H vs us Q I r h;obtain⟨v,vr,e1,h⟩:=h;subst e1;cases r with
 |cons r rr=>rw[hs];refine assignInOrder_cons (thn (h1 pins s σ H _ _ _ I r h) λ_ s1 zz=>?_);obtain⟨σ1,H1,I1,q1⟩:=zz;exact h2 pins s1 σ1 H1 _ _ Q I1 rr q1
def R7(K:aw)(n:Nat)(t:TGs):TG:=λv σ H Q=>∃a xs,v=.ref a/\SqT K H a xs/\xs.length=n/\t xs σ H Q
theorem R8{k:Nat}{t:TGs}{n:Nat}(hc:X.calm=true)(h:PGs X es t)
  (hn:(assignEach es X.env).length=n:=by rfl) (hst:(assignEach es X.env).findIdx? (·.1)=none:=by rfl):PG X (.Tuple es k pos) (R7 X.K n t):=by
 intro pins s σ H v u Q I r hw;obtain⟨a,xs,e1,hq,hl,hw⟩:=hw;subst e1;cases r;obtain⟨its,rv,ht,hz⟩:=I.tuple hq;refine assign_Tuple_tuple (I.ok.hd hc) ht (by simp[hn,<- hl,rv.length]) hst λh' hx=>?_;have I1:Inv X pins σ H { s with heap:=h' }:=I.kept (t':=s.toks) λb o e=>hx b o (aX (aN e)) e;exact h pins _ σ H xs _ Q I1 (by simpa using rv) hw
def Ab(te:TE)(g:TG):TS:=λD σ H=>te σ H λx H1=>g x σ H1 D.nx
theorem R9{g:TG}(he:PE X e te)(hg:PG X tg g)(hs:swapsWithSole [tg] e pos.line X.env=pure false:=by rfl)(hw:swappedStores [tg] e X.env=pure none:=by rfl)
  (h1:(assignEach [tg] X.env).map (·.2)=[assign tg X.env]:=by rfl):PS X (.Assign [tg] e pos) (Ab te g):=by
 intro pins s σ H D I h;refine wpAny_Assign_stores (thn (he pins s σ H _ I h) λv s1 zz=>?_) hs hw;obtain⟨x,H1,I1,r1,q1⟩:=zz;rw[h1];exact thn (hg pins s1 σ H1 x v _ I1 r1 q1) λ_ s2 q=>q
theorem Sa(hN:X.N.Nodup)(hi:X.N[i]?=some x)(hx:Loc X.env.scope x)(he:PE X e te)(hs:swapsWith e (some (.Name x pos')) pos.line X.env=pure false:=by rfl)(hf:X.fn x=true\/X.env.scope.names.lookup x=some .local:=by first|exact .inl rfl|exact .inr rfl|assumption):
  PS X (.Assign [.Name x pos'] e pos) (Ab te (vK i)):=by
 intro pins s σ H D I h;refine wpAny_Assign_Name (thn (he pins s σ H _ I h) λv s1 zz=>?_) hs;obtain⟨y,H1,I1,r1,q1⟩:=zz;exact FY I1 hN hi hx r1 (λs2 I2=>⟨_,H1,I2,q1⟩) hf
end
section
variable{X:Cx}{pos:Pos}
def LO(c:TT)(tb:TS):TS:=λD σ H=>∃W:Nat->St->Hp->Prop,(∃m,W m σ H)/\∀m σ H,W m σ H->
 c σ H λb H1=>if b=true then ∃N:St->Hp->Prop,(∀σ' H',N σ' H'->∃m',m'<m/\W m' σ' H')/\tb { D with nx:=N,ct:=N,bk:=D.nx } σ H1 else D.nx σ H1
theorem LP(hp:iz (model X.prog X.w) X.A X.env X.xe)(hc:PT X c tc)(hb:PSs X body tb):PS X (.While c body [] pos) (LO tc tb):=by
 intro pins s σ H D I h;obtain⟨W,⟨m0,w0⟩,turn⟩:=h;refine wpAny_While (codeAny_whileLoop (λn s'=>∃σ' H',Inv X pins σ' H' s'/\W n σ' H') ?_ m0 ⟨σ,H,I,w0⟩);rintro n s1 ⟨σ1,H1,I1,w1⟩;refine eC hp (thn (hc pins s1 σ1 H1 _ I1 (turn n σ1 H1 w1)) λb s2 zz=>?_);obtain⟨H2,I2,q2⟩:=zz;cases b with
 |true=>
  obtain⟨N,hN,q2⟩:=q2;rw[ai rfl];refine eC hp (thn (hb pins s2 σ1 H2 _ I2 q2) λf s3 q3=>?_);cases f with
  |next=>obtain⟨σ3,H3,I3,n3⟩:=q3;obtain⟨m',hm,w3⟩:=hN σ3 H3 n3;exact⟨m',hm,σ3,H3,I3,w3⟩
  |cont=>obtain⟨σ3,H3,I3,n3⟩:=q3;obtain⟨m',hm,w3⟩:=hN σ3 H3 n3;exact⟨m',hm,σ3,H3,I3,w3⟩
  |brk=>exact q3
  |ret v=>exact q3
 |false=>rw[aj bp];exact hZ ⟨σ1,H2,I2,q2⟩
end
structure It where
 go:Nat->Hp->Prop
 yld:Nat->Hp->V->Hp->Prop
 stop:Nat->Hp->Prop
def DH(X:Cx)(pins:cy)(H:Hp)(b:Addr):Prop:=
 H b=none/\b≠X.env.locals/\b∉X.fs/\(b∈X.ex\/X.s₀.heap.objs.size<=b)/\(∀x c,X.env.cells.lookup x=some c->c≠b)/\∀p∈X.pn++pins,p.1≠b
theorem Inv.fpOk{s:af}(I:Inv X pins σ H s)(hb:s.heap.objs.size<=b)(hn:H' b=none):DH X pins H' b:=by
 refine⟨hn,fq (bZ I.lt hb),I.nofs hb,.inr (bL I.sz hb),λx c e z=>?_,λp hp z=>?_⟩
 ·obtain⟨v,q⟩:=I.cell x c e;exact ao (bZ q.lt (by rw[z];exact hb)) (di _)
 ·exact ao (bZ (aN (I.pin p hp).1) (by rw[z];exact hb)) (di _)
structure Turn(P:aS)(w:aI)(K:aw)(tg:Expr)(J:It)(fp:List Addr)(it:Addr)(tn:Nat->Heap->Prop):Prop where
 mem:it∈fp
 obj:∀i h,tn i h->∀b∈fp,∃o,h.get? b=some o/\∀v,o.data≠.cell v
 keep:∀i h h',tn i h->(∀b∈fp,∀o,h.get? b=some o->h'.get? b=some o)->tn i h'
 item:∀(X:Cx),X.prog=P->X.w=w->X.K=K->X.calm=true->∀(i:Nat) (pins:cy) (s:af) (σ:St) (H:Hp) (E:ae->af->Prop),Inv X pins σ H s->(∀b∈fp,DH X pins H b)->tn i s.heap->J.go i H->
  wpAny (model P w) X.A (pyNext (.ref it)) (λr s1=>∃u,r=some u/\
   wpAny (model P w) X.A (letOwnedTupleGo tg (.ref it) u) (λ_ s2=>∃x H',Inv X pins σ H' s2/\RelV x u/\J.yld i H x H'/\tn (i+1) s2.heap/\∀b∈fp,H' b=none) E s1) E s
 done:∀(X:Cx),X.prog=P->X.w=w->X.K=K->X.calm=true->∀(i:Nat) (pins:cy) (s:af) (σ:St) (H:Hp) (E:ae->af->Prop),Inv X pins σ H s->(∀b∈fp,DH X pins H b)->tn i s.heap->J.stop i H->
  wpAny (model P w) X.A (pyNext (.ref it)) (λr s1=>r=none/\Inv X pins σ H s1) E s
 self:∀(A:aQ) (i:Nat) (s:af) (Q:ae->af->Prop) (E:ae->af->Prop),tn i s.heap->Q (.ref it) s->wpAny (model P w) A (pyIter (.ref it)) Q E s
abbrev TI:=St->Hp->(It->Hp->Prop)->Prop
def PIE(X:Cx)(pins:cy)(σ:St)(tg:Expr)(R:It->Hp->Prop)(itv:ae)(s2:af):Prop:=
 ∃(it:Addr) (fp:List Addr) (tn:Nat->Heap->Prop) (J:It) (H':Hp),itv=.ref it/\Inv X pins σ H' s2/\Turn X.prog X.w X.K tg J fp it tn/\tn 0 s2.heap/\(∀b∈fp,DH X pins H' b)/\R J H'
def PI(X:Cx)(tg iter:Expr)(wi:TI):Prop:=
 ∀(pins:cy) (s:af) (σ:St) (H:Hp) (R:It->Hp->Prop),Inv X pins σ H s->wi σ H R->
  wpAny (model X.prog X.w) X.A (eval iter X.env) (λv s1=>wpAny (model X.prog X.w) X.A (pyIter v) (PIE X pins σ tg R) X.xe s1) X.xe s
theorem Jp{s:af}{n:String}(ho:s.heap.get? it=some o)(hc:o.cls=.type n)(hd:o.data=.fields vs)
  (hn:["enumerate", "zip", "dict_itemiterator", "dict_reverseitemiterator", "odict_iterator", "itertools.zip_longest", "itertools.pairwise"].contains n=false) (hQ:Q () s):wpAny M A (letOwnedTupleGo tg (.ref it) u) Q E s:=by
 unfold letOwnedTupleGo;cases tg<;>first
  |exact aD hQ
  |(cases u<;>first
    |exact aD hQ
    |(refine au (wpAny_load ho ?_)
      rw[hc,hd];show wpAny M A (if (["enumerate", "zip", "dict_itemiterator", "dict_reverseitemiterator", "odict_iterator", "itertools.zip_longest", "itertools.pairwise"].contains n&&vs[0]?==some (rawInt _))=true then _ else _) Q E s;rw[aj (by intro h;rw[hn,mL]at h;cases h)];exact aD hQ))
def Itl(K:aw)(a:Addr):It:=
 ⟨λi H=>∃xs x,SqL K H a xs/\xs[i]?=some x,λi H x H'=>H'=H/\∀xs,SqL K H a xs->xs[i]?=some x,λi H=>∃xs,SqL K H a xs/\xs.length<=i⟩
def Itt(K:aw)(a:Addr):It:=
 ⟨λi H=>∃xs x,SqT K H a xs/\xs[i]?=some x,λi H x H'=>H'=H/\∀xs,SqT K H a xs->xs[i]?=some x,λi H=>∃xs,SqT K H a xs/\xs.length<=i⟩
def Itr(lo:Int)(n:Nat):It:=⟨λi _=>i<n,λi H x H'=>H'=H/\x=.int (lo+i),λi _=>n<=i⟩
theorem Ku{K:aw}(a it:Addr):Turn P w K tg (Itl K a) [it] it (λi h=>h.IsListIter it a i) where
 mem:=by simp
 obj:=λi h st b hb=>by
  have e:b=it:=by simpa using hb
  subst e;obtain⟨o,e,c,d⟩:=st;exact⟨o,e,λv z=>by rw[d]at z;cases z⟩
 keep:=λi h h' st k=>st.at λo e=>k it (by simp) o e
 item:=by intro X hP hw hK hc i pins s σ H E I hf st hg;subst hP hw hK;obtain⟨xs,x,hq,hx⟩:=hg;obtain⟨its,rv,p,hz⟩:=I.list hq;obtain⟨u,hu,ru⟩:=rv.get hx;obtain⟨f0,f1,f2,f3,f4,f5⟩:=hf it (by simp);refine wpAny_pyNext_list_item st p.isList (x:=u) (by simpa using hu) λh' st' sb=>?_;have I1:Inv X pins σ H { s with heap:=h' }:=I.turned (t':=s.toks) (λb o hb e=>(sb.2 b hb).trans e) f0 f1 f3 f4 f5;obtain⟨o,e,c,d⟩:=id st';exact⟨u,rfl,Jp (s:={ s with heap:=h' }) e c d (by decide) ⟨x,H,I1,ru,⟨rfl,λys hy=>by rw[I.list_inj hy hq];exact hx⟩,st',λb hb=>(hf b hb).1⟩⟩
 done:=by intro X hP hw hK hc i pins s σ H E I hf st hg;subst hP hw hK;obtain⟨xs,hq,hx⟩:=hg;obtain⟨its,rv,p,hz⟩:=I.list hq;obtain⟨f0,f1,f2,f3,f4,f5⟩:=hf it (by simp);have hl:=rv.length;exact wpAny_pyNext_list_end (I.ok.hd hc) st p.isList (by simp;omega) λh' eb=>⟨rfl,I.turned (t':=s.toks) (λb o hb e=>eb b o hb e) f0 f1 f3 f4 f5⟩
 self:=λ_ _ _ _ _ st h=>wpAny_pyIter_listiter st h
theorem HJ{K:aw}(a it:Addr):Turn P w K tg (Itt K a) [it] it (λi h=>h.IsTupleIter it a i) where
 mem:=by simp
 obj:=λi h st b hb=>by
  have e:b=it:=by simpa using hb
  subst e;obtain⟨o,e,c,d⟩:=st;exact⟨o,e,λv z=>by rw[d]at z;cases z⟩
 keep:=λi h h' st k=>st.at λo e=>k it (by simp) o e
 item:=by intro X hP hw hK hc i pins s σ H E I hf st hg;subst hP hw hK;obtain⟨xs,x,hq,hx⟩:=hg;obtain⟨its,rv,p,hz⟩:=I.tuple hq;obtain⟨u,hu,ru⟩:=rv.get hx;obtain⟨f0,f1,f2,f3,f4,f5⟩:=hf it (by simp);refine wpAny_pyNext_tuple_item st (show s.heap.IsTuple a its.toArray from p) (x:=u) (by simpa using hu) λh' st' sb=>?_;have I1:Inv X pins σ H { s with heap:=h' }:=I.turned (t':=s.toks) (λb o hb e=>(sb.2 b hb).trans e) f0 f1 f3 f4 f5;obtain⟨o,e,c,d⟩:=id st';exact⟨u,rfl,Jp (s:={ s with heap:=h' }) e c d (by decide) ⟨x,H,I1,ru,⟨rfl,λys hy=>by rw[I.tuple_inj hy hq];exact hx⟩,st',λb hb=>(hf b hb).1⟩⟩
 done:=by intro X hP hw hK hc i pins s σ H E I hf st hg;subst hP hw hK;obtain⟨xs,hq,hx⟩:=hg;obtain⟨its,rv,p,hz⟩:=I.tuple hq;obtain⟨f0,f1,f2,f3,f4,f5⟩:=hf it (by simp);have hl:=rv.length;exact wpAny_pyNext_tuple_end (I.ok.hd hc) st (show s.heap.IsTuple a its.toArray from p) (by simp;omega) λh' eb=>⟨rfl,I.turned (t':=s.toks) (λb o hb e=>eb b o hb e) f0 f1 f3 f4 f5⟩
 self:=λ_ _ _ _ _ st h=>wpAny_pyIter_tupleiter st h
theorem HK{K:aw}(it:Addr)(lo:Int)(n:Nat):Turn P w K tg (Itr lo n) [it] it (λi h=>IsRangeIter h it (lo+(i:Nat) * 1) ((n:Int) - (i:Nat)) 1) where
 mem:=by simp
 obj:=λi h st b hb=>by
  have e:b=it:=by simpa using hb
  subst e;exact⟨_,st,λv z=>by
   have z':Data.fields _=Data.cell v:=z;cases z'⟩
 keep:=λi h h' st k=>k it (by simp) _ st
 item:=by intro X hP hw hK hc i pins s σ H E I hf st hg;subst hP hw hK;obtain⟨f0,f1,f2,f3,f4,f5⟩:=hf it (by simp);have W:=Walks.range (prog:=X.prog) (w:=X.w) (I.ok.hd hc) it lo 1 n;refine W.item i s _ _ hg st λv h' tk hv st' kk=>?_;obtain⟨t,rfl⟩:=hv;have I1:Inv X pins σ H { s with heap:=h',toks:=tk }:=I.turned (λb o hb e=>kk b o (by simpa using hb) e) f0 f1 f3 f4 f5;refine⟨_,rfl,Jp (s:={ s with heap:=h',toks:=tk }) (n:="range_iterator") st' rfl rfl (by decide) ⟨.int (lo+i),H,I1,⟨t,?_⟩,⟨rfl,rfl⟩,st',λb hb=>(hf b hb).1⟩⟩;rw[Int.mul_one]
 done:=by intro X hP hw hK hc i pins s σ H E I hf st hg;subst hP hw hK;obtain⟨f0,f1,f2,f3,f4,f5⟩:=hf it (by simp);exact wpAny_pyNext_range_end (I.ok.hd hc) st (by have:n<=i:=hg;omega) λh' eb=>⟨rfl,I.turned (t':=s.toks) (λb o hb e=>eb b o hb e) f0 f1 f3 f4 f5⟩
 self:=λ_ _ _ _ _ st h=>wpAny_pyIter_rangeiter st h
section
variable{X:Cx}{tg:Expr}
def LQ(K:aw)(tl:TE):TI:=λσ H R=>tl σ H λx H1=>∃a,x=.ref a/\(∃xs,SqL K H1 a xs)/\R (Itl K a) H1
def Sb(K:aw)(tl:TE):TI:=λσ H R=>tl σ H λx H1=>∃a,x=.ref a/\(∃xs,SqT K H1 a xs)/\R (Itt K a) H1
theorem OL(hl:PE X l tl):PI X tg l (LQ X.K tl):=by
 intro pins s σ H R I h;refine thn (hl pins s σ H _ I h) λv s1 zz=>?_;obtain⟨x,H1,I1,r1,q1⟩:=zz;obtain⟨a,e,⟨xs,hq⟩,q⟩:=q1;subst e;cases r1;obtain⟨its,rv,p,hz⟩:=I1.list hq;refine fT p.isList ?_;refine⟨s1.heap.objs.size,[s1.heap.objs.size],_,_,H1,rfl,I1.kept (t':=s1.toks) λb o e=>aK _ e,Ku a _,⟨_,bu _ rfl,rfl,rfl⟩,λb hb=>?_,q⟩;have e:b=s1.heap.objs.size:=by simpa using hb
 subst e;exact I1.fpOk (aG _) (I1.hok.fresh (aG _))
theorem Sd(hl:PE X l tl):PI X tg l (Sb X.K tl):=by
 intro pins s σ H R I h;refine thn (hl pins s σ H _ I h) λv s1 zz=>?_;obtain⟨x,H1,I1,r1,q1⟩:=zz;obtain⟨a,e,⟨xs,hq⟩,q⟩:=q1;subst e;cases r1;obtain⟨its,rv,p,hz⟩:=I1.tuple hq;refine lV (show s1.heap.IsTuple a its.toArray from p) ?_;refine⟨s1.heap.objs.size,[s1.heap.objs.size],_,_,H1,rfl,I1.kept (t':=s1.toks) λb o e=>aK _ e,HJ a _,⟨_,bu _ rfl,rfl,rfl⟩,λb hb=>?_,q⟩;have e:b=s1.heap.objs.size:=by simpa using hb
 subst e;exact I1.fpOk (aG _) (I1.hok.fresh (aG _))
theorem LR{s:af}{lo:Int}{t v:Tok}{tk:Nat}(I:Inv X pins σ H s)(h1:-(2 ^ 62)<=lo)(h2:lo<2 ^ 62)(h3:-(2 ^ 62)<=hi)(h4:hi<2 ^ 62)
  (q:R (Itr lo (hi - lo).toNat) H):wpAny (model X.prog X.w) X.A (pyIter (.ref s.heap.objs.size)) (PIE X pins σ tg R) E { s with heap:=s.heap.push { cls:=.type "range", data:=.fields #[.int lo t,.int hi u,.int 1 v] },toks:=tk }:=by
 refine wpAny_pyIter_range (IsRange.new ..) (small_one h1 h2 h3 h4) ?_;have I1:Inv X pins σ H { s with heap:=s.heap.push { cls:=.type "range", data:=.fields #[.int lo t,.int hi u,.int 1 v] },toks:=tk }:=I.kept λb o e=>aK _ e;refine⟨(s.heap.push { cls:=.type "range", data:=.fields #[.int lo t,.int hi u,.int 1 v] }).objs.size,[(s.heap.push { cls:=.type "range", data:=.fields #[.int lo t,.int hi u,.int 1 v] }).objs.size],_,_,H,rfl,
  I1.kept (t':=tk) λb o e=>aK _ e,HK _ lo (hi - lo).toNat,?_,λb hb=>?_,q⟩
 ·have e1:lo+((0:Nat):Int) * 1=lo:=by simp
  have e2:(((hi - lo).toNat:Nat):Int) - ((0:Nat):Int)=Builtin.Range.rangeSize lo hi 1:=by rw[rangeSize_one];split<;>omega
  show IsRangeIter _ _ (lo+((0:Nat):Int) * 1) ((((hi - lo).toNat:Nat):Int) - ((0:Nat):Int)) 1;rw[e1,e2];exact bu _ rfl
 ·have e:b=(s.heap.push { cls:=.type "range", data:=.fields #[.int lo t,.int hi u,.int 1 v] }).objs.size:=by simpa using hb
  subst e;exact I1.fpOk (aG _) (I1.hok.fresh (aG _))
def Rj(ta:TA):TI:=λσ H R=>ta σ H λvs H1=>∃j:Int,vs=[.int j]/\-(2 ^ 62)<=j/\j<2 ^ 62/\R (Itr 0 j.toNat) H1
theorem Kv(hg:Gl X "range")(hm:X.mg "range" = none)(ha:PA X [a] ta)(hs:starEach [a] X.env=[(false,eval a X.env)]:=by rfl):PI X tg (.Call (.Name "range" p) [a] [] pos) (Rj ta):=by
 intro pins s σ H R I h;refine Call_ (yR I hg hm boot_range (callWith_type1 (thn (ha pos pins s σ H _ I h) λus s1 zz=>?_) hs rfl));obtain⟨vs,H1,I1,r1,q1⟩:=zz;obtain⟨j,e,q1,q2,q⟩:=q1;subst e;cases r1 with
 |cons r rr=>cases rr;obtain⟨t,rfl⟩:=r;exact call_range_1 (LR I1 (by omega) (by omega) q1 q2 (by simpa using q))
def Se(wi:TI)(g:TG)(tb:TS):TS:=λD σ H=>wi σ H λJ H1=>∃W:Nat->Nat->St->Hp->Prop,(∃m,W 0 m σ H1)/\∀i m σ H,W i m σ H->
 (J.stop i H/\D.nx σ H)\/(J.go i H/\∃N:St->Hp->Prop,(∀σ' H',N σ' H'->∃m',m'<m/\W (i+1) m' σ' H')/\∀x H',J.yld i H x H'->g x σ H' λσ2 H2=>tb { D with nx:=N,ct:=N,bk:=D.nx } σ2 H2)
def BX(fp:List Addr)(h:Heap):cy:=fp.filterMap λb=>(h.get? b).map λo=>(b,o)
theorem ux{h:Heap}(hb:b∈fp)(e:h.get? b=some o):(b,o)∈BX fp h:=jq.mpr ⟨b,hb,by rw[e];rfl⟩
theorem Kw(hp:p∈BX fp h):p.1∈fp/\h.get? p.1=some p.2:=by
 obtain⟨b,hb,e⟩:=jq.mp hp;cases q:h.get? b with
 |none=>rw[q]at e;cases e
 |some o=>rw[q]at e;have e':(b,o)=p:=cf e;subst e';exact⟨hb,q⟩
theorem Inv.pinned{s:af}(I:Inv X pins σ H s)(hf:∀b∈fp,DH X pins H b)(ho:∀b∈fp,∃o,s.heap.get? b=some o/\∀v,o.data≠.cell v):Inv X (pins++BX fp s.heap) σ H s:=
 I.pins_of λp hp=>(bg.mp hp).elim (λz=>I.pin p (bH _ z)) λz=>by obtain⟨hb,e⟩:=Kw z;obtain⟨f0,f1,f2,_⟩:=hf p.1 hb;obtain⟨o,e',d⟩:=ho p.1 hb;rw[e]at e';cases e';exact⟨e,f0,f1,f2,d⟩
theorem Inv.unpinned{pl:cy}{s:af}(I:Inv X (pins++pl) σ H s):Inv X pins σ H s:=I.pins_of λp hp=>I.pin p (bH _ (bF _ hp))
theorem LS{g:TG}(hp:iz (model X.prog X.w) X.A X.env X.xe)(hc:X.calm=true)(hi:PI X tg iter wi)(hg:PG X tg g)(hb:PSs X body tb)
  (hs:∀x,foldedSetIterable iter X.env x=pure x:=by intro _;rfl):PS X (.For tg iter body [] pos) (Se wi g tb):=by
 intro pins s σ H D I h;refine wpAny_For (thn (hi pins s σ H _ I h) λv s1 h1=>thn h1 λitv s2 h2=>?_) hs;obtain⟨it,fp,tn,J,H2,e,I2,T,st2,f2,W,⟨m0,w0⟩,turn⟩:=h2;subst e;have stat:∀{H':Hp},(∀b∈fp,H' b=none)->∀b∈fp,DH X pins H' b:=λhn b hb=>⟨hn b hb,(f2 b hb).2⟩;refine codeAny_forLoop_any (λn s'=>∃i σ' H',Inv X pins σ' H' s'/\tn i s'.heap/\(∀b∈fp,H' b=none)/\W i n σ' H') ?_ m0 ⟨0,σ,H2,I2,st2,λb hb=>(f2 b hb).1,w0⟩;rintro n s3 ⟨i,σ3,H3,I3,st3,fr3,w3⟩;rcases turn i n σ3 H3 w3 with ⟨stop,qn⟩|⟨go,N,hN,step⟩
 ·refine eC hp (thn (T.done X rfl rfl rfl hc i pins s3 σ3 H3 X.xe I3 (stat fr3) st3 stop) λr s4 zz=>?_);obtain⟨hr,I4⟩:=zz;subst hr;exact hZ ⟨σ3,H3,I4,qn⟩
 ·refine eC hp (thn (T.item X rfl rfl rfl hc i pins s3 σ3 H3 X.xe I3 (stat fr3) st3 go) λr s4 zz=>?_);obtain⟨u,hr,h4⟩:=zz;subst hr;refine eC hp (thn h4 λ_ s5 zz=>?_);obtain⟨x,H5,I5,r5,y5,st5,fr5⟩:=zz;have I5':=I5.pinned (stat fr5) (T.obj _ _ st5);refine eC hp (thn (hg _ s5 σ3 H5 x u _ I5' r5 (step x H5 y5)) λ_ s6 zz=>?_);obtain⟨σ6,H6,I6,q6⟩:=zz;refine eC hp (thn (hb _ s6 σ6 H6 _ I6 q6) λf s7 q7=>?_);have again:∀{σ7:St} {H7:Hp},Inv X (pins++BX fp s5.heap) σ7 H7 s7->N σ7 H7->∃m,m<n/\∃i σ' H',Inv X pins σ' H' s7/\tn i s7.heap/\(∀b∈fp,H' b=none)/\W i m σ' H':=λ{σ7 H7} I7 n7=>by obtain⟨m',hm,w7⟩:=hN σ7 H7 n7;refine⟨m',hm,i+1,σ7,H7,I7.unpinned,T.keep _ _ _ st5 λb hb o e=>(I7.pin (b,o) (bH _ (bH _ (ux hb e)))).1,λb hb=>?_,w7⟩;obtain⟨o,e,d⟩:=T.obj _ _ st5 b hb;exact(I7.pin (b,o) (bH _ (bH _ (ux hb e)))).2.1
  cases f with
  |next=>obtain⟨σ7,H7,I7,n7⟩:=q7;exact again I7 n7
  |cont=>obtain⟨σ7,H7,I7,n7⟩:=q7;exact again I7 n7
  |brk=>obtain⟨σ7,H7,I7,q7⟩:=q7;exact⟨σ7,H7,I7.unpinned,q7⟩
  |ret v=>obtain⟨x7,σ7,H7,I7,r7,q7⟩:=q7;exact⟨x7,σ7,H7,I7.unpinned,r7,q7⟩
end
abbrev R2:=V->V->Hp->VK->Prop
def OpR(X:Cx)(f:ae->ae->Sem ae)(r:R2):Prop:=
 ∀(pins:cy) (s:af) (σ:St) (H:Hp) (x y:V) (v u:ae) (Q:VK),Inv X pins σ H s->RelV x v->RelV y u->r x y H Q->
  wpAny (model X.prog X.w) X.A (f v u) (EP X pins σ Q) X.xe s
def qr(X:Cx)(f:ae)(r:bA->Hp->VK->Prop):Prop:=
 ∀(pins:cy) (s:af) (σ:St) (H:Hp) (xs:bA) (us:List ae) (Q:VK),Inv X pins σ H s->Vals xs us->r xs H Q->
  wpAny (model X.prog X.w) X.A (call f us) (EP X pins σ Q) X.xe s
def tOp(r:R2)(ta tb:TE):TE:=λσ H Q=>ta σ H λx H1=>tb σ H1 λy H2=>r x y H2 Q
def rI(C:Int->Int->Prop)(g:Int->Int->V):R2:=λx y H Q=>∃i j,x=.int i/\y=.int j/\C i j/\Q (g i j) H
def rI0(g:Int->Int->V):R2:=λx y H Q=>∃i j,x=.int i/\y=.int j/\Q (g i j) H
section
variable{X:Cx}{a b c:Expr}{ta tb tc:TE}{pos:Pos}
theorem Sf(ha:PE X a ta)(hb:PE X b tb){pins:cy}{s:af}{σ:St}{H:Hp}{R:V->V->Hp->Prop}(I:Inv X pins σ H s)
  (h:ta σ H λx H1=>tb σ H1 λy H2=>R x y H2) {Q:ae->af->Prop} {f:ae->ae->Sem ae}
  (hf:∀v u s2 x y H2,Inv X pins σ H2 s2->RelV x v->RelV y u->R x y H2->wpAny (model X.prog X.w) X.A (f v u) Q X.xe s2):
  wpAny (model X.prog X.w) X.A (eval a X.env) (λv s₁=>wpAny (model X.prog X.w) X.A (eval b X.env) (λu s₂=>wpAny (model X.prog X.w) X.A (f v u) Q X.xe s₂) X.xe s₁) X.xe s:=by
 refine thn (ha pins s σ H _ I h) λv s1 zz=>?_;obtain⟨x,H1,I1,r1,q1⟩:=zz;refine thn (hb pins s1 σ H1 _ I1 q1) λu s2 zz=>?_;obtain⟨y,H2,I2,r2,q2⟩:=zz;exact hf v u s2 x y H2 I2 r1 r2 q2
theorem LU{op:iA}(ho:OpR X (binaryOp op) r)(ha:PE X a ta)(hb:PE X b tb):PE X (.BinOp a op b pos) (tOp r ta tb):=by intro pins s σ H Q I h;exact wpAny_BinOp (Sf ha hb I h λv u s2 x y H2 I2 rx ry q=>ho pins s2 σ H2 x y v u Q I2 rx ry q)
theorem opI{g:Int->Int->Int}
  (rule:∀(i j:Int) (t u:Tok) (s:af) (Q:ae->af->Prop) (E:ae->af->Prop),C i j->Q (.int (g i j) s.toks) { s with toks:=s.toks+1 }->wpAny (model X.prog X.w) X.A (f (.int i t) (.int j u)) Q E s):
  OpR X f (rI C λi j=>.int (g i j)):=by
 intro pins s σ H x y v u Q I rx ry h;obtain⟨i,j,rfl,rfl,hc,q⟩:=h;obtain⟨t,rfl⟩:=rx;obtain⟨t',rfl⟩:=ry;exact rule i j t t' s _ _ hc ⟨.int (g i j),H,I.tok _,⟨_,rfl⟩,q⟩
theorem We{g:Int->Int->Int}
  (rule:∀(i j:Int) (t u:Tok) (s:af) (Q:ae->af->Prop) (E:ae->af->Prop),Q (.int (g i j) s.toks) { s with toks:=s.toks+1 }->wpAny (model X.prog X.w) X.A (f (.int i t) (.int j u)) Q E s):
  OpR X f (rI0 λi j=>.int (g i j)):=by
 intro pins s σ H x y v u Q I rx ry h;obtain⟨i,j,rfl,rfl,q⟩:=h;obtain⟨t,rfl⟩:=rx;obtain⟨t',rfl⟩:=ry;exact rule i j t t' s _ _ ⟨.int (g i j),H,I.tok _,⟨_,rfl⟩,q⟩
theorem OM{g:Int->Int->Bool}
  (rule:∀(i j:Int) (t u:Tok) (s:af) (Q:ae->af->Prop) (E:ae->af->Prop),Q (.bool (g i j)) s->wpAny (model X.prog X.w) X.A (f (.int i t) (.int j u)) Q E s):
  OpR X f (rI0 λi j=>.bl (g i j)):=by
 intro pins s σ H x y v u Q I rx ry h;obtain⟨i,j,rfl,rfl,q⟩:=h;obtain⟨t,rfl⟩:=rx;obtain⟨t',rfl⟩:=ry;exact rule i j t t' s _ _ ⟨.bl (g i j),H,I,rfl,q⟩
def Sg(i j:Int):Prop:=0<j/\j<1073741824
def Wf(i j:Int):Prop:=0<=j/\j<=1000000/\i.natAbs<2 ^ 64
def ON(i j:Int):Prop:=(-(2 ^ 64)<i/\i<2 ^ 64)\/(-(2 ^ 64)<j/\j<2 ^ 64)
theorem ON.ok(h:ON i j):IntMulOk i j:=by
 rcases h with ⟨h1,h2⟩|⟨h1,h2⟩
 ·exact .of_left (intBits_le_64 h1 h2)
 ·exact .of_right (intBits_le_64 h1 h2)
theorem Sh:OpR X (binaryOp .Add) (rI0 λi j=>.int (i+j)):=We λ_ _ _ _ _ _ _ q=>add_int q
theorem Si:OpR X (binaryOp .Sub) (rI0 λi j=>.int (i - j)):=We λ_ _ _ _ _ _ _ q=>sub_int q
theorem Sj:OpR X (binaryOp .Mult) (rI ON λi j=>.int (i * j)):=opI λ_ _ _ _ _ _ _ hc q=>mul_int q hc.ok
theorem OO:OpR X (binaryOp .FloorDiv) (rI Sg λi j=>.int (i / j)):=opI λi j _ _ _ _ _ hc q=>by have h1:(0:Int)<j:=hc.1;have h2:j<1073741824:=hc.2;exact floordiv_int (by omega) (by rw[Int.fdiv_eq_ediv_of_nonneg i (by omega)];exact q) (.inl (PyProof.noPylong_small (by omega)))
theorem Sk:OpR X (binaryOp .Mod) (rI (λ_ j=>0<j) λi j=>.int (i % j)):=opI λi j _ _ _ _ _ hc q=>by have h1:(0:Int)<j:=hc;exact mod_int' (by omega) (by rw[Int.fmod_eq_emod_of_nonneg i (by omega)];exact q)
theorem Sm:OpR X (binaryOp .Pow) (rI Wf λi j=>.int (i ^ j.toNat)):=opI λ_ _ _ _ _ _ _ hc q=>pow_int_small hc.1 hc.2.1 hc.2.2 q
end
def LV:V->V->Bool
 |.non,.non=>true|.non,.int _=>true|.int _,.non=>true|.non,.bl _=>true|.bl _,.non=>true|.non,.str _=>true|.str _,.non=>true
 |.int _,.int _=>true|.bl _,.bl _=>true|.str _,.str _=>true|.byt _,.byt _=>true
 |.int _,.str _=>true|.str _,.int _=>true|.bl _,.str _=>true|.str _,.bl _=>true
 |_,_=>false
def rEq:R2:=λx y H Q=>LV x y=true/\Q (.bl (decide (x=y))) H
def rNe:R2:=λx y H Q=>LV x y=true/\Q (.bl (!decide (x=y))) H
theorem Jq:decide (V.int i=V.int j)=(i==j):=by rw[cM];simp
theorem LW:decide (V.bl i=V.bl j)=(i==j):=by rw[cM];simp
theorem Jr:decide (V.str i=V.str j)=(i==j):=by rw[cM];simp
theorem Js:decide (V.byt i=V.byt j)=(i.toList==j.toList):=by rw[cM];cases i;cases j;simp
section
variable{X:Cx}{a b c:Expr}{ta tb tc:TE}{pos:Pos}
theorem px{s:af}{k:Bool}(I:Inv X pins σ H s)(q:Q (.bl k) H)(e:k=k'):EP X pins σ Q (.bool k') s:=by subst e;exact⟨.bl k,H,I,rfl,q⟩
theorem Wg:OpR X (compareOp .Eq) rEq:=by
 intro pins s σ H x y v u Q I rx ry h;obtain⟨hs,q⟩:=h;cases x with
 |non=>
  cases rx;cases y with
  |non=>cases ry;exact PySem.EqNone.eq_none_none (px I q (by simp))
  |bl j=>cases ry;exact PySem.EqNone.eq_none_bool (px I q (by simp))
  |int j=>obtain⟨t',rfl⟩:=ry;exact PySem.EqNone.eq_none_int (px I q (by simp))
  |str j=>obtain⟨t',rfl⟩:=ry;exact PySem.EqNone.eq_none_str (px I q (by simp))
  |_=>exact ao (show false=true from hs) bp
 |bl i=>
  cases rx;cases y with
  |non=>cases ry;exact PySem.EqNone.eq_bool_none (px I q (by simp))
  |bl j=>cases ry;exact eq_bool (px I q LW)
  |str j=>obtain⟨t',rfl⟩:=ry;exact PySem.EqMixed.eq_bool_str (px I q (by simp))
  |_=>exact ao (show false=true from hs) bp
 |int i=>
  obtain⟨t,rfl⟩:=rx;cases y with
  |non=>cases ry;exact PySem.EqNone.eq_int_none (px I q (by simp))
  |int j=>obtain⟨t',rfl⟩:=ry;exact eq_int (px I q Jq)
  |str j=>obtain⟨t',rfl⟩:=ry;exact PySem.EqMixed.eq_int_str (px I q (by simp))
  |_=>exact ao (show false=true from hs) bp
 |str i=>
  obtain⟨t,rfl⟩:=rx;cases y with
  |non=>cases ry;exact PySem.EqNone.eq_str_none (px I q (by simp))
  |bl j=>cases ry;exact PySem.EqMixed.eq_str_bool (px I q (by simp))
  |int j=>obtain⟨t',rfl⟩:=ry;exact PySem.EqMixed.eq_str_int (px I q (by simp))
  |str j=>obtain⟨t',rfl⟩:=ry;exact eq_str (px I q Jr)
  |_=>exact ao (show false=true from hs) bp
 |byt i=>
  obtain⟨t,rfl⟩:=rx;cases y with
  |byt j=>obtain⟨t',rfl⟩:=ry;exact W.eq_bytes (px I q Js)
  |_=>exact ao (show false=true from hs) bp
 |_=>cases y<;>exact ao (show false=true from hs) bp
theorem Wh:OpR X (compareOp .NotEq) rNe:=by
 intro pins s σ H x y v u Q I rx ry h;obtain⟨hs,q⟩:=h;cases x with
 |non=>
  cases rx;cases y with
  |non=>cases ry;exact PySem.EqNone.ne_none_none (px I q (by simp))
  |bl j=>cases ry;exact PySem.EqNone.ne_none_bool (px I q (by simp))
  |int j=>obtain⟨t',rfl⟩:=ry;exact PySem.EqNone.ne_none_int (px I q (by simp))
  |str j=>obtain⟨t',rfl⟩:=ry;exact PySem.EqNone.ne_none_str (px I q (by simp))
  |_=>exact ao (show false=true from hs) bp
 |bl i=>
  cases rx;cases y with
  |non=>cases ry;exact PySem.EqNone.ne_bool_none (px I q (by simp))
  |bl j=>cases ry;exact ne_bool (px I q (aR not LW))
  |str j=>obtain⟨t',rfl⟩:=ry;exact PySem.EqMixed.ne_bool_str (px I q (by simp))
  |_=>exact ao (show false=true from hs) bp
 |int i=>
  obtain⟨t,rfl⟩:=rx;cases y with
  |non=>cases ry;exact PySem.EqNone.ne_int_none (px I q (by simp))
  |int j=>obtain⟨t',rfl⟩:=ry;exact ne_int (px I q (aR not Jq))
  |str j=>obtain⟨t',rfl⟩:=ry;exact PySem.EqMixed.ne_int_str (px I q (by simp))
  |_=>exact ao (show false=true from hs) bp
 |str i=>
  obtain⟨t,rfl⟩:=rx;cases y with
  |non=>cases ry;exact PySem.EqNone.ne_str_none (px I q (by simp))
  |bl j=>cases ry;exact PySem.EqMixed.ne_str_bool (px I q (by simp))
  |int j=>obtain⟨t',rfl⟩:=ry;exact PySem.EqMixed.ne_str_int (px I q (by simp))
  |str j=>obtain⟨t',rfl⟩:=ry;exact ne_str (px I q (aR not Jr))
  |_=>exact ao (show false=true from hs) bp
 |byt i=>
  obtain⟨t,rfl⟩:=rx;cases y with
  |byt j=>obtain⟨t',rfl⟩:=ry;exact W.ne_bytes (px I q (aR not Js))
  |_=>exact ao (show false=true from hs) bp
 |_=>cases y<;>exact ao (show false=true from hs) bp
theorem Wi:OpR X (compareOp .Lt) (rI0 λi j=>.bl (decide (i<j))):=OM λ_ _ _ _ _ _ _ q=>lt_int q
theorem Wj:OpR X (compareOp .LtE) (rI0 λi j=>.bl (decide (i<=j))):=OM λ_ _ _ _ _ _ _ q=>le_int q
theorem Wk:OpR X (compareOp .Gt) (rI0 λi j=>.bl (decide (j<i))):=OM λ_ _ _ _ _ _ _ q=>gt_int q
theorem Wl:OpR X (compareOp .GtE) (rI0 λi j=>.bl (decide (j<=i))):=OM λ_ _ _ _ _ _ _ q=>ge_int q
theorem Sn:OpR X (compareOp .Is) (λx y H Q=>y=.non/\Q (.bl (decide (x=.non))) H):=by
 intro pins s σ H x y v u Q I rx ry h;obtain⟨rfl,q⟩:=h;cases ry;refine is_none_gen (px I q ?_);cases x<;>first
  |(cases rx;rfl)
  |(obtain⟨t,rfl⟩:=rx;rfl)
theorem OP:OpR X (compareOp .IsNot) (λx y H Q=>y=.non/\Q (.bl (!decide (x=.non))) H):=by
 intro pins s σ H x y v u Q I rx ry h;obtain⟨rfl,q⟩:=h;cases ry;refine isnot_none_gen (px I q ?_);cases x<;>first
  |(cases rx;rfl)
  |(obtain⟨t,rfl⟩:=rx;rfl)
theorem OQ{op:cI}(ho:OpR X (compareOp op) r)(ha:PE X a ta)(hb:PE X b tb)(hm:behindInMarks op b=false):PE X (.Compare a [op] [b] pos) (tOp r ta tb):=by intro pins s σ H Q I h;exact wpAny_Compare1 (Sf ha hb I h λv u s2 x y H2 I2 rx ry q=>ho pins s2 σ H2 x y v u Q I2 rx ry q) hm
def LX(t:TE):TT:=λσ H Q=>t σ H λx H'=>∃k,x=.bl k/\Q k H'
theorem OR{op:cI}(ho:OpR X (compareOp op) r)(ha:PE X a ta)(hb:PE X b tb)(hm:behindInMarks op b=false):PT X (.Compare a [op] [b] pos) (LX (tOp r ta tb)):=by
 intro pins s σ H Q I h;refine lA (thn (ha pins s σ H _ I h) λv s1 ⟨x,H1,I1,r1,q1⟩=>thn (hb pins s1 σ H1 _ I1 q1) λu s2 ⟨y,H2,I2,r2,q2⟩=>
  thn (ho pins s2 σ H2 x y v u _ I2 r1 r2 q2) λc s3 ⟨z,H3,I3,r3,k,e,q3⟩=>?_) hm
 subst e;cases r3;exact cK ⟨H3,I3,q3⟩
def HL(r r':R2)(ta tb tc:TE):TE:=λσ H Q=>ta σ H λx H1=>tb σ H1 λy H2=>r x y H2 λz H3=>∃k,z=.bl k/\
 (if k=true then tc σ H3 λw' H4=>r' y w' H4 Q else Q (.bl false) H3)
theorem LY{op:cI}(ho:OpR X (compareOp op) r)(ho':OpR X (compareOp op') r')(ha:PE X a ta)(hb:PE X b tb)(hc:PE X c tc)
  (hm:lastMarks [op,op'] [b,c]=false:=by with_unfolding_all rfl):PE X (.Compare a [op,op'] [b,c] pos) (HL r r' ta tb tc):=by
 intro pins s σ H Q I h;refine Compare_chain (thn (ha pins s σ H _ I h) λv s1 ⟨x,H1,I1,r1,q1⟩=>chain_link (thn (hb pins s1 σ H1 _ I1 q1) λu s2 ⟨y,H2,I2,r2,q2⟩=>
  thn (ho pins s2 σ H2 x y v u _ I2 r1 r2 q2) λd s3 ⟨z,H3,I3,r3,k,e,q3⟩=>?_)) hm
 subst e;cases r3;refine cK ?_;cases k with
 |false=>exact ite_ff ⟨.bl false,H3,I3,rfl,q3⟩
 |true=>exact ite_tt (chain_last (thn (hc pins s3 σ H3 _ I3 q3) λw' s4 ⟨z',H4,I4,r4,q4⟩=>ho' pins s4 σ H4 y z' u w' Q I4 r2 r4 q4))
theorem LZ{op:cI}(ho:OpR X (compareOp op) r)(ho':OpR X (compareOp op') r')(ha:PE X a ta)(hb:PE X b tb)(hc:PE X c tc)
  (hm:lastMarks [op,op'] [b,c]=false:=by with_unfolding_all rfl):PT X (.Compare a [op,op'] [b,c] pos) (LX (HL r r' ta tb tc)):=by
 intro pins s σ H Q I h;refine isTrue_chain (thn (ha pins s σ H _ I h) λv s1 ⟨x,H1,I1,r1,q1⟩=>test_link (thn (hb pins s1 σ H1 _ I1 q1) λu s2 ⟨y,H2,I2,r2,q2⟩=>
  thn (ho pins s2 σ H2 x y v u _ I2 r1 r2 q2) λd s3 ⟨z,H3,I3,r3,k,e,q3⟩=>?_)) hm
 subst e;cases r3;refine cK ?_;cases k with
 |false=>obtain⟨k',e',q'⟩:=q3;cases e';exact ite_ff ⟨H3,I3,q'⟩
 |true=>refine ite_tt (test_last (thn (hc pins s3 σ H3 _ I3 q3) λw' s4 ⟨z',H4,I4,r4,q4⟩=>thn (ho' pins s4 σ H4 y z' u w' _ I4 r2 r4 q4) λd' s5 ⟨z2,H5,I5,r5,k2,e2,q5⟩=>?_));subst e2;cases r5;exact cK ⟨H5,I5,q5⟩
theorem BY:(sizeLine:Nat)<2 ^ 63:=by rw[bJ];decide
theorem vals1(r:Vals [x] us):∃u,us=[u]/\RelV x u:=by
 cases r with
 |cons r1 r2=>cases r2;exact⟨_,rfl,r1⟩
theorem vals2(r:Vals [x,y] us):∃u w',us=[u,w']/\RelV x u/\RelV y w':=by
 cases r with
 |cons r1 r2=>
  cases r2 with
  |cons r3 r4=>cases r4;exact⟨_,_,rfl,r1,r3⟩
theorem Kx:qr X (.type "int") (λxs H Q=>(∃i,xs=[.int i]/\Q (.int i) H)\/∃k,xs=[.bl k]/\Q (.int (if k then 1 else 0)) H):=by
 intro pins s σ H xs us Q I r h;rcases h with ⟨i,rfl,q⟩|⟨k,rfl,q⟩
 ·obtain⟨u,rfl,t,rfl⟩:=vals1 r;exact call_int_int ⟨.int i,H,I,⟨_,rfl⟩,q⟩
 ·obtain⟨u,rfl,r1⟩:=vals1 r;cases r1;exact call_int_bool ⟨.int (if k then 1 else 0),H,I.tok _,⟨_,rfl⟩,q⟩
end
structure HM(h:Heap)(x dx C:Addr)(mA:Str->Option ae):Prop where
 obj:h.get? x=some (dj C dx)
 ns:h.Ns1 dx mA
 ne:dx≠x
theorem Kz{h:Heap}(n:h.Ns1 dx mA):∃od,h.get? dx=some od/\∀name,iC name od=some (mA name):=by
 obtain⟨o,es,ep,ho,hd,hk,_,hm⟩:=n;refine⟨o,ho,λname=>?_⟩;have e:=hm name;unfold nsFind findBy at e;rw[<-Array.find?_toList]at e;unfold iC;rw[hd];dsimp only;split
 ·rename_i y q;rw[q]at e;exact aR some e
 ·rename_i q;rw[q]at e;have a:es.toList.any (·.refKey)=false:=by rw[l7];intro y hy;obtain⟨z,t,hkey⟩:=hk y (Array.mem_toList_iff.mp hy);simp[DictEntry.refKey,hkey]
  have a':¬es.toList.any (·.refKey)=true:=by rw[a];exact bp
  rw[aj a'];exact aR some e
theorem HM.look(I:HM h x dx C mA):∃od,W.InstAt h x (dj C dx) C (some od)/\∀name,iC name od=some (mA name):=
 let ⟨od,ho,hl⟩:=Kz I.ns
 ⟨od,⟨I.obj,rfl,rfl,ho⟩,hl⟩
section
variable{prog:aS}{w:aI}{A:aQ}{E:ae->af->Prop}{s:af}{K:aw}{x dx C f:Addr}{mA:Str->Option ae}{name:Str}{v:ae}
theorem get_map(X:K.In s.heap)(I:HM s.heap x dx C mA)(hg:iq K C name=true)(hh:j4 K C=true)
  (ha:cv K (.ref C) name=some none) (hv:mA name=some v) (hv':W.handedIn v=true) (h:Q v { s with toks:=s.toks+1 }):
  wpAny (model prog w) A (getAttr (.ref x) name expr) Q E s:=by
 obtain⟨od,J,hl⟩:=I.look;exact W.get_value X J (jL hg).1 (W.findObj_own hh ha rfl (by rw[hl,hv])) hv' h
theorem L0{pl:Sem Bool}(X:K.In s.heap)(I:HM s.heap x dx C mA)(hg:iq K C name=true)
  (hf:cv K (.ref C) name=some (some (.ref f))) (ht:W.isFn K (.ref f)=true) (hv:mA name=none) (h:Q (.ref f,[.ref x]) s):
  wpAny (model prog w) A (getMethod (.ref x) name pl) Q E s:=by
 obtain⟨od,J,hl⟩:=I.look;exact W.method_fn X J (jL hg).1 (jL hg).2 hf (beq_iff_eq.mp ht) (by show (iC name od).map (·.isSome)=some false;rw[hl,hv];rfl) h
theorem OS(X:K.In s.heap)(I:HM s.heap x dx C mA)
  (hs:cv K (.ref C) "__setattr__" = some (some (.builtin "object.__setattr__"))) (hp:W.plainOver K C=true) (ht:ko K C name=some none) (hh:j4 K C=true)
  (hw:jT mA ns) (hsz:ns.length<=sizeLine)
  (h:∀h',HM h' x dx C (λy=>if y=name then some v else mA y)->fo dx s.heap h'->Q () { s with heap:=h',toks:=s.toks+2 }):
  wpAny (model prog w) A (setAttr (.ref x) name v) Q E s:=by
 obtain⟨od,J,hl⟩:=I.look;refine W.set_plain X J hs (W.osa_open (s:={ s with toks:=s.toks+1 }) (r:=none) X J hp ht λb=>?_);obtain⟨cd,hc,hd'⟩:=W.any_some hh;have hx:s.heap.get? x=some ⟨.ref C,some dx,.plain,#[]⟩:=I.obj;refine au (aD (au (au (wpAny_loadPart hx (au (W.Looks.here (s:={ s with toks:=s.toks+1 }) (W.looks_clsIn X hc) ?_))))));rw[hd'];refine aD (a:=some dx) (au (aD (au ?_)));refine wpAny_nsSet1 (s:={ s with toks:=s.toks+1 }) I.ns λh' hn2 hs2=>?_;obtain⟨oD,esD,epD,hoD,hdD,hcD⟩:=hn2.count (PySem.Within.cons name v hw);refine au (wpAny_lookBehind hoD (by rw[hdD];exact pastItsLine_dict (bL hcD (by rw[aE];omega))) ?_);exact aD (h _ ⟨(hs2.2 _ (cQ I.ne)).trans I.obj,hn2,I.ne⟩ hs2)
theorem L1(X:K.In s.heap)(hm:kq K C=true)
  (hi:cv K (.ref C) "__init__" = some (some (.ref f))) (hf:W.typeIn K (.ref f)=some (.type "function"))
  (h:codeAny (model prog w) (A.under (.builtin "type.__call__" ⟨.ref C::vs,kw⟩)) (.call (.ref f) ⟨.ref (s.heap.objs.size+1)::vs,kw⟩) (W.InitBack (s.heap.objs.size+1) R)
   { s with heap:=(s.heap.push c5).push (dj C s.heap.objs.size) }):
  codeAny (model prog w) A (.call (.ref C) ⟨vs,kw⟩) R s:=by
 obtain⟨hh,g,d,t,os⟩:=s;exact W.make_core (km X hm) (W.looks_findIn X hi) (λself=>W.bind_fn X self hf) (.inl rfl) h
theorem KA(X:K.In s.heap)(hm:kq K C=true)
  (hi:cv K (.ref C) "__init__" = some (some (.builtin "object.__init__")))
  (hb:∀self,W.Looks (model prog w) s.heap (bindSpecial (.builtin "object.__init__") self) (.builtin "object.__init__", [self]))
  (h:codeAny (model prog w) (A.under (.builtin "type.__call__" ⟨[.ref C],[]⟩)) (.call (.builtin "object.__init__") ⟨[.ref (s.heap.objs.size+1)],[]⟩) (W.InitBack (s.heap.objs.size+1) R)
   { s with heap:=(s.heap.push c5).push (dj C s.heap.objs.size) }):
  codeAny (model prog w) A (.call (.ref C) ⟨[],[]⟩) R s:=by
 obtain⟨hh,g,d,t,os⟩:=s;exact W.make_core (km X hm) (W.looks_findIn X hi) hb (.inr ⟨rfl,rfl⟩) h
end
def vL(f:Str)(v:V):List (Str×V)->List (Str×V)
 |[]=>[(f,v)]
 |(g,x)::r=>if g=f then (g,v)::r else (g,x)::vL f v r
theorem AI(f g:Str)(v:V):∀fs:List (Str×V),(vL f v fs).lookup g=if g=f then some v else fs.lookup g
 |[]=>by
  show cO g [(f,v)]=_;by_cases h:g=f
  ·have hb:(g==f)=true:=beq_iff_eq.mpr h;simp only[cO,hb,ai h]
  ·have hb:(g==f)=false:=beq_eq_false_iff_ne.mpr h;simp only[cO,hb,aj h]
 |(k,x)::r=>by
  have ih:=AI f g v r;rw[show vL f v ((k,x)::r)=(if k=f then (k,v)::r else (k,x)::vL f v r) from rfl];by_cases hk:k=f
  ·rw[ai hk];by_cases h:g=k
   ·have hb:(g==k)=true:=beq_iff_eq.mpr h;simp only[cO,hb,ai (h.trans hk)]
   ·have hb:(g==k)=false:=beq_eq_false_iff_ne.mpr h;simp only[cO,hb,aj (λe:g=f=>h (e.trans hk.symm))]
  ·rw[aj hk];by_cases h:g=k
   ·have hb:(g==k)=true:=beq_iff_eq.mpr h;simp only[cO,hb,aj (λe:g=f=>hk (h.symm.trans e))]
   ·have hb:(g==k)=false:=beq_eq_false_iff_ne.mpr h;simp only[cO,hb];exact ih
theorem Ac(f:Str)(v:V):∀fs:List (Str×V),f∈(vL f v fs).map (·.1)/\∀g,g∈fs.map (·.1)->g∈(vL f v fs).map (·.1)
 |[]=>⟨by simp[vL],λg h=>by simp at h⟩
 |(k,x)::r=>by
  obtain⟨i1,i2⟩:=Ac f v r;rw[show vL f v ((k,x)::r)=(if k=f then (k,v)::r else (k,x)::vL f v r) from rfl];by_cases hk:k=f
  ·rw[ai hk];subst hk;exact⟨by simp,λg h=>by simpa using h⟩
  ·rw[aj hk];refine⟨?_,λg h=>?_⟩
   ·rw[ay];exact bh _ i1
   ·rw[ay]at h ⊢;rcases aM.mp h with e|e
    ·exact aM.mpr (.inl e)
    ·exact bh _ (i2 g e)
theorem AJ(f:Str)(v:V):∀fs:List (Str×V),(vL f v fs).length<=fs.length+1
 |[]=>by simp[vL]
 |(k,x)::r=>by
  have ih:=AJ f v r;rw[show vL f v ((k,x)::r)=(if k=f then (k,v)::r else (k,x)::vL f v r) from rfl];by_cases hk:k=f
  ·rw[ai hk,aE,aE];omega
  ·rw[aj hk,aE,aE];omega
theorem xm.some_of{v:V}(r:xm (some v) o):∃u,o=some u/\RelV v u:=by
 cases o with
 |none=>exact(show False from r).elim
 |some u=>exact⟨u,rfl,r⟩
theorem xm.none_of(r:xm none o):o=none:=by
 cases o with
 |none=>rfl
 |some u=>exact(show False from r).elim
theorem KB{v:V}(r:RelV v u):W.handedIn u=true:=by
 cases v with
 |non=>cases (show u=Value.none from r);rfl
 |bl b=>cases (show u=Value.bool b from r);rfl
 |int i=>obtain⟨t,e⟩:=(show ∃t,u=Value.int i t from r);cases e;rfl
 |str x=>obtain⟨t,e⟩:=(show ∃t,u=Value.str x t from r);cases e;rfl
 |byt b=>obtain⟨t,e⟩:=(show ∃t,u=Value.bytes b t from r);cases e;rfl
 |flt b=>obtain⟨t,e⟩:=(show ∃t,u=Value.float b t from r);cases e;rfl
 |ref a=>cases (show u=Value.ref a from r);rfl
 |ty n=>cases (show u=Value.type n from r);rfl
section
variable{P:aS}{w:aI}{H H':Hp}{h h':Heap}{a C dx:Addr}{fs fs':List (Str×V)}
theorem BL(hok:HOk P w H h)(e:H a=some (.ins C dx fs)):∃mA,HM h a dx C mA/\(∀f,xm (fs.lookup f) (mA f))/\jT mA (fs.map (·.1))/\fs.length<=1000/\H dx=some (.own a):=by obtain⟨d,z,ne,ob,mA,n,r,q⟩:=(show pI P w H h a (.ins C dx fs) from hok a _ e);exact⟨mA,⟨ob,n,ne⟩,r,q,z,d⟩
end
structure Cls(K:aw)(C:Addr):Prop where
 pg:iq K C Str.empty=true
 hd:j4 K C=true
 po:W.plainOver K C=true
 sa:cv K (.ref C) "__setattr__" = some (some (.builtin "object.__setattr__"))
theorem Cls.get{K:aw}(c:Cls K C)(f:Str):iq K C f=true:=c.pg
def uy(K:aw)(C:Addr)(f:Str):Prop:=cv K (.ref C) f=some none
theorem uy.taker{K:aw}(n:uy K C f):ko K C f=some none:=by unfold ko;rw[show cv K (.ref C) f=some none from n];rfl
structure Meth(K:aw)(C:Addr)(m:Str)(f:Addr):Prop where
 at_:cv K (.ref C) m=some (some (.ref f))
 fn:W.isFn K (.ref f)=true
 kp:c7 K (.ref f)=true
section
variable{X:Cx}{pins:cy}{σ:St}{H:Hp}{s:af}{a C dx:Addr}{fs:List (Str×V)}{f:Str}{v:V}{A:aQ}{E:ae->af->Prop}
theorem HN(I:Inv X pins σ H s)(e:H a=some (.ins C dx fs))(c:Cls X.K C)(n:uy X.K C f)(l:fs.lookup f=some v)
  (h:∀u s',Inv X pins σ H s'->RelV v u->Q u s'):wpAny (model X.prog X.w) A (getAttr (.ref a) f b) Q E s:=by
 obtain⟨mA,O,r,_,_,_⟩:=BL I.hok e;obtain⟨u,hu,ru⟩:=xm.some_of (v:=v) (o:=mA f) (by rw[<-l];exact r f);exact get_map I.kIn O (c.get f) c.hd n hu (KB ru) (h u _ (I.tok _) ru)
theorem BZ{g:Addr}{pl:Sem Bool}(I:Inv X pins σ H s)(e:H a=some (.ins C dx fs))(c:Cls X.K C)(k:Meth X.K C m g)(l:fs.lookup m=none)
  (h:Q (.ref g,[.ref a]) s):wpAny (model X.prog X.w) A (getMethod (.ref a) m pl) Q E s:=by
 obtain⟨mA,O,r,_,_,_⟩:=BL I.hok e;have hn:mA m=none:=xm.none_of (by rw[<-l];exact r m);exact L0 I.kIn O (c.get m) k.at_ k.fn hn h
theorem HP(I:Inv X pins σ H s)(e:H a=some (.ins C dx fs))(c:Cls X.K C)(n:uy X.K C f)(hl:fs.length<1000)(ry:RelV y u)
  (h:∀s',Inv X pins σ (upd H a (.ins C dx (vL f y fs))) s'->Q () s'):wpAny (model X.prog X.w) A (setAttr (.ref a) f u) Q E s:=by
 obtain⟨mA,O,r,wi,_,ho⟩:=BL I.hok e;have hz:(fs.map (·.1)).length<=sizeLine:=by rw[ah,bJ];omega
 refine OS I.kIn O c.sa c.po n.taker c.hd wi hz λh' O' sb=>h _ ?_;have hd:∃o,h'.get? dx=some o:=let ⟨o,_,_,e',_⟩:=O'.ns;⟨o,e'⟩;refine I.write (x:=a) (e:=dx) (by rw[e];exact True.intro) (.inr ho) (λb q hb z=>(sb.2 b hb).trans z) hd ?_;refine⟨by rw[oo O.ne];exact ho,?_,O.ne,O'.obj,_,O'.ns,λg=>?_,λg hg=>?_⟩
 ·have:=AJ f y fs;omega
 ·show xm ((vL f y fs).lookup g) (if g=f then some u else mA g);rw[AI];by_cases q:g=f
  ·rw[ai q,ai q];exact ry
  ·rw[aj q,aj q];exact r g
 ·by_cases q:g=f
  ·rw[q];exact(Ac f y fs).1
  ·refine(Ac f y fs).2 g (wi g λz=>hg ?_);show (if g=f then some u else mA g)=none;rw[aj q];exact z
theorem Inv.made(I:Inv X pins σ H s):Inv X pins σ (upd (upd H s.heap.objs.size (.own (s.heap.objs.size+1))) (s.heap.objs.size+1) (.ins C s.heap.objs.size []))
  { s with heap:=(s.heap.push c5).push (dj C s.heap.objs.size) }:=by
 have e1:(s.heap.push c5).get? s.heap.objs.size=some c5:=bu s.heap rfl;have e2:((s.heap.push c5).push (dj C s.heap.objs.size)).get? (s.heap.objs.size+1)=some (dj C s.heap.objs.size):=by
  have:=bu (s.heap.push c5) (o:=dj C s.heap.objs.size) rfl
  rwa [dh]at this
 have e3:(s.heap.push c5).Ns s.heap.objs.size (λ_=>none):=⟨c5,#[],_,e1,rfl,(λe he=>ao he (by simp)),λ_=>rfl⟩;have I1:=I.laid (a:=s.heap.objs.size) (o:=.own (s.heap.objs.size+1)) (h':=s.heap.push c5) (t':=s.toks) (λb u q=>aK _ q) (aG _) ⟨_,e1⟩;refine I1.laid (a:=s.heap.objs.size+1) (o:=.ins C s.heap.objs.size []) (t':=s.toks) (λb u q=>aK _ q) (jU (dh _ _)) ?_;have ne:s.heap.objs.size≠s.heap.objs.size+1:=aX (dE _);refine⟨by rw[oo ne,om],cj _,ne,e2,λ_=>none,(Heap.Ns1.of_empty e3).at λo q=>aK _ q,λ_=>True.intro,λy hy=>ao rfl hy⟩
theorem OT{s:af}(hb:attributeBase e f env (eval e env)=eval e env)
  (h:wpAny (model prog w) A (eval e env) (λo s₁=>wpAny (model prog w) A (getAttr o f true) Q E s₁) E s):wpAny (model prog w) A (eval (.Attribute e f pos) env) Q E s:=
 Attribute_any_ h (by rw[arm_eval_Attribute,hb])
end
def XS(K:aw)(ta:TE)(f:Str):TE:=λσ H Q=>ta σ H λx H1=>∃a C dx fs v,x=.ref a/\H1 a=some (.ins C dx fs)/\Cls K C/\uy K C f/\fs.lookup f=some v/\Q v H1
def Wm(K:aw)(ta tv:TE)(f:Str):TS:=λD σ H=>tv σ H λy H1=>ta σ H1 λx H2=>∃a C dx fs,x=.ref a/\H2 a=some (.ins C dx fs)/\Cls K C/\uy K C f/\fs.length<1000/\
 D.nx σ (upd H2 a (.ins C dx (vL f y fs)))
section
variable{X:Cx}{o e value:Expr}{f:Str}{pos pos' tpos:Pos}{ta tv:TE}
theorem So(he:PE X e ta)(hb:attributeBase e f X.env (eval e X.env)=eval e X.env):PE X (.Attribute e f pos) (XS X.K ta f):=by intro pins s σ H Q I h;refine OT hb (thn (he pins s σ H _ I h) λu s1 zz=>?_);obtain⟨x,H1,I1,rx,a,C,dx,fs,v,ex,ea,c,n,l,q⟩:=zz;subst ex;obtain rfl:u=Value.ref a:=rx;exact HN I1 ea c n l λu' s2 I2 ru=>⟨v,H1,I2,ru,q⟩
theorem Sq(ha:PE X o ta)(hv:PE X value tv)(hs:swapsWith value (some (.Attribute o f pos')) pos.line X.env=pure false):PS X (.Assign [.Attribute o f pos'] value pos) (Wm X.K ta tv f):=by intro pins s σ H D I h;refine plainObj_wpAny_Assign_Attribute (thn (hv pins s σ H _ I h) λu s1 ⟨y,H1,I1,ry,q⟩=>thn (ha pins s1 σ H1 _ I1 q) λov s2 zz=>?_) hs;obtain⟨x,H2,I2,rx,a,C,dx,fs,ex,ea,c,n,l,q2⟩:=zz;subst ex;obtain rfl:ov=Value.ref a:=rx;exact HP I2 ea c n l ry λs3 I3=>⟨σ,_,I3,q2⟩
end
section
variable{X:Cx}{pins:cy}{σ:St}{H:Hp}{s:af}{A:aQ}{E:ae->af->Prop}{Q:ae->af->Prop}{c:ae}{b:Bool}
inductive BD(K:aw) (H:Hp):V->ae->Prop where
 |non:BD K H .non (.type "NoneType")
 |bl (x:Bool):BD K H (.bl x) (.type "bool")
 |int (i:Int):BD K H (.int i) (.type "int")
 |str (x:Str):BD K H (.str x) (.type "str")
 |flt (x:UInt64):BD K H (.flt x) (.type "float")
 |lst {a:Addr} {xs:bA} (e:H a=some (.lst xs)):BD K H (.ref a) (.type "list")
 |frz {a:Addr} {o:Obj} {xs:bA} (e:H a=some (.frz o (.lst xs))):BD K H (.ref a) (.type "list")
 |tup {a:Addr} {xs:bA} (e:H a=some (.tup xs)):BD K H (.ref a) (.type "tuple")
 |dK {a:Addr} {kvs:List (Key×V)} (e:H a=some (.dK kvs)):BD K H (.ref a) (.type "dict")
 |dT {a:Addr} {kvs:List (List Key×V)} (e:H a=some (.dT kvs)):BD K H (.ref a) (.type "dict")
 |ins {a C dx:Addr} {fs:List (Str×V)} (e:H a=some (.ins C dx fs)) (cl:Cls K C) (ha:cv K (.ref C) "__class__" = some (some (.builtin "object.__class__")))
   (hn:W.specialIn K (.builtin "object.__class__") "__get__" = some (some (.builtin "getset_descriptor.__get__"))) (htk:W.takesIn K (.builtin "object.__class__")=some true)
   (hm:W.mroIn K C (.type "object")=some true):BD K H (.ref a) (.ref C)
theorem ur{t:ae}(I:Inv X pins σ H s)(rx:RelV x u)(ty:BD X.K H x t)(e:cH X.K t c=some b)(h:∀tk,Q (.bool b) { s with toks:=tk }):
  wpAny (model X.prog X.w) A (call (.builtin "isinstance") [u,c]) Q E s:=by
 cases ty with
 |non=>cases (show u=Value.none from rx);exact cu W.kitx_none I.kIn True.intro e (λz=>nomatch z) h
 |bl y=>cases (show u=Value.bool y from rx);exact cu W.kitx_bool I.kIn True.intro e (λz=>nomatch z) h
 |int i=>obtain⟨t,q⟩:=(show ∃t,u=Value.int i t from rx);cases q;exact cu W.kitx_int I.kIn True.intro e (λz=>nomatch z) h
 |str y=>obtain⟨t,q⟩:=(show ∃t,u=Value.str y t from rx);cases q;exact cu W.kitx_str I.kIn True.intro e (λz=>nomatch z) h
 |flt y=>obtain⟨t,q⟩:=(show ∃t,u=Value.float y t from rx);cases q;exact cu W.kitx_float I.kIn True.intro e (λz=>nomatch z) h
 |@lst a xs ea=>cases (show u=Value.ref a from rx);obtain⟨_,_,n,_,h1⟩:=(show pI X.prog X.w H s.heap a (.lst xs) from I.hok a _ ea);exact cu j5 I.kIn ⟨_,h1,rfl⟩ e (λz=>nomatch z) h
 |@frz a ob xs ea=>cases (show u=Value.ref a from rx);obtain⟨_,_,_,n,_,h1⟩:=(show pI X.prog X.w H s.heap a (.frz ob (.lst xs)) from I.hok a _ ea);exact cu j5 I.kIn ⟨_,h1,rfl⟩ e (λz=>nomatch z) h
 |@tup a xs ea=>cases (show u=Value.ref a from rx);obtain⟨_,_,_,p⟩:=(show pI X.prog X.w H s.heap a (.tup xs) from I.hok a _ ea);obtain⟨o,h1,h2,_⟩:=p;exact cu W.kitx_tuple I.kIn ⟨o,h1,h2⟩ e (λz=>nomatch z) h
 |@dK a kvs ea=>cases (show u=Value.ref a from rx);obtain⟨_,_,vs,_,p⟩:=(show pI X.prog X.w H s.heap a (.dK kvs) from I.hok a _ ea);obtain⟨o,es,ep,h1,h2,_⟩:=p;exact cu j6 I.kIn ⟨o,h1,h2.1⟩ e (λz=>nomatch z) h
 |@dT a kvs ea=>cases (show u=Value.ref a from rx);obtain⟨_,_,xs,_,o,es,ep,h1,h2,_⟩:=(show pI X.prog X.w H s.heap a (.dT kvs) from I.hok a _ ea);exact cu j6 I.kIn ⟨o,h1,h2.1⟩ e (λz=>nomatch z) h
 |@ins a C dx fs ea cl ha hn htk hm=>cases (show u=Value.ref a from rx);obtain⟨mA,O,_⟩:=BL I.hok ea;obtain⟨od,J,_⟩:=O.look;exact cu (W.kitx_own (cl.get _) cl.hd ha hn htk hm) I.kIn J e (λz=>nomatch z) h
end
structure qa(k:Nat)(A:aQ):Prop where
 hd:A.handled=none
 dp:A.depth+3 * k+5<recursionLimit
 un:A.units+16 * k+200<cLine
theorem qa.mono{k:Nat}(r:qa k A)(h:j<=k):qa j A:=⟨r.hd,by have:=r.dp;omega,by have:=r.un;omega⟩
theorem qa.deeper{k:Nat}(r:qa (k+1) A)(env:Env):qa k (A.deeper env):=
 ⟨r.hd,by have:=r.dp;show A.depth+1+3 * k+5<_;omega,by have:=r.un;show A.units+3+16 * k+200<_;omega⟩
theorem HQ{A:aQ}:(A.under (.builtin "type.__call__" ⟨.ref C::us,kw⟩)).depth=A.depth+1:=by
 first|rfl|simp[jV,Code.weight,Code.isCreation,Code.isGuard,Code.isCaller,Code.frames,jW,guardIds]
theorem HR{A:aQ}:(A.under (.builtin "type.__call__" ⟨.ref C::us,kw⟩)).units=A.units+1:=by
 first|rfl|simp[jV,Code.cUnits,Code.frames,jW]
theorem qa.make{k:Nat}(r:qa (k+1) A)(C:Addr)(us:List ae)(kw:List (Str×ae)):qa k (A.under (.builtin "type.__call__" ⟨.ref C::us,kw⟩)):=
 ⟨r.hd,by have:=r.dp;rw[HQ];omega,by have:=r.un;rw[HR];omega⟩
theorem qa.depth{k:Nat}(r:qa k A):A.depth<recursionLimit:=by have:=r.dp;omega
theorem qa.units{k:Nat}(r:qa k A):A.units+64<cLine:=by have:=r.un;omega
def FZ:TA:=λ_ H Q=>Q [] H
def B2(ta:TE)(tr:TA):TA:=λσ H Q=>ta σ H λx H1=>tr σ H1 λxs H2=>Q (x::xs) H2
section
variable{X:Cx}{e:Expr}{es:List Expr}{te:TE}{t:TA}{pos:Pos}
theorem uA:PA X [] FZ:=λ_ _ _ _ H Q I h=>gZ ⟨[],H,I,.nil,h⟩
theorem qg(ha:PE X e te)(hr:PA X es t)(hs:starEach (e::es) X.env=(false,eval e X.env)::starEach es X.env:=by rfl):PA X (e::es) (B2 te t):=by intro pos pins s σ H Q I h;rw[hs];show wpAny _ _ (spliced ((false,eval e X.env)::backTo pos (starEach es X.env))) _ _ s;refine fS (thn (ha pins s σ H _ I h) λu s1 zz=>?_);obtain⟨x,H1,I1,r1,q1⟩:=zz;exact thn (hr pos pins s1 σ H1 _ I1 q1) λus s2 ⟨xs,H2,I2,r2,q2⟩=>⟨x::xs,H2,I2,.cons r1 r2,q2⟩
def XT(t:TA):TE:=λσ H Q=>t σ H λxs H1=>xs.length<=sizeLine/\∀p,H1 p=none->Q (.ref p) (upd H1 p (.tup xs))
def Wn(t:TA):TE:=λσ H Q=>t σ H λxs H1=>xs.length<=sizeLine/\∀p,H1 p=none->Q (.ref p) (upd H1 p (.lst xs))
theorem Sr{x1}(h:PA X es t):PE X (.Tuple es x1 pos) (XT t):=by intro pins s σ H Q I hq;refine wpAny_Tuple_spliced (thn (h pos pins s σ H _ I hq) λus s1 ⟨xs,H1,I1,r,z,q⟩=>⟨by rw[<-r.length];exact z,?_⟩);have hf:H1 s1.heap.objs.size=none:=I1.hok.fresh (aG _);refine⟨.ref s1.heap.objs.size,upd H1 s1.heap.objs.size (.tup xs),I1.laid (t':=s1.toks) (λb u e=>aK _ e) (aG _) ?_,rfl,q _ hf⟩;exact⟨z,us,r,⟨_,bu _ rfl,rfl,_,rfl⟩⟩
theorem L6(h:PA X es t):PE X (.List es pos) (Wn t):=by intro pins s σ H Q I hq;refine wpAny_List_spliced (thn (h pos pins s σ H _ I hq) λus s1 ⟨xs,H1,I1,r,z,q⟩=>⟨by rw[<-r.length];exact z,?_⟩);have hf:H1 s1.heap.objs.size=none:=I1.hok.fresh (aG _);refine⟨.ref s1.heap.objs.size,upd H1 s1.heap.objs.size (.lst xs),I1.laid (t':=s1.toks) (λb u e=>aK _ e) (aG _) ?_,rfl,q _ hf⟩;exact⟨z,us,0,r,bu _ rfl⟩
end
abbrev Sp:=bA->Hp->VK->XK->Prop
abbrev CXT:=List Env->Hp->af->XK->ae->af->Prop
structure HS(P:aS)(w:aI)(K:aw)(mg:Str->Option ae)(base:Heap)(A:aQ)(outer:List Env)(s:af)(H:Hp):Prop where
 frames:A.frames=some outer
 mod:Mod K mg base
 bs:∀b o,base.get? b=some o->s.heap.get? b=some o/\H b=none
 bsz:base.objs.size<=s.heap.objs.size
 funs:s.heap.FunFrames base outer
 frf:∀b∈frs outer,H b=none
 hok:HOk P w H s.heap
 bare:dm s.gens
def CE(outer:List Env)(P:aS)(w:aI)(H:Hp)(s:af)(Q:VK)(u:ae)(s':af):Prop:=
 ∃v H',s'.os=s.os/\dm s'.gens/\Un (frs outer) [] H H' s.heap s'.heap/\HOk P w H' s'.heap/\RelV v u/\Q v H'
def CR(CX:CXT)(outer:List Env)(P:aS)(w:aI)(H:Hp)(s:af)(Q:VK)(E:XK)(r:fD)(s':af):Prop:=
 match r with
 |.ok (.ret u)=>CE outer P w H s Q u s'
 |.ok _=>False
 |.error e=>CX outer H s E e s'
structure su(P:aS)(w:aI)(K:aw)(mg:Str->Option ae)(base:Heap)(CX:CXT)(k:Nat)(f:Addr)(fd:bW)(ps:aB)(sp:Sp):Prop where
 len:∀vs H Q E,sp vs H Q E->vs.length=ps.length
 run:∀(A:aQ) (outer:List Env) (s:af) (H:Hp) (args:Args) (us:List ae) (vs:bA) (Q:VK) (E:XK),qa k A->HS P w K mg base A outer s H->fC s fd args (ps.zip us)->Vals vs us->sp vs H Q E->
  codeAny (model P w) A (.call (.ref f) args) (CR CX outer P w H s Q E) s
theorem su.mono{K:aw}{k:Nat}(F:su P w K mg base CX j f fd ps sp)(h:j<=k):
  su P w K mg base CX k f fd ps sp:=⟨F.len,λA outer s H args us vs Q E hr=>F.run A outer s H args us vs Q E (hr.mono h)⟩
theorem su.imp{K:aw}{k:Nat}(F:su P w K mg base CX k f fd ps sp)
  (h:∀vs H Q E,sp' vs H Q E->sp vs H Q E):su P w K mg base CX k f fd ps sp':=
 ⟨λvs H Q E q=>F.len vs H Q E (h _ _ _ _ q),λA outer s H args us vs Q E hr he hb hv hs=>F.run A outer s H args us vs Q E hr he hb hv (h _ _ _ _ hs)⟩
theorem HS.make{K:aw}{s:af}(e:HS P w K mg base A outer s H)(C:Addr)(us:List ae)(kw:List (Str×ae)):
  HS P w K mg base (A.under (.builtin "type.__call__" ⟨.ref C::us,kw⟩)) outer s H:=⟨by first|exact e.frames|(simpa [jV,Code.envs,jW,pushEnvs]using e.frames),e.mod,e.bs,e.bsz,e.funs,e.frf,e.hok,e.bare⟩
section
variable{X:Cx}{pins:cy}{σ:St}{H:Hp}{s s':af}
theorem Inv.env0(I:Inv X pins σ H s):HS X.prog X.w X.K X.mg X.base X.A X.stack s H:=
 ⟨I.ok.frames,I.ok.mod,I.bs,bL I.ok.bsz I.sz,I.stack,I.stkFree,I.hok,I.bare⟩
theorem Inv.after(I:Inv X pins σ H s)(h:CE X.stack X.prog X.w H s Q u s'):EP X pins σ Q u s':=by obtain⟨v,H',os,bare,un,hok,r,q⟩:=h;obtain⟨hh,g,d,t,os'⟩:=s';obtain rfl:os'=s.os:=os;exact⟨v,H',I.call (h':=hh) (g':=g) (d':=d) (t':=t) (ch:=[]) un hok bare (λb z=>ao z (by simp)),r,q⟩
end
def xp(sp:Sp)(dvs:bA)(E:XK)(t:TA):TE:=λσ H Q=>t σ H λvs H1=>sp (vs++dvs) H1 Q E
def Rk(C:Addr)(sp:Sp)(dvs:bA)(E:XK)(t:TA):TE:=λσ H Q=>t σ H λvs H1=>∀x dx,H1 x=none->H1 dx=none->dx≠x->
 sp (.ref x::(vs++dvs)) (upd (upd H1 dx (.own x)) x (.ins C dx [])) (λv H2=>v=.non/\Q (.ref x) H2) E
def Binds(K:aw)(fd:bW)(ps:aB)(ds:List ae):Prop:=
 ∀(s:af) (us:List ae),K.In s.heap->(us++ds).length=ps.length->fC s fd ⟨us,[]⟩ (ps.zip (us++ds))
theorem Binds.all{K:aw}{ps:aB}(h:∀us:List ae,us.length=ps.length->bindArgs fd ⟨us,[]⟩=pure (ps.zip us)):Binds K fd ps []:=λs us _ hl=>by rw[bt]at hl ⊢;exact .of_eq (h us hl)
def Passes(CX:CXT)(X:Cx)(E:XK):Prop:=∀(pins:cy) (σ:St) (H:Hp) (s:af) (e:ae) (s':af),Inv X pins σ H s->CX X.stack H s E e s'->X.xe e s'
section
variable{X:Cx}{CX:CXT}{k:Nat}{f C:Addr}{fd:bW}{ps:aB}{sp:Sp}{dvs:bA}{ds:List ae}{E:XK}{x m:Str}{p pos apos:Pos}{e o:Expr}{es:List Expr}{ta:TE}{t:TA}
theorem EU{s:af}(F:su X.prog X.w X.K X.mg X.base CX k f fd ps sp)(hr:qa k X.A)(hb:Binds X.K fd ps ds)(hd:Vals dvs ds)(hx:Passes CX X E)
  (I:Inv X pins σ H s) (r:Vals vs us) (h:sp (vs++dvs) H Q E):wpAny (model X.prog X.w) X.A (call (.ref f) us) (EP X pins σ Q) X.xe s:=by
 have r2:Vals (vs++dvs) (us++ds):=r.append hd;have hl:(us++ds).length=ps.length:=by rw[<-r2.length];exact F.len _ _ _ _ h
 refine ir (fw (F.run X.A X.stack s H ⟨us,[]⟩ (us++ds) (vs++dvs) Q E hr I.env0 (hb s us I.kIn hl) r2 h) λr s' hq=>?_);cases r with
 |error e=>exact hx pins σ H s e s' I hq
 |ok fl=>
  cases fl with
  |ret u=>exact I.after hq
  |next=>exact cB hq
  |brk=>exact cB hq
  |cont=>exact cB hq
theorem zh(F:su X.prog X.w X.K X.mg X.base CX k f fd ps sp)(hr:qa k X.A)(hg:Gl X x)(hm:X.mg x=some (.ref f))(hk:c7 X.K (.ref f)=true)(hb:Binds X.K fd ps ds)(hd:Vals dvs ds)(hx:Passes CX X E)
  (ha:PA X (e::es) t) (hdb:(x==("__debug__" : Str))=false:=by decide) (he:starEach (e::es) X.env=(false,eval e X.env)::starEach es X.env:=by rfl) (hpl:(backTo pos (starEach es X.env)).any (·.1)=false:=by rfl):
  PE X (.Call (.Name x p) (e::es) [] pos) (xp sp dvs E t):=by
 intro pins s σ H Q I h;refine dD (zg I hg hm ?_ hdb);refine jX (h₀:=X.base) I.ok.mod.kin hk (thn (ha pos pins s σ H _ I h) λus s1 ⟨vs,H1,I1,r,q⟩=>⟨I1.kIn,?_⟩) he hpl;exact EU F hr hb hd hx I1 r q
theorem L7(F:su X.prog X.w X.K X.mg X.base CX k f fd ps sp)(hr:qa k X.A)(hg:Gl X x)(hm:X.mg x=some (.ref f))(hk:c7 X.K (.ref f)=true)(hb:Binds X.K fd ps ds)(hd:Vals dvs ds)(hx:Passes CX X E)
  (hdb:(x==("__debug__" : Str))=false:=by decide):PE X (.Call (.Name x p) [] [] pos) (xp sp dvs E FZ):=by
 intro pins s σ H Q I h;refine dD (zg I hg hm ?_ hdb);exact jM I.kIn hk (EU (us:=[]) F hr hb hd hx I .nil h)
structure Mk(K:aw)(C f:Addr):Prop where
 makes:kq K C=true
 init:cv K (.ref C) "__init__" = some (some (.ref f))
 fn:W.isFn K (.ref f)=true
 kp:c7 K (.ref C)=true
theorem L8{s:af}(M:Mk X.K C f)(F:su X.prog X.w X.K X.mg X.base CX k f fd ps sp)(hr:qa (k+1) X.A)(hb:Binds X.K fd ps ds)(hd:Vals dvs ds)
  (hx:Passes CX X E) (I:Inv X pins σ H s) (r:Vals vs us)
  (h:∀x dx,H x=none->H dx=none->dx≠x->sp (.ref x::(vs++dvs)) (upd (upd H dx (.own x)) x (.ins C dx [])) (λv H2=>v=.non/\Q (.ref x) H2) E):
  wpAny (model X.prog X.w) X.A (call (.ref C) us) (EP X pins σ Q) X.xe s:=by
 have hq:=h (s.heap.objs.size+1) s.heap.objs.size (I.hok.fresh (gf _)) (I.hok.fresh (aG _)) (aX (dE _));have I2:=Inv.made (C:=C) I;have r2:Vals (V.ref (s.heap.objs.size+1)::(vs++dvs)) (Value.ref (s.heap.objs.size+1)::(us++ds)):=.cons rfl (r.append hd);have hl:(Value.ref (s.heap.objs.size+1)::us++ds).length=ps.length:=by have e:=r2.length;rw[F.len _ _ _ _ hq]at e;exact e.symm
 refine ir (L1 (f:=f) I.kIn M.makes M.init (beq_iff_eq.mp M.fn) (fw (F.run _ X.stack _ _ ⟨Value.ref (s.heap.objs.size+1)::us,[]⟩ (Value.ref (s.heap.objs.size+1)::(us++ds)) _ _ E (hr.make C us [])
  (I2.env0.make C us []) (hb _ (Value.ref (s.heap.objs.size+1)::us) I2.kIn hl) r2 hq) λr s' hq'=>?_))
 cases r with
 |error e=>exact hx pins σ _ _ e s' I2 hq'
 |ok fl=>
  cases fl with
  |ret u=>obtain⟨v,H',I3,rv,ev,q3⟩:=I2.after hq';subst ev;exact⟨rv,⟨V.ref (s.heap.objs.size+1),H',I3,rfl,q3⟩⟩
  |next=>exact cB hq'
  |brk=>exact cB hq'
  |cont=>exact cB hq'
theorem OU(M:Mk X.K C f)(F:su X.prog X.w X.K X.mg X.base CX k f fd ps sp)(hr:qa (k+1) X.A)(hg:Gl X x)(hm:X.mg x=some (.ref C))(hb:Binds X.K fd ps ds)(hd:Vals dvs ds)(hx:Passes CX X E)
  (ha:PA X (e::es) t) (hdb:(x==("__debug__" : Str))=false:=by decide) (he:starEach (e::es) X.env=(false,eval e X.env)::starEach es X.env:=by rfl) (hpl:(backTo pos (starEach es X.env)).any (·.1)=false:=by rfl):
  PE X (.Call (.Name x p) (e::es) [] pos) (Rk C sp dvs E t):=by
 intro pins s σ H Q I h;refine dD (zg I hg hm ?_ hdb);refine jX (h₀:=X.base) I.ok.mod.kin M.kp (thn (ha pos pins s σ H _ I h) λus s1 ⟨vs,H1,I1,r,q⟩=>⟨I1.kIn,?_⟩) he hpl;exact L8 M F hr hb hd hx I1 r q
end
structure p5(N P:aB)(sc:cD):Prop where
 kind:sc.kind=.function
 co:sc.isCoroutine=false
 gen:sc.isGenerator=false
 nd:N.Nodup
 pre:N.take P.length=P
 par:∀x∈P,sc.names.lookup x=some .local\/sc.names.lookup x=some .cell
 nofree:∀y∈sc.names,y.2≠.free
theorem DW{kindOf:Str->Option c8}:∀{binds:List (Str×ae)} {m:Str->Option ae},(∀v,(x,v)∉binds)->bindL kindOf binds m x=m x
 |[],_,_=>rfl
 |(n,v)::r,m,h=>by
  unfold bindL;rw[DW λw hw=>h w (bh _ hw)];split
  ·have:x≠n:=by rintro rfl;exact h v ba
   simp[this]
  ·rfl
theorem DX{kindOf:Str->Option c8}:∀{binds:List (Str×ae)} {m:Str->Option ae},(∀v,(x,v)∉binds)->bindC kindOf binds m x=m x
 |[],_,_=>rfl
 |(n,v)::r,m,h=>by
  unfold bindC;rw[DX λw hw=>h w (bh _ hw)];split
  ·rfl
  ·have:x≠n:=by rintro rfl;exact h v ba
   simp[this]
theorem DY{kindOf:Str->Option c8}{v:ae}:∀{P:aB} {vs:List ae} {i:Nat} {m:Str->Option ae},P.Nodup->P[i]?=some x->vs[i]?=some v->kindOf x=some .local->
  bindL kindOf (P.zip vs) m x=some v
 |[],_,_,_,_,h,_,_=>by simp at h
 |_::_,[],_,_,_,_,h,_=>by simp at h
 |p::P,w::vs,0,m,nd,h1,h2,hk=>by simp at h1 h2;subst h1;subst h2;show bindL kindOf ((p,w)::P.zip vs) m p=_;unfold bindL;rw[DW λv hv=>(cg.mp nd).1 (ib hv).1,ai hk];simp
 |p::P,w::vs,i+1,m,nd,h1,h2,hk=>by show bindL kindOf ((p,w)::P.zip vs) m x=_;unfold bindL;exact DY (i:=i) (cg.mp nd).2 (by simpa using h1) (by simpa using h2) hk
theorem DZ{kindOf:Str->Option c8}{v:ae}:∀{P:aB} {vs:List ae} {i:Nat} {m:Str->Option ae},P.Nodup->P[i]?=some x->vs[i]?=some v->kindOf x≠some .local->
  bindC kindOf (P.zip vs) m x=some v
 |[],_,_,_,_,h,_,_=>by simp at h
 |_::_,[],_,_,_,_,h,_=>by simp at h
 |p::P,w::vs,0,m,nd,h1,h2,hk=>by simp at h1 h2;subst h1;subst h2;show bindC kindOf ((p,w)::P.zip vs) m p=_;unfold bindC;rw[DX λv hv=>(cg.mp nd).1 (ib hv).1,aj hk];simp
 |p::P,w::vs,i+1,m,nd,h1,h2,hk=>by show bindC kindOf ((p,w)::P.zip vs) m x=_;unfold bindC;exact DZ (i:=i) (cg.mp nd).2 (by simpa using h1) (by simpa using h2) hk
def start(N:aB)(vs:bA):St:=vs.map some++dJ (N.length - vs.length) none
def F0(CX:CXT)(P:aS)(w:aI)(K:aw)(mg:Str->Option ae)(base:Heap)(N:aB)(qual:Str)(scope:cD)(f:Addr)(cd:ae)(A:aQ)(outer:List Env)(s:af)(H:Hp)(E:XK):Cx where
 prog:=P
 w:=w
 K:=K
 mg:=mg
 base:=base
 A:=A.deeper (envOfC qual scope s.heap.objs.size f cd)
 N:=N
 s₀:=s
 H₀:=H
 env:=envOfC qual scope s.heap.objs.size f cd
 outer:=outer
 stack:=envOfC qual scope s.heap.objs.size f cd::outer
 ex:=[]
 calm:=true
 fn:=λ_=>true
 pn:=[]
 xe:=λe s'=>wpAny (model P w) (A.deeper (envOfC qual scope s.heap.objs.size f cd)) (leaving (envOfC qual scope s.heap.objs.size f cd) e) (λ_ s''=>CX outer H s E e s'') (λe' s''=>CX outer H s E e' s'') s'
theorem F1{sc:cD}{n:Nat}(h:sc.names.lookup x=some .cell):∃c,(cellsFrom n sc.names []).lookup x=some c:=by have q:=mm sc.names n [] (.inl h);exact Option.isSome_iff_exists.mp q
theorem KC{K:aw}{A:aQ}{s:af}{vs:bA}
  (S:p5 N ps scope) (hd:A.handled=none) (e0:HS P w K mg base A outer s H) (hl:vs.length=ps.length) (r:Vals vs us)
  (x:InCallC s s.heap.objs.size (bindL (envOfC qual scope s.heap.objs.size f cd).kindOf (ps.zip us) λ_=>none) (cellsFrom (s.heap.objs.size+1) scope.names []) (bindC (envOfC qual scope s.heap.objs.size f cd).kindOf (ps.zip us) λ_=>none) s1):
  Inv (F0 CX P w K mg base N qual scope f cd A outer s H E) [] (start N vs) H s1:=by
 have hpl:ps.length<=N.length:=by have:=aR bT S.pre;rw[br]at this;omega
 obtain⟨h1,tk,rfl,hk⟩:=x.done;have noA:∀b:Addr,b∉(F0 CX P w K mg base N qual scope f cd A outer s H E).ex:=λb z=>ao (show b∈([]:List Addr) from z) (by simp);refine⟨⟨e0.mod,S.kind,rfl,rfl,aG _,λy z c h1 h2=>?_,λy hy=>?_,λy c _ h=>?_,λ_=>hd,Around.frames_deeper e0.frames,.inr ⟨rfl,rfl⟩,λb z=>ao z (noA b),e0.bs,e0.bsz,λb _ _=>noA b,λb z=>ao z (noA b),e0.funs,e0.frf⟩,
  rfl,e0.bare,Un.kept hk,⟨_,x.toInCall.ns,λi y v h1 h2 h3=>?_⟩,λy c h=>⟨_,x.cell y c h⟩,e0.hok.fresh (aG _),λy c h=>?_,λp hp=>ao (show p∈([]:cy) from hp) (by simp),e0.hok.kept hk,?_⟩
 ·exact name_of_addr x.apart (fR h1) (fR h2)
 ·have hy:scope.names.lookup y=some .cell\/scope.names.lookup y=some .free:=hy;rcases hy with hy|hy
  ·exact F1 hy
  ·exact ao rfl (S.nofree _ (fR hy))
 ·exact fm (x.above y c (fR h))
 ·have hi:i<vs.length:=by
   unfold start at h2;by_cases hi:i<vs.length
   ·exact hi
   ·rw[cz (by simpa using hi)]at h2;rw[eV]at h2;split at h2<;>cases h2
  have ha:vs[i]?=some v:=by
   unfold start at h2;rw[cF (by simpa using hi),bj]at h2;cases e:vs[i]? with
   |none=>rw[e]at h2;cases h2
   |some a=>rw[e]at h2;cases h2;rfl
  obtain⟨u,hu,rv⟩:=r.get ha;have hp:ps[i]?=some y:=by rw[<-S.pre,List.getElem?_take_of_lt (by omega)];exact h1
  have ndP:ps.Nodup:=by rw[<-S.pre];exact S.nd.sublist (hE _ _)
  refine⟨u,rv,?_⟩;rcases S.par y (cA hp)with k|k
  ·exact .inl ⟨k,DY ndP hp hu k⟩
  ·obtain⟨c,e⟩:=F1 (n:=s.heap.objs.size+1) k;refine .inr ⟨.inl k,c,e,?_⟩;have q:=x.cell y c e;rw[DZ ndP hp hu (by show scope.names.lookup y≠_;rw[k];decide)]at q;exact q
 ·exact e0.hok.fresh (fm (x.above y c (fR h)))
 ·unfold start;show _=N.length;rw[aA,ah,cb];omega
theorem Rl{K:aw}{k:Nat}{kV:ae}
 (lk:K.lookup f=some ⟨oc,od,.func (dq name qual params body scope dV kV doc pm an cdv ct),osl⟩) (hcd:fz K cdv qual=true) (S:p5 N ps scope)
  (len:∀vs H Q E,sp vs H Q E->vs.length=ps.length)
  (hbody:∀(A:aQ) (outer:List Env) (s:af) (H:Hp) (vs:bA) (Q:VK) (E:XK),qa k (A.deeper (envOfC qual scope s.heap.objs.size f cdv))->sp vs H Q E->
   ∃t,PSs (F0 CX P w K mg base N qual scope f cdv A outer s H E) body t/\t { nx:=λ_ H'=>Q .non H',rt:=Q } (start N vs) H):
  su P w K mg base CX (k+1) f (dq name qual params body scope dV kV doc pm an cdv ct) ps sp:=by
 refine⟨len,λA outer s H args us vs Q E hr e0 hb r hsp=>?_⟩;have hl:=len _ _ _ _ hsp;have KX:K.In s.heap:=e0.mod.kin.keeps λb o e=>(e0.bs b o e).1;have lim:s.heap.NoLimit:=e0.mod.nolimit.keeps λb o e=>(e0.bs b o e).1;have hkind:∀y∈ps.zip us,scope.names.lookup y.1=some .local\/(scope.names.lookup y.1=some .cell/\((cellsFrom (s.heap.objs.size+1) scope.names []).lookup y.1).isSome=true):=λ⟨n,v⟩ hy=>by
  rcases S.par n (ib hy).1 with q|q
  ·exact .inl q
  ·exact .inr ⟨q,mm _ _ _ (.inl q)⟩
 refine codeAny_call_function hr.depth (KX _ _ lk) rfl S.co S.gen rfl (W.codeRec_of KX hcd) (hb _ _ _ _ ?_);refine wpAny_newFunctionEnv_cells S.kind hkind λenv he s1 x=>?_;subst he;refine⟨lim.keeps x.toInCall.keep,codeAny_func ?_⟩;obtain⟨t,ht,hq⟩:=hbody A outer s H vs Q E (hr.deeper _) hsp;have I:Inv (F0 CX P w K mg base N qual scope f cdv A outer s H E) [] (start N vs) H s1:=KC S hr.hd e0 hl r x;refine bU (ht [] s1 (start N vs) H _ I hq) (λfl s' hs=>?_) λe s' hs=>hs;have fin:∀{σ':St} {H':Hp} {v:V} {u:ae},Inv (F0 CX P w K mg base N qual scope f cdv A outer s H E) [] σ' H' s'->RelV v u->Q v H'->CE outer P w H s Q u s':=
  λ{σ' H' v u} J rv q=>⟨v,H',J.os,J.bare,J.base,J.hok,rv,q⟩
 cases fl with
 |ret u=>obtain⟨v,σ',H',J,rv,q⟩:=hs;exact fin J rv q
 |next=>obtain⟨σ',H',J,q⟩:=hs;exact fin (v:=V.non) (u:=Value.none) J rfl q
 |brk=>obtain⟨_,_,_,q⟩:=hs;exact cB q
 |cont=>obtain⟨_,_,_,q⟩:=hs;exact cB q
section
variable{X:Cx}{x:Str}{p pos:Pos}{e:Expr}{es:List Expr}{t:TA}{id T:String}{r:bA->Hp->VK->Prop}
def tCB(r:bA->Hp->VK->Prop)(t:TA):TE:=λσ H Q=>t σ H λvs H1=>r vs H1 Q
theorem B3(hc:qr X (.builtin id) r)(hg:Gl X x)(hm:X.mg x=none)(hv:bootBuiltins x=some (.builtin id))(ha:PA X (e::es) t)(hn:x≠"__name__" := by decide)(hdb:(x==("__debug__" : Str))=false:=by decide)
  (he:starEach (e::es) X.env=(false,eval e X.env)::starEach es X.env:=by rfl) (hpl:(backTo pos (starEach es X.env)).any (·.1)=false:=by rfl):PE X (.Call (.Name x p) (e::es) [] pos) (tCB r t):=by
 intro pins s σ H Q I h;refine dD (yR I hg hm hv ?_ hn hdb);exact callWith_builtin1 (thn (ha pos pins s σ H _ I h) λus s1 ⟨vs,H1,I1,r1,q1⟩=>hc pins s1 σ H1 vs us Q I1 r1 q1) he hpl
theorem KD(hc:qr X (.type T) r)(hg:Gl X x)(hm:X.mg x=none)(hv:bootBuiltins x=some (.type T))(ha:PA X (e::es) t)(hn:x≠"__name__" := by decide)(hdb:(x==("__debug__" : Str))=false:=by decide)
  (he:starEach (e::es) X.env=(false,eval e X.env)::starEach es X.env:=by rfl) (hpl:(backTo pos (starEach es X.env)).any (·.1)=false:=by rfl):PE X (.Call (.Name x p) (e::es) [] pos) (tCB r t):=by
 intro pins s σ H Q I h;refine dD (yR I hg hm hv ?_ hn hdb);exact callWith_type1 (thn (ha pos pins s σ H _ I h) λus s1 ⟨vs,H1,I1,r1,q1⟩=>hc pins s1 σ H1 vs us Q I1 r1 q1) he hpl
end
end L2
namespace HT
open PySem PyProof.Rows
section
variable{prog:aS}{w:aI}{A:aQ}{E:ae->af->Prop}{s:af}
theorem OV{t:Addr}{vs ws:List ae}(ht:dQ s.heap t vs.toArray)(hb:dQ s.heap b ws.toArray)(hv:vs≠[])
  (h1:ws=[]->Q (.ref t) s) (h2:ws≠[]->Q (.ref s.heap.objs.size) { s with heap:=s.heap.push { cls:=.type "tuple", data:=.seq (vs++ws).toArray } })
  (hsz:vs.length+ws.length<=sizeLine):wpAny (model prog w) A (binaryOp .Add (.ref t) (.ref b)) Q E s:=by
 obtain⟨⟨cls,dd,data,sl⟩,ho,hc,n,hd⟩:=id ht;obtain⟨⟨cls2,dd2,data2,sl2⟩,ho2,hc2,n2,hd2⟩:=id hb;simp only at hc hd hc2 hd2;subst hc hd hc2 hd2;have e:vs.toArray++ws.toArray=(vs++ws).toArray:=by simp
 by_cases hw:ws=[]
 ·exact concat_meets ⟨_,ho,rfl⟩ ⟨_,ho2,rfl⟩ noFill_tuple_add seq_tuple_add mq l8 (lW _ _)
   (tuple_addW1 t b vs.toArray ws.toArray n n2 dd dd2 sl sl2 (by simpa using hv) (by simp[hw])) ⟨ho,ho2,h1 hw⟩
 ·refine concat_meets ⟨_,ho,rfl⟩ ⟨_,ho2,rfl⟩ noFill_tuple_add seq_tuple_add mq l8 (lW _ _)
   (tuple_addW2 t b vs.toArray ws.toArray n n2 dd dd2 sl sl2 (by simpa using hv) (by simpa using hw) (by rw[bf,bf];exact hsz)) ⟨ho,ho2,?_⟩
  rw[e];exact h2 hw
def sIx(n d:Nat):Option Int->Nat
 |none=>d
 |some v=>if v<0 then (v+(n:Int)).toNat else min v.toNat n
theorem F2(n d:Nat):sIx n d none=d:=rfl
theorem BM(n d k:Nat):sIx n d (some (k:Int))=min k n:=by show (if (k:Int)<0 then ((k:Int)+(n:Int)).toNat else min (k:Int).toNat n)=min k n;rw[aj (by omega),hG]
end
end HT
namespace L2
open PySem PySem.Spec PyProof.Rows
abbrev TO:=St->Hp->(Option Int->Hp->Prop)->Prop
def PO(X:Cx)(e:Option Expr)(t:TO):Prop:=
 ∀(pins:cy) (s:af) (σ:St) (H:Hp) (Q:Option Int->Hp->Prop),Inv X pins σ H s->t σ H Q->
  wpAny (model X.prog X.w) X.A (evalPart e X.env) (λu s'=>∃o H',Inv X pins σ H' s'/\IsPart u o/\Q o H') X.xe s
def OW:TO:=λ_ H Q=>Q none H
def Wo(t:TE):TO:=λσ H Q=>t σ H λx H1=>∃i,x=.int i/\Q (some i) H1
section
variable{X:Cx}{e:Expr}{te:TE}{lo hi:Option Expr}{tl th:TO}{pos p2:Pos}
theorem Jt:PO X none OW:=by intro pins s σ H Q I h;rw[evalPart_none];exact aD ⟨none,H,I,.none,h⟩
theorem Ju(h:PE X e te):PO X (some e) (Wo te):=by intro pins s σ H Q I hw;rw[evalPart_some];refine thn (h pins s σ H _ I hw) λu s1 zz=>?_;obtain⟨x,H1,I1,r1,q1⟩:=zz;obtain⟨i,rfl,q⟩:=q1;obtain⟨t,rfl⟩:=r1;exact⟨some i,H1,I1,.int i t,q⟩
def SlR(X:Cx)(r:V->Option Int->Option Int->Hp->VK->Prop):Prop:=
 ∀(pins:cy) (s:af) (σ:St) (H:Hp) (x:V) (v vl vu:ae) (lo hi:Option Int) (sl:Addr) (Q:VK),Inv X pins σ H s->RelV x v->s.heap.IsSliceOf sl vl vu .none->IsPart vl lo->IsPart vu hi->r x lo hi H Q->
  ∃T id,typeLookup (.type T) "__getitem__" = pure (some (.builtin id))/\s.TypeIs v T/\wpAny (model X.prog X.w) X.A (getItem v (.ref sl)) (EP X pins σ Q) X.xe s
def tSl(r:V->Option Int->Option Int->Hp->VK->Prop)(te:TE)(tl th:TO):TE:=λσ H Q=>te σ H λx H1=>tl σ H1 λl H2=>th σ H2 λu H3=>r x l u H3 Q
theorem F3(hr:SlR X r)(he:PE X e te)(hl:PO X lo tl)(hu:PO X hi th):PE X (.Subscript e (.Slice lo hi none p2) pos) (tSl r te tl th):=by intro pins s σ H Q I h;refine kg (thn (he pins s σ H _ I h) λv s1 zz=>?_);obtain⟨x,H1,I1,r1,q1⟩:=zz;refine wpAny_Slice (thn (hl pins s1 σ H1 _ I1 q1) λvl s2 ⟨l,H2,I2,pl,q2⟩=>thn (hu pins s2 σ H2 _ I2 q2) λvu s3 zz=>?_);obtain⟨u,H3,I3,pu,q3⟩:=zz;rw[evalPart_none];refine aD ?_;have I4:Inv X pins σ H3 { s3 with heap:=s3.heap.push { cls:=.type "slice", data:=.fields #[vl,vu,.none] } }:=I3.kept (t':=s3.toks) λb ob q=>aK _ q;obtain⟨T,id,hT,ht,hg⟩:=hr pins { s3 with heap:=s3.heap.push { cls:=.type "slice", data:=.fields #[vl,vu,.none] } } σ H3 x v vl vu l u s3.heap.objs.size Q I4 r1 (nU ..) pl pu q3;show wpAny (model X.prog X.w) X.A (subscriptTail e (.Slice lo hi none p2) v (.ref s3.heap.objs.size)) (EP X pins σ Q) X.xe { s3 with heap:=s3.heap.push { cls:=.type "slice", data:=.fields #[vl,vu,.none] } };exact tail_any (ops:=[.ref s3.heap.objs.size,v]) ht hT hg (by with_unfolding_all rfl)
def KE(xs:bA)(lo hi:Option Int):bA:=(xs.drop (HT.sIx xs.length 0 lo)).take (HT.sIx xs.length xs.length hi - HT.sIx xs.length 0 lo)
theorem F4(xs:bA)(lo hi:Option Int):(KE xs lo hi).length<=xs.length:=by unfold KE;rw[br,cc];omega
def Wp(K:aw):R2:=λx y H Q=>∃a b xs ys,x=.ref a/\y=.ref b/\SqT K H a xs/\SqT K H b ys/\xs≠[]/\xs.length+ys.length<=sizeLine/\
 (ys=[]->Q (.ref a) H)/\(ys≠[]->∀p,H p=none->Q (.ref p) (upd H p (.tup (xs++ys))))
theorem Vals.nil_iff(r:Vals xs us):us=[] ↔ xs=[]:=by
 cases r with
 |nil=>simp
 |cons _ _=>simp
theorem OX:OpR X (binaryOp .Add) (Wp X.K):=by intro pins s σ H x y v u Q I rx ry h;obtain⟨a,b,xs,ys,rfl,rfl,ha,hb,hx,hz,q1,q2⟩:=h;cases rx;cases ry;obtain⟨its,r1,p1,_⟩:=I.tuple ha;obtain⟨its2,r2,p2,_⟩:=I.tuple hb;refine HT.OV p1 p2 (λz=>hx (r1.nil_iff.mp z)) (λz=>⟨.ref a,H,I,rfl,q1 (r2.nil_iff.mp z)⟩) (λz=>?_) (by rw[<-r1.length,<- r2.length];exact hz);refine⟨.ref s.heap.objs.size,_,I.laid (t':=s.toks) (o:=.tup (xs++ys)) (λb ob q=>aK _ q) (aG _) ?_,rfl,q2 (λw=>z (r2.nil_iff.mpr w)) _ (I.hok.fresh (aG _))⟩;exact⟨by rw[aA];exact hz,_,r1.append r2,IsTup.new _ _⟩
end
def ixN(n:Nat)(i:Int):Option Nat:=if 0<=i then (if i<n then some i.toNat else none)else if -(n:Int)<=i then some (i+n).toNat else none
def atI{α:Type}(xs:List α)(i:Int):Option α:=(ixN xs.length i).bind λj=>xs[j]?
theorem OY{n:Nat}(h:ixN n i=some j):seqIndex? i n=some j/\j<n/\-(n:Int)<=i/\i<n:=by
 unfold ixN at h;by_cases h0:0<=i
 ·rw[ai h0]at h;by_cases h1:i<n
  ·rw[ai h1]at h;have e:i.toNat=j:=cf h;exact⟨by rw[j7 h0 h1,e],by omega,by omega,h1⟩
  ·rw[aj h1]at h;cases h
 ·rw[aj h0]at h;by_cases h1:-(n:Int)<=i
  ·rw[ai h1]at h;have e:(i+n).toNat=j:=cf h;exact⟨by rw[seqIndex_neg (by omega) h1,e],by omega,h1,by omega⟩
  ·rw[aj h1]at h;cases h
theorem EV{α:Type}{xs:List α}{i:Int}{v:α}(h:atI xs i=some v):∃j,seqIndex? i xs.length=some j/\xs[j]?=some v/\j<xs.length/\-(xs.length:Int)<=i/\i<xs.length:=by
 unfold atI at h;cases e:ixN xs.length i with
 |none=>rw[e]at h;cases h
 |some j=>rw[e]at h;obtain⟨h1,h2,h3,h4⟩:=OY e;exact⟨j,h1,h,h2,h3,h4⟩
theorem Jv{α:Type}{xs:List α}{j:Nat}{v:α}(h:xs[j]?=some v):atI xs (j:Int)=some v:=by
 have hj:j<xs.length:=(bQ.mp h).1;have e:ixN xs.length (j:Int)=some j:=by unfold ixN;rw[ai (by omega),ai (by omega)];simp
 unfold atI;rw[e];exact h
def Jw(b:Expr):Prop:=∀o i,subscripted b false o i=operate [o,i] (getItem o i)
def IxR(X:Cx)(r:R2):Prop:=
 ∀(value slice:Expr) (pins:cy) (s:af) (σ:St) (H:Hp) (x y:V) (v u:ae) (Q:VK),Inv X pins σ H s->RelV x v->RelV y u->r x y H Q->
  subscripted slice false v u=operate [v,u] (getItem v u)->wpAny (model X.prog X.w) X.A (subscriptTail value slice v u) (EP X pins σ Q) X.xe s
def MtR(X:Cx)(id:String)(r:V->bA->Hp->VK->Prop):Prop:=
 ∀(pins:cy) (s:af) (σ:St) (H:Hp) (x:V) (xs:bA) (v:ae) (us:List ae) (Q:VK),Inv X pins σ H s->RelV x v->Vals xs us->r x xs H Q->
  wpAny (model X.prog X.w) X.A (call (.builtin id) (v::us)) (EP X pins σ Q) X.xe s
section
variable{X:Cx}{a b:Expr}{ta tb:TE}{pos:Pos}
theorem IxR.or(h:IxR X r)(h':IxR X r'):IxR X (λx y H Q=>r x y H Q\/r' x y H Q):=by
 intro value slice pins s σ H x y v u Q I rx ry q hs;rcases q with q|q
 ·exact h value slice pins s σ H x y v u Q I rx ry q hs
 ·exact h' value slice pins s σ H x y v u Q I rx ry q hs
theorem Rm(hr:IxR X r)(ha:PE X a ta)(hb:PE X b tb)(hs:Jw b):PE X (.Subscript a b pos) (tOp r ta tb):=by intro pins s σ H Q I h;exact kg (Sf ha hb I h λv u s2 x y H2 I2 rx ry q=>hr a b pins s2 σ H2 x y v u Q I2 rx ry q (hs _ _))
def OZ(K:aw):R2:=λx y H Q=>∃p xs i v,x=.ref p/\y=.int i/\SqL K H p xs/\atI xs i=some v/\Q v H
def Wq(K:aw):R2:=λx y H Q=>∃p xs i v,x=.ref p/\y=.int i/\SqT K H p xs/\atI xs i=some v/\Q v H
def Wr:R2:=λx y H Q=>∃z i c,x=.str z/\y=.int i/\z.length<=sizeLine/\atI z.cps.toList i=some c/\Q (.str ⟨#[c]⟩) H
theorem Jx:IxR X (OZ X.K):=by
 intro value slice pins s σ H x y v u Q I rx ry h hs;obtain⟨p,xs,i,z,rfl,rfl,hq,he,q⟩:=h;cases rx;obtain⟨t,rfl⟩:=ry;obtain⟨its,r,pl,hz⟩:=I.list hq;obtain⟨j,h1,h2,h3,h4,h5⟩:=EV he;obtain⟨w,ew,rw'⟩:=r.get h2;have hl:=r.length;have hn:=BY;have fin:EP X pins σ Q w s:=⟨z,H,I,rw',q⟩;by_cases h0:0<=i
 ·have hj:i.toNat=j:=by rw[j7 h0 h5]at h1;exact cf h1
  exact item_listR pl.isList h0 (by omega) (by rw[hj];simpa using ew) fin hs
 ·have hj:(i+(its.toArray.size:Int)).toNat=j:=by rw[seqIndex_neg (by omega) h4]at h1;rw[bf,<- hl];exact cf h1
  exact lp (x:=w) pl.isList.typeIs l9.lookup
   (wpAny_getItem_list_neg (Q:=λr s'=>r=w/\EP X pins σ Q r s') pl.isList (by omega) (by rw[bf]<;>omega) (by omega) (by rw[hj];simpa using ew) ⟨rfl,fin⟩) hs
theorem Ss:IxR X (Wq X.K):=by
 intro value slice pins s σ H x y v u Q I rx ry h hs;obtain⟨p,xs,i,z,rfl,rfl,hq,he,q⟩:=h;cases rx;obtain⟨t,rfl⟩:=ry;obtain⟨its,r,pl,hz⟩:=I.tuple hq;obtain⟨j,h1,h2,h3,h4,h5⟩:=EV he;obtain⟨w,ew,rw'⟩:=r.get h2;have hl:=r.length;have hn:=BY;have fin:EP X pins σ Q w s:=⟨z,H,I,rw',q⟩;exact lp (x:=w) pl.typeIs slot_tuple_getitem.lookup
  (getItem_tuple (j:=j) (Q:=λr s'=>r=w/\EP X pins σ Q r s') pl (by omega) (by omega) (by rw[bf,<- hl];exact h1) (by simpa using ew) ⟨rfl,fin⟩) hs
theorem Su:IxR X Wr:=by
 intro value slice pins s σ H x y v u Q I rx ry h hs;obtain⟨z,i,c,rfl,rfl,hz,he,q⟩:=h;obtain⟨t,rfl⟩:=rx;obtain⟨t',rfl⟩:=ry;obtain⟨j,h1,h2,h3,h4,h5⟩:=EV he;have hl:z.cps.toList.length=z.length:=by simp[Str.length]
 rw[hl]at h1 h4 h5;have hn:=BY;exact tail_any (typeIs_str s z t) slot_str_getitem.lookup (getItem_str (c:=c) (by
  have e1:decide (i < -(2 ^ 63:Int))=false:=aH (by omega);have e2:decide (i >= 2 ^ 63)=false:=aH (by omega);rw[e1,e2,mQ]) (by rw[h1];simpa using h2) ⟨.str ⟨#[c]⟩,H,I.tok _,⟨_,rfl⟩,q⟩) hs
def rIx(K:aw):R2:=λx y H Q=>OZ K x y H Q\/Wq K x y H Q\/Wr x y H Q
theorem Sv:IxR X (rIx X.K):=Jx.or (Ss.or Su)
theorem EW(lo hi:Option Int)(n:Nat):(sliceBounds lo hi none n).1=((HT.sIx n 0 lo:Nat):Int)/\(sliceBounds lo hi none n).2.1=((HT.sIx n n hi:Nat):Int)/\(sliceBounds lo hi none n).2.2=1:=by
 refine⟨?_,?_,rfl⟩
 ·cases lo with
  |none=>simp[sliceBounds,HT.sIx]
  |some i=>
   simp only[sliceBounds,HT.sIx,mr,show (1:Int) > 0 by decide,if_true];by_cases h:i<0
   ·simp only[h,if_true]<;>omega
   ·simp only[h,if_false]<;>omega
 ·cases hi with
  |none=>simp[sliceBounds,HT.sIx]
  |some i=>
   simp only[sliceBounds,HT.sIx,mr,show (1:Int) > 0 by decide,if_true];by_cases h:i<0
   ·simp only[h,if_true]<;>omega
   ·simp only[h,if_false]<;>omega
theorem DI(its:List ae)(lo hi:Option Int):slicePick its.toArray lo hi none=((its.drop (HT.sIx its.length 0 lo)).take (HT.sIx its.length its.length hi - HT.sIx its.length 0 lo)).toArray:=by obtain⟨h1,h2,h3⟩:=EW lo hi its.toArray.size;unfold slicePick;rw[h1,h2,h3];simp only[sliceRange_one,pick_run,bf]<;>rfl
def KF(K:aw):V->Option Int->Option Int->Hp->VK->Prop:=λx lo hi H Q=>∃a xs,x=.ref a/\SqL K H a xs/\∀p,H p=none->Q (.ref p) (upd H p (.lst (KE xs lo hi)))
theorem O0:SlR X (KF X.K):=by intro pins s σ H x v vl vu lo hi sl Q I rx hs pl pu h;obtain⟨a,xs,rfl,hx,q⟩:=h;cases rx;obtain⟨its,r,ht,hz⟩:=I.list hx;have hlen:=r.length;refine⟨"list", _,l9.lookup,ht.isList.typeIs,?_⟩;refine wpAny_getItem_list_slice ht.isList hs pl pu .none (by simp) ?_ (by rw[bf]<;>omega);rw[DI,<- hlen];refine⟨.ref s.heap.objs.size,_,I.laid (t':=s.toks) (o:=.lst (KE xs lo hi)) (λb ob q=>aK _ q) (aG _) ?_,rfl,q _ (I.hok.fresh (aG _))⟩;exact⟨bL (F4 xs lo hi) hz,_,0,(r.drop (HT.sIx xs.length 0 lo)).take (HT.sIx xs.length xs.length hi - HT.sIx xs.length 0 lo),bu _ rfl⟩
def yB:V->Bool
 |.non=>true
 |.bl _=>true
 |.int _=>true
 |.str _=>true
 |_=>false
def eqV:V->V->Bool
 |.non,.non=>true
 |.bl a,.bl b=>a==b
 |.bl a,.int b=>(if a then 1 else 0)==b
 |.int a,.bl b=>a==(if b then 1 else 0)
 |.int a,.int b=>a==b
 |.str a,.str b=>a==b
 |_,_=>false
theorem B4{s:af}{v:ae}(ry:RelV y u)(rx:RelV x v)(fy:yB y=true)(fx:yB x=true):iu A s u v (eqV y x):=by
 cases y with
 |non=>
  cases ry;cases x with
  |non=>cases rx;exact f6 _
  |bl b=>cases rx;exact SeqAt.EqAt.none_bool b
  |int b=>obtain⟨t,rfl⟩:=rx;exact SeqAt.EqAt.none_int b t
  |str b=>obtain⟨t,rfl⟩:=rx;exact SeqAt.EqAt.none_str b t
  |_=>exact ao (show false=true from fx) bp
 |bl a=>
  cases ry;cases x with
  |non=>cases rx;exact SeqAt.EqAt.bool_none a
  |bl b=>cases rx;exact SeqAt.EqAt.bool_bool a b
  |int b=>obtain⟨t,rfl⟩:=rx;exact SeqAt.EqAt.bool_int a b t
  |str b=>obtain⟨t,rfl⟩:=rx;exact SeqAt.EqAt.bool_str a b t
  |_=>exact ao (show false=true from fx) bp
 |int a=>
  obtain⟨t',rfl⟩:=ry;cases x with
  |non=>cases rx;exact SeqAt.EqAt.int_none a t'
  |bl b=>cases rx;exact SeqAt.EqAt.int_bool a t' b
  |int b=>obtain⟨t,rfl⟩:=rx;exact SeqAt.EqAt.int_int a t' b t
  |str b=>obtain⟨t,rfl⟩:=rx;exact lT a t' b t
  |_=>exact ao (show false=true from fx) bp
 |str a=>
  obtain⟨t',rfl⟩:=ry;cases x with
  |non=>cases rx;exact SeqAt.EqAt.str_none a t'
  |bl b=>cases rx;exact SeqAt.EqAt.str_bool a t' b
  |int b=>obtain⟨t,rfl⟩:=rx;exact lU a t' b t
  |str b=>obtain⟨t,rfl⟩:=rx;exact lX a t' b t
  |_=>exact ao (show false=true from fx) bp
 |_=>exact ao (show false=true from fy) bp
def eqU(x:V)(u:ae):Bool:=match u with
 |.none=>eqV .non x
 |.bool b=>eqV (.bl b) x
 |.int i _=>eqV (.int i) x
 |.str z _=>eqV (.str z) x
 |_=>false
theorem L9(r:RelV y u)(f:yB y=true):eqU x u=eqV y x:=by
 cases y with
 |non=>cases r;rfl
 |bl b=>cases r;rfl
 |int i=>obtain⟨t,rfl⟩:=r;rfl
 |str z=>obtain⟨t,rfl⟩:=r;rfl
 |_=>exact ao (show false=true from f) bp
theorem zi:∀{xs:bA} {us:List ae},Vals xs us->xs.all yB=true->us.any (eqU x)=xs.any λy=>eqV y x
 |_,_,.nil,_=>rfl
 |y::xs,u::us,.cons r t,f=>by rw[eZ,bo]at f;rw[eF,eF,L9 r f.1,zi t f.2]
theorem xq{s:af}{v:ae}(rx:RelV x v)(fx:yB x=true):∀{xs:bA} {us:List ae},Vals xs us->xs.all yB=true->∀u∈us,iu A s u v (eqU x u)
 |_,_,.nil,_=>λu hu=>by cases hu
 |y::xs,u::us,.cons r t,f=>λu' hu=>by
  rw[eZ,bo]at f;rcases aM.mp hu with rfl|hu
  ·rw[L9 r f.1];exact B4 r rx f.1 fx
  ·exact xq rx fx t f.2 u' hu
def inV(x:V)(xs:bA):Bool:=xs.any λy=>eqV y x
def rIn(K:aw)(neg:Bool):R2:=λx y H Q=>∃p xs,y=.ref p/\(SqL K H p xs\/SqT K H p xs)/\yB x=true/\xs.all yB=true/\Q (.bl (if neg then !inV x xs else inV x xs)) H
theorem KG:OpR X (compareOp .In) (rIn X.K false):=by
 intro pins s σ H x y v u Q I rx ry h;obtain⟨p,xs,rfl,hq,fx,fs,q⟩:=h;cases ry;rcases hq with hq|hq
 ·obtain⟨its,r,pl,hz⟩:=I.list hq;refine SeqAt.in_listAt (eqU x) pl.isList (λw hw=>xq rx fx r fs w (by simpa using hw)) ⟨.bl _,H,I,rfl,?_⟩;rw[show its.toArray.any (eqU x)=its.any (eqU x) by simp,zi r fs];exact q
 ·obtain⟨its,r,pl,hz⟩:=I.tuple hq;refine SeqAt.in_tupleAt (eqU x) pl (λw hw=>xq rx fx r fs w (by simpa using hw)) ⟨.bl _,H,I,rfl,?_⟩;rw[show its.toArray.any (eqU x)=its.any (eqU x) by simp,zi r fs];exact q
theorem EX:OpR X (compareOp .NotIn) (rIn X.K true):=by
 intro pins s σ H x y v u Q I rx ry h;obtain⟨p,xs,rfl,hq,fx,fs,q⟩:=h;cases ry;rcases hq with hq|hq
 ·obtain⟨its,r,pl,hz⟩:=I.list hq;refine SeqAt.notIn_listAt (eqU x) pl.isList (λw hw=>xq rx fx r fs w (by simpa using hw)) ⟨.bl _,H,I,rfl,?_⟩;rw[show its.toArray.any (eqU x)=its.any (eqU x) by simp,zi r fs];exact q
 ·obtain⟨its,r,pl,hz⟩:=I.tuple hq;refine SeqAt.notIn_tupleAt (eqU x) pl (λw hw=>xq rx fx r fs w (by simpa using hw)) ⟨.bl _,H,I,rfl,?_⟩;rw[show its.toArray.any (eqU x)=its.any (eqU x) by simp,zi r fs];exact q
theorem EY:qr X (.builtin "len") (λxs H Q=>∃p ys,xs=[.ref p]/\(SqL X.K H p ys\/SqT X.K H p ys)/\Q (.int ys.length) H):=by
 intro pins s σ H xs us Q I r h;obtain⟨p,ys,rfl,hq,q⟩:=h;obtain⟨u,rfl,rx⟩:=vals1 r;cases rx;have hn:=BY;rcases hq with hq|hq
 ·obtain⟨its,r',pl,hz⟩:=I.list hq;have hlen:=r'.length;exact Calls.call_len_list pl.isList (by simp only[bf]<;>omega) ⟨.int ys.length,H,I.tok _,⟨s.toks+1,by rw[bf,hlen]⟩,q⟩
 ·obtain⟨its,r',pl,hz⟩:=I.tuple hq;have hlen:=r'.length;exact len_tuple pl (by simp only[bf]<;>omega) ⟨.int ys.length,H,I.tok _,⟨s.toks+1,by rw[bf,hlen]⟩,q⟩
theorem EZ:qr X (.builtin "len") (λxs H Q=>∃z,xs=[.str z]/\z.length<=sizeLine/\Q (.int z.length) H):=by intro pins s σ H xs us Q I r h;obtain⟨z,rfl,hz,q⟩:=h;obtain⟨u,rfl,t,rfl⟩:=vals1 r;have hn:=BY;exact len_str (by omega) ⟨.int z.length,H,I.tok _,⟨_,rfl⟩,q⟩
theorem E1:qr X (.type "list") (λxs H Q=>∃p ys,xs=[.ref p]/\(SqL X.K H p ys\/SqT X.K H p ys)/\∀l,H l=none->Q (.ref l) (upd H l (.lst ys))):=by
 intro pins s σ H xs us Q I r h;obtain⟨p,ys,rfl,hq,q⟩:=h;obtain⟨u,rfl,rx⟩:=vals1 r;cases rx;have fin:∀(its:List ae),Vals ys its->ys.length<=sizeLine->∀(h':Heap) (c':Nat),(∀b o',s.heap.get? b=some o'->h'.get? b=some o')->
   h'.get? s.heap.objs.size=some { cls:=.type "list", dict:=none,data:=.seq its.toArray c',slots:=#[] }->EP X pins σ Q (.ref s.heap.objs.size) { s with heap:=h' }:=λits r' hz h' c' kp e=>
  ⟨.ref s.heap.objs.size,_,I.laid (t':=s.toks) kp (aG _) (show pI X.prog X.w _ h' _ (.lst ys) from⟨hz,its,c',r',e⟩),rfl,q _ (I.hok.fresh (aG _))⟩
 rcases hq with hq|hq
 ·obtain⟨its,r',pl,hz⟩:=I.list hq;have hlen:=r'.length;obtain⟨o,ho,hc,n,hd⟩:=pl.isList;exact call_list_seq p (.inl rfl) ho hc hd (λh' c' kp e=>fin its r' hz h' c' kp e) (by simp only[bf]<;>omega)
 ·obtain⟨its,r',pl,hz⟩:=I.tuple hq;have hlen:=r'.length;obtain⟨o,ho,hc,n,hd⟩:=pl;exact call_list_seq p (.inr rfl) ho hc hd (λh' c' kp e=>fin its r' hz h' c' kp e) (by simp only[bf]<;>omega)
theorem DJ:qr X (.type "tuple") (λxs H Q=>∃p ys,xs=[.ref p]/\((SqL X.K H p ys/\∀l,H l=none->Q (.ref l) (upd H l (.tup ys)))\/(SqT X.K H p ys/\Q (.ref p) H))):=by
 intro pins s σ H xs us Q I r h;obtain⟨p,ys,rfl,h⟩:=h;obtain⟨u,rfl,rx⟩:=vals1 r;cases rx;rcases h with ⟨hq,q⟩|⟨hq,q⟩
 ·obtain⟨its,r',pl,hz⟩:=I.list hq;have hlen:=r'.length;refine call_tuple_list pl.isList (λh' kp=>?_) (by simp only[bf]<;>omega);have I1:Inv X pins σ H { s with heap:=h' }:=I.kept (t':=s.toks) kp;have I2:Inv X pins σ (upd H h'.objs.size (.tup ys)) { s with heap:=h'.push { cls:=.type "tuple", data:=.seq its.toArray } }:=
   I1.laid (t':=s.toks) (λb o e=>aK _ e) (aG _) (show pI X.prog X.w _ _ _ (.tup ys) from⟨hz,its,r',IsTup.new _ _⟩)
  exact⟨.ref h'.objs.size,_,I2,rfl,q _ (I1.hok.fresh (aG _))⟩
 ·obtain⟨its,r',pl,hz⟩:=I.tuple hq;exact call_tuple_same pl ⟨.ref p,H,I,rfl,q⟩
def tyV(K:aw)(T:String)(x:V)(H:Hp):Prop:=match x with
 |.str _=>T="str"
 |.int _=>T="int"
 |.ref p=>(T="list" /\ ∃xs,SqL K H p xs)\/(T="tuple" /\ ∃o,K.lookup p=some o/\o.cls=.type "tuple" /\ o.dict=none)\/
   (T="dict" /\ ((∃kvs,H p=some (.dK kvs))\/∃kvs,H p=some (.dT kvs)))\/(T="set" /\ ∃S n,H p=some (.set S n))
 |_=>False
theorem Sw{s:af}{v:ae}(I:Inv X pins σ H s)(r:RelV x v)(ty:tyV X.K T x H):
  s.TypeIs v T/\∀a,v=.ref a->∃ob,s.heap.get? a=some ob/\ob.dict=none:=by
 cases x with
 |str z=>obtain⟨t,rfl⟩:=r;cases (show T="str" from ty);exact⟨typeIs_str s z t,λ_ e=>nomatch e⟩
 |int i=>obtain⟨t,rfl⟩:=r;cases (show T="int" from ty);exact⟨typeIs_int s i t,λ_ e=>nomatch e⟩
 |ref p=>
  cases r;rcases ty with ⟨rfl,xs,hq⟩|⟨rfl,o,hk,hc,hd⟩|⟨rfl,hk⟩|⟨rfl,S,n,hk⟩
  ·obtain⟨its,_,pl,_⟩:=I.list hq;refine⟨pl.isList.typeIs,λa e=>?_⟩;cases e;obtain⟨o,n,e,c,hd,_⟩:=pl;exact⟨o,e,hd⟩
  ·refine⟨⟨o,I.kIn p o hk,hc⟩,λa e=>?_⟩;cases e;exact⟨o,I.kIn _ o hk,hd⟩
  ·have z:∃o,s.heap.get? p=some o/\o.ExactDict:=by
    rcases hk with ⟨kvs,hk⟩|⟨kvs,hk⟩
    ·obtain⟨_,_,_,_,o,_,_,e,ex,_⟩:=I.hok p _ hk;exact⟨o,e,ex⟩
    ·obtain⟨_,_,_,_,o,_,_,e,ex,_⟩:=I.hok p _ hk;exact⟨o,e,ex⟩
   obtain⟨o,e,ex⟩:=z;refine⟨⟨o,e,ex.1⟩,λa e2=>?_⟩;cases e2;exact⟨o,e,ex.2.1⟩
  ·obtain⟨o,_,_,_,e,ex,_⟩:=I.hok p _ hk;refine⟨⟨o,e,ex.1⟩,λa e2=>?_⟩;cases e2;exact⟨o,e,ex.2.1⟩
 |_=>exact cB ty
def tBM(K:aw)(T:String)(r:V->bA->Hp->VK->Prop)(to:TE)(t:TA):TE:=λσ H Q=>to σ H λx H1=>tyV K T x H1/\t σ H1 λxs H2=>r x xs H2 Q
variable{o e:Expr}{es:List Expr}{to:TE}{t:TA}{name:Str}{apos cpos:Pos}{T id:String}{r:V->bA->Hp->VK->Prop}
theorem Ws(pa:kh T)(slot:Slot T name id)(hty:typeOf (.builtin id)=pure (.type "method_descriptor"))(hm:MtR X id r)(ho:PE X o to)(ha:PA X (e::es) t)
  (hbase:attributeBase o name X.env (eval o X.env)=eval o X.env:=by rfl)
  (hfew:((backTo cpos (starEach (e::es) X.env)).all (λx=>!x.1)&&(backToKw cpos (keywordEach [] X.env)).all (λx=>x.1.isSome)
   && decide ((e::es).length+([]:List dO).length+(if ([]:List dO).isEmpty then 0 else 1)<30))=true:=by rfl)
  (hline:(apos.endLine==cpos.line)=true:=by rfl) (hs:starEach (e::es) X.env=(false,eval e X.env)::starEach es X.env:=by rfl) (hplain:(backTo cpos (starEach es X.env)).any (·.1)=false:=by rfl):
  PE X (.Call (.Attribute o name apos) (e::es) [] cpos) (tBM X.K T r to t):=by
 intro pins s σ H Q I h;refine wpAny_Call_method_late hbase hfew hline rfl (thn (ho pins s σ H _ I h) λv s1 zz=>?_);obtain⟨x,H1,I1,r1,ty,q1⟩:=zz;obtain⟨h1,h2⟩:=Sw I1 r1 ty;refine⟨T,id,pa,slot,hty,h1,h2,?_⟩;have hA:=ha cpos pins s1 σ H1 _ I1 q1;rw[hs]at hA ⊢;refine gX (by show (false||(backTo cpos (starEach es X.env)).any (·.1))=false;rw[hplain]<;>rfl) (jg ?_)
 exact thn hA λus s2 ⟨vs,H2,I2,r2,q2⟩=>hm pins s2 σ H2 x vs v us Q I2 r1 r2 q2
end
def MtM(X:Cx)(id:String)(r:V->bA->Hp->VK->Prop):Prop:=
 ∀(pins:cy) (s:af) (σ:St) (H:Hp) (x:V) (xs:bA) (v:ae) (us:List ae) (Q:VK),Inv X pins σ H s->RelV x v->Vals xs us->r x xs H Q->
  wpAny (model X.prog X.w) X.A (call (.builtin id) (v::us)) (EP X pins σ Q) X.xe s
theorem Vals.one:∀{x:V} {us:List ae},Vals [x] us->∃u,us=[u]/\RelV x u
 |_,_,.cons r .nil=>⟨_,rfl,r⟩
theorem Vals.eraseIdx:∀{xs:bA} {us:List ae} (i:Nat),Vals xs us->Vals (xs.eraseIdx i) (us.eraseIdx i)
 |_,_,_,.nil=>.nil
 |_,_,0,.cons _ t=>t
 |_,_,i+1,.cons r t=>.cons r (Vals.eraseIdx i t)
theorem D1{α:Type}:∀(l:List α) (i:Nat),(l.eraseIdx i).length<=l.length
 |[],_=>aG _
 |_::_,0=>gf _
 |_::r,i+1=>Nat.succ_le_succ (D1 r i)
section
variable{X:Cx}{pins:cy}{σ:St}{H:Hp}{s:af}{l b:Addr}{xs ys zs:bA}
theorem Inv.lset{its its':List ae}{n:Nat}(I:Inv X pins σ H s)(hH:H l=some (.lst xs))
  (e:s.heap.get? l=some { cls:=.type "list", data:=.seq its.toArray n }) (hf:f its.toArray=its'.toArray) (hv:Vals ys its') (hz:ys.length<=sizeLine):
  Inv X pins σ (upd H l (.lst ys)) { s with heap:=s.heap.update l (cP f),toks:=t' }:=by
 have q:=PySem.IsL.update e f;rw[hf]at q;refine I.write (x:=l) (e:=l) (by rw[hH];exact trivial) (.inl rfl) (λb' u hb hu=>(fO s.heap (cP f) (cQ hb)).trans hu) ⟨_,q⟩ ?_;exact⟨hz,its',_,hv,q⟩
theorem Inv.lnew(I:Inv X pins σ H s)(hv:Vals ys its)(hz:ys.length<=sizeLine):
  Inv X pins σ (upd H s.heap.objs.size (.lst ys)) { s with heap:=s.heap.push { cls:=.type "list", data:=.seq its.toArray },toks:=t' }:=
 I.laid (λ_ _ q=>aK _ q) (aG _) ⟨hz,its,0,hv,bu _ rfl⟩
theorem Inv.fresh(I:Inv X pins σ H s):H s.heap.objs.size=none:=I.hok.fresh (aG _)
theorem Inv.lstM(I:Inv X pins σ H s)(hH:H l=some (.lst xs)):xs.length<=sizeLine/\∃(its:List ae) (n:Nat),Vals xs its/\xs.length=its.length/\s.heap.get? l=some { cls:=.type "list", data:=.seq its.toArray n }:=by obtain⟨z,its,n,r,e⟩:=I.hok l _ hH;exact⟨z,its,n,r,r.length,e⟩
theorem F5{n:Nat}(h:n<=sizeLine):fM n=false:=by unfold fM;exact aH (by omega)
end
section
variable{X:Cx}
def E2:V->bA->Hp->VK->Prop:=λx vs H Q=>∃l xs y,x=.ref l/\vs=[y]/\H l=some (.lst xs)/\xs.length<sizeLine/\Q .non (upd H l (.lst (xs++[y])))
theorem Ad:MtM X "list.append" E2:=by intro pins s σ H x vs v us Q I rx rv h;obtain⟨l,xs,y,rfl,rfl,hH,hz,q⟩:=h;cases rx;obtain⟨u,rfl,ru⟩:=rv.one;obtain⟨z,its,n,r,hl,e⟩:=I.lstM hH;refine iw jr ⟨_,e,rfl⟩ F.entry_list_append (F.args_list_append_2 _ _) (PySem.list_append l its.toArray n u (by rw[bf];omega)) ⟨e,?_⟩;refine⟨.non,_,I.lset (its':=its++[u]) hH e (by simp) (r.append (.cons ru .nil)) ?_,rfl,q⟩;rw[aA,bb];omega
def O1:V->bA->Hp->VK->Prop:=λx vs H Q=>∃l b xs zs,x=.ref l/\vs=[.ref b]/\H l=some (.lst xs)/\H b=some (.lst zs)/\xs.length+zs.length<=sizeLine/\Q .non (upd H l (.lst (xs++zs)))
theorem V1:MtM X "list.extend" O1:=by
 intro pins s σ H x vs v us Q I rx rv h;obtain⟨l,b,xs,zs,rfl,rfl,hH,hB,hz,q⟩:=h;cases rx;obtain⟨u,rfl,ru⟩:=rv.one;cases ru;obtain⟨z,its,n,r,hl,e⟩:=I.lstM hH;obtain⟨z2,its2,n2,r2,hl2,e2⟩:=I.lstM hB;have hsz:its.toArray.size+its2.toArray.size<=sizeLine:=by rw[bf,bf];omega
 have hlong:¬(!its.toArray.isEmpty&&fM (its.toArray.size+its2.toArray.size))=true:=by rw[F5 hsz,mM];exact bp
 refine iw jt ⟨_,e,rfl⟩ lK (lF _ _)
  (AutoSeq1.list_extend_list_list_0 l its.toArray n b its2.toArray n2 hlong (by rw[bf];omega) (by omega)) ⟨e,e2,?_⟩
 refine⟨.non,_,I.lset (its':=its++its2) hH e (by simp) (r.append r2) ?_,rfl,q⟩;rw[aA];omega
def HU:V->bA->Hp->VK->Prop:=λx vs H Q=>∃l xs i k y,x=.ref l/\vs=[.int i]/\H l=some (.lst xs)/\-(2 ^ 63)<=i/\i<2 ^ 63/\seqIndex? i xs.length=some k/\xs[k]?=some y/\Q y (upd H l (.lst (xs.eraseIdx k)))
theorem F6:MtM X "list.pop" HU:=by
 intro pins s σ H x vs v us Q I rx rv h;obtain⟨l,xs,i,k,y,rfl,rfl,hH,h1,h2,hk,hy,q⟩:=h;cases rx;obtain⟨u,rfl,ru⟩:=rv.one;obtain⟨t,rfl⟩:=ru;obtain⟨z,its,n,r,hl,e⟩:=I.lstM hH;obtain⟨w,hw,rw'⟩:=r.get hy;refine iw jB ⟨_,e,rfl⟩ F.entry_list_pop (F.args_list_pop_2 _ _)
  (MeetsSeq.list_pop_at l its.toArray n i t k w (fitsIndex_both h1 h2) (by rw[bf,<- hl];exact hk) (by rw[<-jb];exact hw) (by rw[bf];omega)) ⟨e,?_⟩
 refine⟨y,_,I.lset (its':=its.eraseIdx k) hH e ?_ (r.eraseIdx k) ?_,rw',q⟩
 ·show its.toArray.eraseIdxIfInBounds k=(its.eraseIdx k).toArray;rw[List.eraseIdxIfInBounds_toArray]
 ·have:=D1 xs k;omega
def XU:R2:=λx y H Q=>∃l b xs zs,x=.ref l/\y=.ref b/\H l=some (.lst xs)/\H b=some (.lst zs)/\xs.length+zs.length<=sizeLine/\∀p,H p=none->Q (.ref p) (upd H p (.lst (xs++zs)))
theorem Sx:OpR X (binaryOp .Add) XU:=by
 intro pins s σ H x y v u Q I rx ry h;obtain⟨l,b,xs,zs,rfl,rfl,hH,hB,hz,q⟩:=h;cases rx;cases ry;obtain⟨z,its,n,r,hl,e⟩:=I.lstM hH;obtain⟨z2,its2,n2,r2,hl2,e2⟩:=I.lstM hB;refine PySem.P.add_list e e2 ?_ (by rw[bf,bf];omega);have ea:its.toArray++its2.toArray=(its++its2).toArray:=by simp
 rw[ea];exact⟨.ref _,_,I.lnew (t':=s.toks) (r.append r2) (by rw[aA];omega),rfl,q _ I.fresh⟩
end
section
variable{prog:aS}{w:aI}{A:aQ}{E:ae->af->Prop}{s:af}
set_option maxRecDepth 100000 in
end
section
variable{κ:Type}[DecidableEq κ]
def sW(kvs:List (κ×V))(k:κ):Option V:=(kvs.find? λkv=>decide (kv.1=k)).map (·.2)
def putK(kvs:List (κ×V))(k:κ)(v:V):List (κ×V):=
 if (kvs.any λkv=>decide (kv.1=k))=true then kvs.map (λkv=>if kv.1=k then (kv.1,v)else kv)else kvs++[(k,v)]
theorem zj{p:κ×V}{k:κ}(e:p.1=k):sW (p::r) k=some p.2:=by simp[sW,dG,e]
theorem zk{p:κ×V}{k:κ}(e:¬p.1=k):sW (p::r) k=sW r k:=by simp[sW,dG,e]
theorem B5(k:κ):∀kvs:List (κ×V),(kvs.any λkv=>decide (kv.1=k))=(sW kvs k).isSome
 |[]=>rfl
 |p::r=>by
  rw[eF];by_cases e:p.1=k
  ·simp only[zj e,aT e,Bool.true_or,Option.isSome_some]
  ·rw[zk e,aH e,Bool.false_or];exact B5 k r
theorem uW(kvs:List (κ×V))(k:κ)(v:V):(putK kvs k v).length<=kvs.length+1:=by
 unfold putK;split
 ·rw[ah];omega
 ·rw[aA,aE,cN];omega
theorem Ma{k:κ}(v:V)(h:sW kvs k=none):putK kvs k v=kvs++[(k,v)]:=by unfold putK;rw[B5,h];exact aj (by decide)
theorem xm.isSome_eq(r:xm o u):o.isSome=u.isSome:=by
 cases o with
 |none=>cases u with
  |none=>rfl
  |some _=>exact(show False from r).elim
 |some _=>cases u with
  |none=>exact(show False from r).elim
  |some _=>rfl
theorem xm.getD(r:xm o u)(rd:RelV d d'):RelV (o.getD d) (u.getD d'):=by
 cases o with
 |none=>cases u with
  |none=>exact rd
  |some _=>exact(show False from r).elim
 |some _=>cases u with
  |none=>exact(show False from r).elim
  |some _=>exact r
theorem KV.val(r:KV kvs vs)(k:κ):xm (sW kvs k) (valueAt vs k):=by
 unfold KV at r
 induction r with
 |nil=>exact True.intro
 |@cons p q ps qs h t ih=>
  obtain⟨h1,h2⟩:=h;by_cases e:p.1=k
  ·have e':q.1=k:=h1.symm.trans e;have b:valueAt (q::qs) k=some q.2:=by simp[valueAt,dG,e']
   rw[zj e,b];exact h2
  ·have e':¬q.1=k:=λz=>e (h1.trans z);have b:valueAt (q::qs) k=valueAt qs k:=by simp[valueAt,dG,e']
   rw[zk e,b];exact ih
theorem KV.any(r:KV kvs vs)(k:κ):(kvs.any λkv=>decide (kv.1=k))=vs.any λkv=>decide (kv.1=k):=by
 unfold KV at r
 induction r with
 |nil=>rfl
 |cons h t ih=>rw[eF,eF,ih,h.1]
theorem KV.repl(r:KV kvs vs)(k:κ)(ry:RelV y u):
  KV (kvs.map λkv=>if kv.1=k then (kv.1,y)else kv) (vs.map λkv=>if kv.1=k then (kv.1,u)else kv):=by
 unfold KV at r ⊢
 induction r with
 |nil=>exact .nil
 |@cons p q ps qs h t ih=>
  rw[ay,ay];refine .cons ?_ ih;obtain⟨h1,h2⟩:=h;by_cases e:p.1=k
  ·rw[ai e,ai (h1.symm.trans e)];exact⟨h1,ry⟩
  ·rw[aj e,aj (λz=>e (h1.trans z))];exact⟨h1,h2⟩
theorem KV.put{kvs:List (κ×V)}{vs:List (κ×ae)}(r:KV kvs vs)(k:κ){y:V}{u:ae}(ry:RelV y u):KV (putK kvs k y) (stored vs k u):=by
 unfold putK stored;rw[r.any k];by_cases e:(vs.any λkv=>decide (kv.1=k))=true
 ·rw[ai e,ai e];exact r.repl k ry
 ·rw[aj e,aj e];exact mY r ⟨rfl,ry⟩
theorem KV.length(r:KV kvs vs):kvs.length=vs.length:=jK r
end
theorem AK{k:Key}(r:RelV (kV k) u):(oQ P w).is k u=true:=by
 cases k with
 |inl i=>obtain⟨t,e⟩:=(show ∃t,u=Value.int i t from r);subst e;exact FV P w i t
 |inr x=>obtain⟨t,e⟩:=(show ∃t,u=Value.str x t from r);subst e;exact FW P w x t
theorem D2:∀{ks:List Key} {us:List ae},Vals (ks.map kV) us->ItemsAre (oQ P w) ks us
 |[],_,r=>by rw[bI]at r;cases r;exact .nil
 |k::ks,_,r=>by
  rw[ay]at r;cases r with
  |cons h t=>exact .cons (AK h) (D2 t)
abbrev KT(H:Hp):List (List Key×V)->List (List Key×Addr×ae)->Prop:=eG λp q=>p.1=q.1/\H q.2.1=some (.tup (p.1.map kV))/\RelV p.2 q.2.2
theorem KT.val(r:KT H kvs xs)(k:List Key):xm (sW kvs k) ((atKey xs k).map (·.2)):=by
 induction r with
 |nil=>exact True.intro
 |@cons p q ps qs h t ih=>
  obtain⟨h1,_,h2⟩:=h;by_cases e:p.1=k
  ·have e':q.1=k:=h1.symm.trans e;have b:atKey (q::qs) k=some q.2:=by simp[atKey,dG,e']
   rw[zj e,b];exact h2
  ·have e':¬q.1=k:=λz=>e (h1.trans z);have b:atKey (q::qs) k=atKey qs k:=by simp[atKey,dG,e']
   rw[zk e,b];exact ih
theorem KT.repl(r:KT H kvs xs)(k:List Key)(ry:RelV y u):
  KT H (kvs.map λkv=>if kv.1=k then (kv.1,y)else kv) (xs.map (putAt k u)):=by
 induction r with
 |nil=>exact .nil
 |@cons p q ps qs h t ih=>
  rw[ay,ay];refine .cons ?_ ih;obtain⟨h1,h2,h3⟩:=h;unfold putAt;by_cases e:p.1=k
  ·rw[ai e,ai (h1.symm.trans e)];exact⟨h1,h2,ry⟩
  ·rw[aj e,aj (λz=>e (h1.trans z))];exact⟨h1,h2,h3⟩
theorem KT.put{H:Hp}{kvs:List (List Key×V)}{xs:List (List Key×Addr×ae)}(r:KT H kvs xs)(k:List Key){b:Addr}{y:V}{u:ae}(hb:H b=some (.tup (k.map kV)))(ry:RelV y u):
  KT H (putK kvs k y) (storedH xs k b u):=by
 have e:(kvs.any λkv=>decide (kv.1=k))=(atKey xs k).isSome:=by rw[B5,(r.val k).isSome_eq,Option.isSome_map]
 unfold putK storedH;rw[e];by_cases q:(atKey xs k).isSome=true
 ·rw[ai q,ai q];exact r.repl k ry
 ·rw[aj q,aj q];exact mY r ⟨rfl,hb,ry⟩
theorem KT.keeps(r:KT H kvs xs)(ht:∀b ys,H b=some (.tup ys)->H' b=some (.tup ys)):KT H' kvs xs:=
 Paired.mapP r λ_ _ z=>⟨z.1,ht _ _ z.2.1,z.2.2⟩
section
variable{P:aS}{w:aI}{H:Hp}{h:Heap}{a:Addr}
theorem Ro(ok:HOk P w H h)(e:Rd H a u):pI P w H h a u:=e.ok ok
theorem yC(ok:HOk P w H h)(e:Rd H a (.dK kvs)):kvs.length<=sizeLine/\(a==sysModules)=false/\∃vs,KV kvs vs/\h.DictOf (oQ P w) a vs:=
 show pI P w H h a (.dK kvs) from Ro ok e
theorem Mb(ok:HOk P w H h)(e:H a=some (.dK kvs)):kvs.length<=sizeLine/\(a==sysModules)=false/\∃vs,KV kvs vs/\h.DictOf (oQ P w) a vs:=yC ok (.inl e)
theorem E3{ks:List Key}(ok:HOk P w H h)(e:H a=some (.tup (ks.map kV))):(tupleKind (oQ P w)).is h ks a:=by obtain⟨_,its,r,o,h1,h2,n,h3⟩:=(show pI P w H h a (.tup (ks.map kV)) from ok a _ e);exact⟨o,its.toArray,n,h1,h2,h3,by simpa using D2 r⟩
theorem F7(ok:HOk P w H h)(e:Rd H a (.dT kvs)):kvs.length<=sizeLine/\(a==sysModules)=false/\
  ∃xs,KT H kvs xs/\h.DictOfH (tupleKind (oQ P w)) a xs:=by
 obtain⟨z,y,xs,r,o,es,ep,h1,h2,h3,h4,h5⟩:=(show pI P w H h a (.dT kvs) from Ro ok e);refine⟨z,y,xs,r,o,es,ep,h1,h2,h3,h4,λx hx=>?_,h5⟩;have all:∀{l:List (List Key×V)} {m:List (List Key×Addr×ae)},KT H l m->∀x∈m,(tupleKind (oQ P w)).is h x.1 x.2.1:=by
  intro l m q
  induction q with
  |nil=>intro x hx;exact nomatch hx
  |@cons p q ps qs hq t ih=>
   intro x hx;rcases aM.mp hx with e|hx
   ·subst e;exact E3 ok (by rw[<-hq.1];exact hq.2.1)
   ·exact ih x hx
 exact all r x hx
theorem Wt(ok:HOk P w H h)(e:H a=some (.dT kvs)):kvs.length<=sizeLine/\(a==sysModules)=false/\
  ∃xs,KT H kvs xs/\h.DictOfH (tupleKind (oQ P w)) a xs:=F7 ok (.inl e)
end
def DGet(H:Hp)(a:Addr)(y:V)(r:Option V):Prop:=
 (∃kvs k,Rd H a (.dK kvs)/\y=kV k/\r=sW kvs k)\/∃kvs k b,Rd H a (.dT kvs)/\y=.ref b/\H b=some (.tup (k.map kV))/\r=sW kvs k
def Mc(H:Hp)(a:Addr)(y v:V)(H':Hp):Prop:=
 (∃kvs k,H a=some (.dK kvs)/\y=kV k/\kvs.length<sizeLine/\H'=upd H a (.dK (putK kvs k v)))\/
 ∃kvs k b,H a=some (.dT kvs)/\y=.ref b/\H b=some (.tup (k.map kV))/\kvs.length<sizeLine/\H'=upd H a (.dT (putK kvs k v))
theorem Mc.k{k:Key}{v:V}(e:H a=some (.dK kvs))(hl:kvs.length<sizeLine):Mc H a (kV k) v (upd H a (.dK (putK kvs k v))):=.inl ⟨kvs,k,e,rfl,hl,rfl⟩
section
variable{X:Cx}{pins:cy}{σ:St}{H:Hp}{s:af}{a:Addr}{y v:V}{u r:ae}{o:Option V}{A:aQ}{E:ae->af->Prop}
theorem Inv.big(I:Inv X pins σ H s):sysModules<s.heap.objs.size:=by have h:mainGlobals<s.heap.objs.size:=(I.mod.glob.keeps I.bk).lt;exact Nat.lt_trans (by decide) h
theorem KH(hu:A.units+1<cLine)(I:Inv X pins σ H s)(g:DGet H a y (some v))(ry:RelV y u)(h:∀w' s',Inv X pins σ H s'->RelV v w'->Q w' s'):
  wpAny (model X.prog X.w) A (getItem (.ref a) u) Q E s:=by
 rcases g with ⟨kvs,k,e,ey,l⟩|⟨kvs,k,b,e,ey,eb,l⟩
 ·subst ey;obtain⟨z,hd,vs,rel,dd⟩:=yC I.hok e;obtain⟨w',hw,rw'⟩:=xm.some_of (v:=v) (o:=valueAt vs k) (by rw[l];exact rel.val k);exact wpAny_getItem_of (AK ry) dd.mapOf hw (h w' _ (I.tok _) rw')
 ·subst ey;cases (show u=Value.ref b from ry);obtain⟨z,hd,xs,rel,dd⟩:=F7 I.hok e;obtain⟨w',hw,rw'⟩:=xm.some_of (v:=v) (o:=(atKey xs k).map (·.2)) (by rw[l];exact rel.val k)
  obtain⟨p,hp,hp2⟩:=Option.map_eq_some_iff.mp hw;refine wpAny_getItem_heap (ju hu) (E3 I.hok eb) dd hp ?_;rw[hp2];exact h w' _ (I.tok _) rw'
theorem BN(I:Inv X pins σ H s)(mu:Mut (H a))(hs:fo a s.heap h')(he:∃q,h'.get? a=some q)(new:pI X.prog X.w (upd H a ob) h' a ob):
  Inv X pins σ (upd H a ob) { s with heap:=h',toks:=t' }:=
 I.write (x:=a) (e:=a) mu (.inl rfl) (λb q hb z=>(hs.2 b hb).trans z) he new
theorem HV{h':Heap}{kvs:List (Key×V)}(z:kvs.length<=sizeLine)(hd:(a==sysModules)=false)(rel:KV kvs vs)(dd:h'.DictOf (oQ P w) a vs):
  pI P w H' h' a (.dK kvs):=⟨z,hd,vs,rel,dd⟩
theorem KI{H':Hp}{Q:Unit->af->Prop}(hu:A.units+1<cLine)(I:Inv X pins σ H s)(g:Mc H a y v H')(ry:RelV y u)(rv:RelV v r)(h:∀s',Inv X pins σ H' s'->Q () s'):
  wpAny (model X.prog X.w) A (setItem (.ref a) u r) Q E s:=by
 rcases g with ⟨kvs,k,e,ey,l,eH⟩|⟨kvs,k,b,e,ey,eb,l,eH⟩
 ·subst ey eH;obtain⟨z,hd,vs,rel,dd⟩:=Mb I.hok e;have hz:vs.length<=sizeLine:=by rw[<-rel.length];exact z
  have hl:(putK kvs k v).length<=sizeLine:=by have:=uW kvs k v;omega
  refine wpAny_setItem_pairs (hsz:=hz) (AK ry) dd λh' dd' hs=>h _ ?_;have he:∃q,h'.get? a=some q:=let ⟨q,_,_,hq,_⟩:=dd';⟨q,hq⟩;exact BN I (by rw[e];exact True.intro) hs he (HV hl hd (rel.put k rv) dd')
 ·subst ey eH;cases (show u=Value.ref b from ry);obtain⟨z,hd,xs,rel,dd⟩:=Wt I.hok e;have hz:xs.length<=sizeLine:=by rw[<-jK rel];exact z
  have hl:(putK kvs k v).length<=sizeLine:=by have:=uW kvs k v;omega
  refine wpAny_setItem_heap (hsz:=hz) (ju hu) (E3 I.hok eb) dd λh' dd' hs=>h _ ?_;obtain⟨q,es,ep,hq,h2,h3,h4,_,h5⟩:=dd';refine BN I (by rw[e];exact True.intro) hs ⟨q,hq⟩ ⟨hl,hd,_,(rel.put k eb rv).keeps λc ys ec=>?_,q,es,ep,hq,h2,h3,h4,h5⟩;rw[oo (V3 ec e (λz=>nomatch z))];exact ec
end
section
variable{X:Cx}{pins:cy}{σ:St}{H:Hp}{s:af}{a:Addr}{kvs:List (Key×V)}{k:Key}{u:ae}{A:aQ}{E:ae->af->Prop}
theorem Wu(I:Inv X pins σ H s)(e:Rd H a (.dK kvs))(h:∀t s',Inv X pins σ H s'->Q (.int kvs.length t) s'):wpAny (model X.prog X.w) A (call (.builtin "len") [.ref a]) Q E s:=by obtain⟨z,hd,vs,rel,dd⟩:=yC I.hok e;refine call_len_dict hd dd (by rw[<-rel.length];rw[bJ]at z;omega) ?_;rw[<-rel.length];exact h _ _ (I.tok _)
end
def Sy(i:Expr):Prop:=∀ov iv,subscripted i false ov iv=operate [ov,iv] (getItem ov iv)
theorem O2{s:af}{id:String}
  (hl:typeLookup (.type T) "__getitem__" = pure (some (.builtin id))) (hs:Sy slice)
  (h:wpAny (model prog w) A (eval value env) (λo s₁=>wpAny (model prog w) A (eval slice env) (λi s₂=>s₂.TypeIs o T/\wpAny (model prog w) A (getItem o i) Q E s₂) E s₁) E s):
  wpAny (model prog w) A (eval (.Subscript value slice pos) env) Q E s:=by
 refine kg (bU h (λo s₁ h₁=>bU h₁ (λi s₂ h₂=>?_) λ_ _ x=>x) λ_ _ x=>x);obtain⟨hT,h₂⟩:=h₂;unfold subscriptTail;refine au ?_;rw[getitemInPython_of_ne hT.not_modules];refine au (jC hT hl ?_);have fin:wpAny (model prog w) A (subscripted slice false o i) (λr s₃=>wpAny (model prog w) A (letTemporaryGo value o r>>=λ_=>pure r) Q E s₃) E s₂:=by rw[hs o i];exact wpAny_operating (bU h₂ (λr s₃ h₃=>au (wpAny_letTemporaryGo (aD h₃))) λ_ _ x=>x)
 first
  |exact aD (au fin)
  |exact au (aD (au fin))
  |exact au fin
theorem F8{s:af}(I:Inv X pins σ H s)(g:DGet H a y o):s.TypeIs (.ref a) "dict" := by
 rcases g with ⟨kvs,k,e,_,_⟩|⟨kvs,k,b,e,_,_,_⟩
 ·obtain⟨_,_,vs,_,dd⟩:=yC I.hok e;exact dd.typeIs
 ·obtain⟨_,_,xs,_,dd⟩:=F7 I.hok e;exact dd.typeIs
def Wv(td ty:TE):TE:=λσ H Q=>td σ H λx H1=>ty σ H1 λy H2=>∃a v,x=.ref a/\DGet H2 a y (some v)/\Q v H2
def Rp(td ty tv:TE):TS:=λD σ H=>tv σ H λv H1=>td σ H1 λx H2=>ty σ H2 λy H3=>∃a H4,x=.ref a/\Mc H3 a y v H4/\D.nx σ H4
section
variable{X:Cx}{o i e value:Expr}{pos pos' tpos:Pos}{td ty tv:TE}
theorem O3(hu:X.A.units+1<cLine)(ho:PE X o td)(hi:PE X i ty)(hs:Sy i):PE X (.Subscript o i pos) (Wv td ty):=by intro pins s σ H Q I h;refine O2 F.slot_dict_getitem.lookup hs (thn (ho pins s σ H _ I h) λu s1 ⟨x,H1,I1,rx,q1⟩=>thn (hi pins s1 σ H1 _ I1 q1) λiv s2 zz=>?_);obtain⟨y,H2,I2,ry,a,v,ex,g,q2⟩:=zz;subst ex;obtain rfl:u=Value.ref a:=rx;exact⟨F8 I2 g,KH hu I2 g ry λw' s3 I3 rw'=>⟨v,H2,I3,rw',q2⟩⟩
theorem O4(hu:X.A.units+1<cLine)(ho:PE X o td)(hi:PE X i ty)(hv:PE X value tv)(hs:swapsWith value (some (.Subscript o i pos')) pos.line X.env=pure false):
  PS X (.Assign [.Subscript o i pos'] value pos) (Rp td ty tv):=by
 intro pins s σ H D I h;refine wpAny_Assign_Subscript (thn (hv pins s σ H _ I h) λr s1 ⟨v,H1,I1,rv,q1⟩=>thn (ho pins s1 σ H1 _ I1 q1) λu s2 ⟨x,H2,I2,rx,q2⟩=>thn (hi pins s2 σ H2 _ I2 q2) λiv s3 zz=>?_) hs;obtain⟨y,H3,I3,ry,a,H4,ex,g,q3⟩:=zz;subst ex;obtain rfl:u=Value.ref a:=rx;exact KI hu I3 g ry rv λs4 I4=>⟨σ,H4,I4,q3⟩
end
theorem F9(h:Heap)(hb:sysModules<h.objs.size):pI P w H (h.push { cls:=.type "dict", data:=.dict #[] }) h.objs.size (.dK []):=
 ⟨cj _,beq_eq_false_iff_ne.mpr (cQ (aX hb)),[],.nil,Heap.DictOf.new h⟩
def HW:TE:=λ_ H Q=>∀p,H p=none->Q (.ref p) (upd H p (.dK []))
section
variable{X:Cx}{pos:Pos}
theorem B6:PE X (.Dict [] [] pos) HW:=λpins s σ H Q I h=>
 wpAny_Dict_empty ⟨.ref s.heap.objs.size,_,I.laid (a:=s.heap.objs.size) (o:=.dK []) (t':=s.toks) (λ_ _ q=>aK _ q) (aG _) (F9 s.heap I.big),rfl,h _ (I.hok.fresh (aG _))⟩
end
def E4:List (TE×TE)->St->Hp->(List (V×V)->Hp->Prop)->Prop
 |[],_,H,Q=>Q [] H
 |(tk,tv)::r,σ,H,Q=>tk σ H λx H1=>tv σ H1 λy H2=>E4 r σ H2 λps H3=>Q ((x,y)::ps) H3
abbrev VV:List (V×V)->List (ae×ae)->Prop:=eG λp q=>RelV p.1 q.1/\RelV p.2 q.2
def PPs(X:Cx)(pos:Pos)(keys:List (Option Expr))(values:List Expr)(trs:List (TE×TE)):Prop:=
 ∀(pins:cy) (s:af) (σ:St) (H:Hp) (Q:List (V×V)->Hp->Prop),Inv X pins σ H s->E4 trs σ H Q->
  wpAny (model X.prog X.w) X.A (evalPairs (pairTrees keys values X.env pos)) (λvs s'=>∃ps H',Inv X pins σ H' s'/\VV ps vs/\Q ps H') X.xe s
theorem O5:PPs X pos [] [] []:=λpins s σ H Q I h=>pairTrees_nil_walk ⟨[],H,I,.nil,h⟩
theorem Md{k v:Expr}{tk:TE}(hk:PE X k tk)(hv:PE X v tv)(hr:PPs X pos ks vs trs):
  PPs X pos (some k::ks) (v::vs) ((tk,tv)::trs):=λpins s σ H Q I h=>
 pairTrees_cons_walk (thn (hk pins s σ H _ I h) λu s1 ⟨x,H1,I1,rx,q1⟩=>thn (hv pins s1 σ H1 _ I1 q1) λw2 s2 ⟨y,H2,I2,ry,q2⟩=>
  thn (hr pins s2 σ H2 _ I2 q2) λws s3 ⟨ps,H3,I3,rel,q3⟩=>⟨(x,y)::ps,H3,I3,.cons ⟨rx,ry⟩ rel,q3⟩)
def xt(kvs more:List (Key×V)):List (Key×V):=more.foldl (λacc kv=>putK acc kv.1 kv.2) kvs
theorem KV.merge:∀{more:List (Key×V)} {rs:List (Key×ae)} {kvs:List (Key×V)} {vs:List (Key×ae)},KV more rs->KV kvs vs->KV (xt kvs more) (merged vs rs):=by
 intro more rs kvs vs r;unfold KV at r
 induction r generalizing kvs vs with
 |nil=>intro q;exact q
 |@cons p q ps qs h t ih=>
  intro r0;have e:KV (putK kvs p.1 p.2) (stored vs q.1 q.2):=by have:=r0.put p.1 h.2;rw[<-h.1];exact this
  exact ih e
theorem yD:∀(more kvs:List (Key×V)),(xt kvs more).length<=kvs.length+more.length
 |[],kvs=>by show kvs.length<=kvs.length+0;omega
 |p::r,kvs=>by have h1:=yD r (putK kvs p.1 p.2);have h2:=uW kvs p.1 p.2;show (xt (putK kvs p.1 p.2) r).length<=_;rw[aE];omega
theorem B7:∀{kvs:List (Key×V)} {ws:List (ae×ae)},VV (kvs.map λkv=>(kV kv.1,kv.2)) ws->∃rs,Carries (oQ P w) ws rs/\KV kvs rs
 |[],_,r=>by rw[bI]at r;cases r;exact⟨[],True.intro,.nil⟩
 |p::kvs,_,r=>by
  rw[ay]at r;cases r with
  |@cons a b as bs h t=>obtain⟨rs,c,q⟩:=B7 (P:=P) (w:=w) t;obtain⟨b1,b2⟩:=b;exact⟨(p.1,b2)::rs,⟨AK h.1,rfl,c⟩,.cons ⟨rfl,h.2⟩ q⟩
def Me(trs:List (TE×TE)):TE:=λσ H Q=>∀p,H p=none->E4 trs σ (upd H p (.dK [])) λps H2=>H2 p=some (.dK [])/\∃kvs:List (Key×V),ps=kvs.map (λkv=>(kV kv.1,kv.2))/\kvs.length<=15/\Q (.ref p) (upd H2 p (.dK (xt [] kvs)))
theorem O6{keys:List (Option Expr)}(h:PPs X pos keys values trs)(hall:keys.all (·.isSome)=true)(hl:keys.length=values.length)(h0:keys≠[])
  (h15:keys.length<=15):PE X (.Dict keys values pos) (Me trs):=by
 intro pins s σ H Q I q;have hn:=I.hok.fresh (aG s.heap.objs.size);have I1:=I.laid (a:=s.heap.objs.size) (o:=.dK []) (h':=s.heap.push { cls:=.type "dict", data:=.dict #[] }) (t':=s.toks) (λ_ _ q=>aK _ q) (aG _) (F9 s.heap I.big);refine wpAny_Dict_walk (knd:=oQ X.prog X.w) hall hl h0 h15 (thn (h pins _ σ _ _ I1 (q _ hn)) λws s2 zz=>?_);obtain⟨ps,H2,I2,rel,e,kvs,ep,lk,q2⟩:=zz;subst ep;obtain⟨rs,c,rk⟩:=B7 (P:=X.prog) (w:=X.w) rel;obtain⟨z,hd,vs0,r0,dd⟩:=Mb I2.hok e;cases r0;refine⟨rs,c,dd,λh' dd' hs=>⟨.ref s.heap.objs.size,_,?_,rfl,q2⟩⟩;have hz:(xt [] kvs).length<=sizeLine:=by have h1:=yD kvs [];rw[cN]at h1;rw[bJ];omega
 have he:∃q,h'.get? s.heap.objs.size=some q:=let ⟨q,_,_,hq,_⟩:=dd';⟨q,hq⟩;exact BN I2 (by rw[e];exact True.intro) hs he (HV hz hd (rk.merge .nil) dd')
structure M1(X:Cx)(o:Expr)(m:Str)(apos:Pos)(e:Expr)(cpos:Pos):Prop where
 base:attributeBase o m X.env (eval o X.env)=eval o X.env
 few:((backTo cpos (starEach [e] X.env)).all (λx=>!x.1)&&(backToKw cpos (keywordEach [] X.env)).all (λx=>x.1.isSome)
  && decide (([e]:List Expr).length+([]:List dO).length+(if ([]:List dO).isEmpty then 0 else 1)<30))=true
 line:(apos.endLine==cpos.line)=true
 trees:backTo cpos (starEach [e] X.env)=[(false,eval e X.env)]
structure M2(X:Cx)(o:Expr)(m:Str)(apos:Pos)(e f:Expr)(cpos:Pos):Prop where
 base:attributeBase o m X.env (eval o X.env)=eval o X.env
 few:((backTo cpos (starEach [e,f] X.env)).all (λx=>!x.1)&&(backToKw cpos (keywordEach [] X.env)).all (λx=>x.1.isSome)
  && decide (([e,f]:List Expr).length+([]:List dO).length+(if ([]:List dO).isEmpty then 0 else 1)<30))=true
 line:(apos.endLine==cpos.line)=true
 trees:backTo cpos (starEach [e,f] X.env)=[(false,eval e X.env),(false,eval f X.env)]
def IsD(H:Hp)(a:Addr):Prop:=(∃kvs,Rd H a (.dK kvs))\/∃kvs,Rd H a (.dT kvs)
theorem HX{s:af}(I:Inv X pins σ H s)(d:IsD H a):
  s.TypeIs (.ref a) "dict" /\ (∀b,Value.ref a=.ref b->∃ob,s.heap.get? b=some ob/\ob.dict=none)/\(a==sysModules)=false:=by
 rcases d with ⟨kvs,e⟩|⟨kvs,e⟩
 ·obtain⟨_,hd,vs,_,dd⟩:=yC I.hok e;refine⟨dd.typeIs,λb q=>?_,hd⟩;cases q;obtain⟨ob,_,_,h1,h2,_⟩:=dd;exact⟨ob,h1,h2.2.1⟩
 ·obtain⟨_,hd,xs,_,dd⟩:=F7 I.hok e;refine⟨dd.typeIs,λb q=>?_,hd⟩;cases q;obtain⟨ob,_,_,h1,h2,_⟩:=dd;exact⟨ob,h1,h2.2.1⟩
section
variable{X:Cx}{pins:cy}{σ:St}{H:Hp}{s:af}{a:Addr}{y d:V}{u r:ae}{o:Option V}{A:aQ}{E:ae->af->Prop}
theorem SA(hu:A.units+1<cLine)(I:Inv X pins σ H s)(g:DGet H a y o)(ry:RelV y u)(h:∀w' s',Inv X pins σ H s'->RelV (o.getD .non) w'->Q w' s'):
  wpAny (model X.prog X.w) A (call (.builtin "dict.get") [.ref a,u]) Q E s:=by
 rcases g with ⟨kvs,k,e,ey,l⟩|⟨kvs,k,b,e,ey,eb,l⟩
 ·subst ey;obtain⟨z,hd,vs,rel,dd⟩:=yC I.hok e;refine ik jD dd.typeIs mw (ma _ _) (meets_dict_get (oQ X.prog X.w) a (AK ry) hd) ⟨_,dd.mapOf,h _ _ (I.tok _) ?_⟩;rw[l];exact(rel.val k).getD rfl
 ·subst ey;cases (show u=Value.ref b from ry);obtain⟨z,hd,xs,rel,dd⟩:=F7 I.hok e;refine ik jD dd.typeIs mw (ma _ _) (meetsH_dict_get (tupleKind (oQ X.prog X.w)) a b hd) ⟨ju hu,k,xs,E3 I.hok eb,dd,h _ _ (I.tok _) ?_⟩;rw[l];exact(rel.val k).getD rfl
end
def SC(td ty:TE):TE:=λσ H Q=>td σ H λx H1=>∃a,x=.ref a/\IsD H1 a/\ty σ H1 λy H2=>∃o,DGet H2 a y o/\Q (o.getD .non) H2
section
variable{X:Cx}{o e f:Expr}{apos cpos:Pos}{td ty tx:TE}
theorem Mg(hu:X.A.units+1<cLine)(ho:PE X o td)(he:PE X e ty)(m:M1 X o "get" apos e cpos):PE X (.Call (.Attribute o "get" apos) [e] [] cpos) (SC td ty):=by intro pins s σ H Q I h;refine md m.base m.few m.line jy jD F.type_dict_get (thn (ho pins s σ H _ I h) λu s1 zz=>?_);obtain⟨x,H1,I1,rx,a,ex,d,q1⟩:=zz;subst ex;obtain rfl:u=Value.ref a:=rx;obtain⟨t1,t2,_⟩:=HX I1 d;refine⟨t1,t2,?_⟩;rw[m.trees];refine gX rfl (jg (fS (thn (he pins s1 σ H1 _ I1 q1) λiv s2 ⟨y,H2,I2,ry,ov,g,q2⟩=>gZ ?_)));exact SA hu I2 g ry λw' s3 I3 rw'=>⟨_,H2,I3,rw',q2⟩
end
end L2
namespace Att
open PySem PySem.W PySem.Calls PyProof.Rows
theorem BE:∀(ns:List Int) (vs:List ae),WellAll P h vs (ns.map WData.int)->gn vs ns:=by
 intro ns
 induction ns with
 |nil=>intro vs w;rw[bI]at w;cases w;exact .nil
 |cons n ns ih=>
  intro vs w;rw[ay]at w;cases w with
  |cons a b=>cases a;exact .cons _ _ (ih _ b)
theorem KJ{l:fA}{n:Nat}(hn:l.most=some n){vals:List ae}
  (hpre:l.row.toRowW.claim.pre args=true) (hwl:WellAll P h vals args):
  ∃a vs ns,vals=[Value.ref a]/\args=[WData.list (ns.map WData.int)]/\h.get? a=some { cls:=.type "list", data:=.seq vs.toArray }/\gn vs ns/\ns.length<=n:=by
 have hsh:WShape.hasAll [] args [.list .int]=true:=(pre_splitW hpre).1;have hc:l.pre.holds [] { args:=args }=true:=(pre_splitW hpre).2;obtain⟨d,r,rfl,h1,h2⟩:=hasAllW_cons hsh;obtain rfl:=hasAllW_nil h2;obtain⟨xs,rfl,h3⟩:=hasW_list h1;obtain⟨ns,rfl⟩:=items_int h3;have hlen:ns.length<=n:=by
  unfold OpenLaw.pre at hc;have h4:(WTm.not (.lt (.lit (.int (n:Int))) (.len (.arg 0)))).holds [] { args:=[.list (ns.map .int)] }=true:=by have h4:=(holds_andW hc).1;rw[hn]at h4;exact h4
  have h5:=condW_of h4 (w_not (w_lt w_lit (w_len_list (w_arg rfl))));rw[ah]at h5;refine mx λq=>?_;have q':(n:Int)<((ns.length:Nat):Int):=by omega
  first
   |(rw[aT q']at h5;exact ao h5 (by decide))
   |(simp at h5;omega)
 cases hwl with
 |cons w1 w2=>
  cases w2;cases w1 with
  |list ho hall=>exact⟨_,_,ns,rfl,rfl,ho,BE ns _ hall,hlen⟩
theorem KL(l:fA)(args:List WData):l.row.toRowW.claim.post args (.bool true) args=true:=
 postW_of (r:=l.row.toRowW) (X:=(true==true))
  (show mZ [] (.bool true) .bool=true by first|rfl|decide|simp[mZ,WShape.arms,WShape.armsAll])
  (show (WTm.eq .res (.lit (.bool true))).value [] { args:=args,res:=some (.bool true),after:=args }=some (.bool (true==true)) from w_eq_bool (w_res rfl) w_lit) rfl
theorem attach_call{l:fA}{n:Nat}{d:DefRec}
  (hn:l.most=some n) (hdf:d.params.defaults=[])
  (call:∀(w:aI) (s₀ s₁:af) (mg mb:Str->Option ae) (fa:Addr) (o:Obj) (pm cd doc:ae) (a:Addr) (vs:List ae) (ns:List Int),
   Ground q loose [] XP w s₀ mg mb s₁.heap->YP w s₁.heap->
   s₁.heap.get? fa=some o->o.data=.func (docDef d.name d.params d.body d.scope pm cd doc)->s₁.heap.CodeRec cd d.name->mg d.name=some (.ref fa)->
   s₁.heap.get? a=some { cls:=.type "list", data:=.seq vs.toArray }->gn vs ns->ns.length<=n->s₁.gens=#[]->
   codeAny (model l.prog w) callerA (.call (.ref fa) ⟨[.ref a],[]⟩) (λr s'=>r=.ok (.ret (.bool true))/\OldK s₁.heap s'.heap/\s'.os=s₁.os/\dm s'.gens) s₁):
  WalkO q loose XP YP l.row.toRowW d [] (λf vs=>kj f vs):=by
 intro w s₀ s₁ mg mb G Y fa o pm cd doc dV kV ho hd hcd hD hmg hg args vals as hpre hlay hrd hwl hlo;obtain rfl:dV=.none:=Dflts.none hD hdf;obtain rfl:kV=.none:=Dflts.noKw hD;obtain⟨a,vs,ns,rfl,rfl,hobj,hints,hlen⟩:=KJ hn hpre hwl;refine enter_call (fw (call w s₀ s₁ mg mb fa o pm cd doc a vs ns G Y ho (fd_plain hd) hcd hmg hobj hints hlen hg) λr s' hq=>?_);obtain⟨rfl,h2,h3,h4⟩:=hq;exact⟨.inl ⟨.bool true,.bool true,[],rfl,λ_=>rfl,.bool true,KL l _,λ_=>⟨List.Pairwise.nil,λ_ hm=>(nomatch hm)⟩⟩,h2,h3,h4⟩
end Att
namespace L2
open PySem PySem.Spec PyProof.Rows
theorem D3:∀{vs:List ae} {ns:List Int},gn vs ns->Vals (ns.map V.int) vs
 |_,_,.nil=>.nil
 |_,_,.cons n t h=>.cons ⟨t,rfl⟩ (D3 h)
def SD(H:Hp):Prop:=∀b,H b=none\/∃o xs,H b=some (.frz o (.lst xs))
theorem Mh{K:aw}{k:Nat}{s₁:af}{vs:List ae}
  (KX:K.In s₁.heap) (hns:s₁.heap.Ns mainGlobals mg) (hb:s₁.heap.Ns builtinsNs mb) (hbb:∀x:Str,x≠"__name__" -> mb x=bootBuiltins x) (hlim:s₁.heap.NoLimit) (hg:s₁.gens=#[])
  (ha:s₁.heap.get? a=some { cls:=.type "list", data:=.seq vs.toArray }) (hi:gn vs ns) (hl:ns.length<=sizeLine) (hr:qa k callerA)
  (F:∀base:Heap,K.In base->base.Ns mainGlobals mg->su P w K mg base CX k fa fd [x] sp) (hbind:∀(s:af) (u:ae),fC s fd ⟨[u],[]⟩ [(x,u)])
  (hsp:∀H:Hp,SD H->SqL K H a (ns.map V.int)->sp [.ref a] H (λv _=>v=.bl true) λ_ _ _=>False)
  (hCX:∀H e s',CX [] H s₁ (λ_ _ _=>False) e s'->False):
  codeAny (model P w) callerA (.call (.ref fa) ⟨[.ref a],[]⟩) (λr s'=>r=.ok (.ret (.bool true))/\OldK s₁.heap s'.heap/\s'.os=s₁.os/\dm s'.gens) s₁:=by
 have rv:=D3 hi;have lenV:=hi.length;have core:∀H:Hp,SD H->SqL K H a (ns.map V.int)->HOk P w H s₁.heap->(∀b,H b≠none->b=a)->(H a≠none->K.lookup a=none)->
   codeAny (model P w) callerA (.call (.ref fa) ⟨[.ref a],[]⟩) (λr s'=>r=.ok (.ret (.bool true))/\OldK s₁.heap s'.heap/\s'.os=s₁.os/\dm s'.gens) s₁:=by
  intro H hO hS hok hA hK;have base_of:∀{b:Addr} {o:Obj},s₁.heap.get? b=some o->H b=none->(ES s₁.heap H).get? b=some o:=λe n=>LK e n;have noA:∀{b:Addr} {o:Obj} {es:Array DictEntry} {ep:Nat},s₁.heap.get? b=some o->o.data=.dict es ep->H b=none:=λ{b o es ep} e d=>by
   cases q:H b with
   |none=>rfl
   |some u=>have e':b=a:=hA b (by rw[q];simp);subst e';rw[ha]at e;cases e;have d':Data.seq vs.toArray _=Data.dict es ep:=d;cases d'
  have nsK:∀{b:Addr} {m:Str->Option ae},s₁.heap.Ns b m->(ES s₁.heap H).Ns b m:=λ{b m} ⟨o,es,ep,e,d,r⟩=>⟨o,es,ep,base_of e (noA e d),d,r⟩;have hKb:K.In (ES s₁.heap H):=λb o e=>base_of (KX b o e) (by
   cases q:H b with
   |none=>rfl
   |some u=>
    have e':b=a:=hA b (by rw[q];simp);subst e';rw[hK (by rw[q];simp)]at e;cases e)
  have hM:Mod K mg (ES s₁.heap H):=⟨hKb,nsK hns,⟨mb,nsK hb,hbb⟩,let ⟨mc,h1,h2⟩:=hlim;⟨mc,nsK h1,h2⟩⟩;have e0:HS P w K mg (ES s₁.heap H) callerA [] s₁ H:=⟨rfl,hM,λb o e=>OF e,jU (Ks _ _),trivial,λb hb=>ao (show b∈([]:List Addr) from hb) (by simp),hok,.of_eq hg⟩;refine fw ((F _ hKb (nsK hns)).run callerA [] s₁ H ⟨[.ref a],[]⟩ [.ref a] [.ref a] _ _ hr e0 (hbind s₁ (.ref a)) (.cons rfl .nil) (hsp H hO hS)) λr s' h=>?_;cases r with
  |error e=>exact(hCX H e s' h).elim
  |ok fl=>
   cases fl with
   |next=>exact cB h
   |brk=>exact cB h
   |cont=>exact cB h
   |ret u=>
    obtain⟨v,H',os,bare,un,hok',r',q⟩:=h;have q':v=.bl true:=q;subst q';obtain rfl:u=Value.bool true:=r';refine⟨rfl,OldK.of_keep λb o e=>?_,os,bare⟩;cases q:H b with
    |none=>exact un.keep b o e q (by intro z;exact ao (show b∈([]:List Addr) from z) (by simp)) (by simp)
    |some u=>
     rcases hO b with z|⟨ob,xs,z⟩
     ·rw[q]at z;cases z
     ·have z2:=un.frzs b ob _ z;obtain⟨e1,_⟩:=hok b _ z;obtain⟨e2,_⟩:=hok' b _ z2;rw[e]at e1;cases e1;exact e2
 cases hk:K.lookup a with
 |some o=>have e:=KX a o hk;rw[ha]at e;cases e;refine core (λ_=>none) (λ_=>.inl rfl) (.inr ⟨_,vs.toArray,_,hk,rfl,rfl,rfl,by rw[bf,lenV];exact hl,by simpa using rv⟩) (λb u z=>by have z':(none:Option HO)=some u:=z;cases z') (λb z=>ao rfl z) λz=>ao rfl z
 |none=>
  refine core (λb=>if b=a then some (.frz { cls:=.type "list", data:=.seq vs.toArray } (.lst (ns.map V.int)))else none) (λb=>?_) (.inl (.inr ⟨{ cls:=.type "list", data:=.seq vs.toArray },ai rfl⟩)) (λb u z=>?_) (λb z=>?_) λ_=>hk
  ·by_cases hb:b=a
   ·exact .inr ⟨_,_,ai hb⟩
   ·exact .inl (aj hb)
  ·by_cases hb:b=a
   ·have z':=(ai hb).symm.trans z;cases z';subst hb;exact⟨ha,by rw[ah];exact hl,vs,_,rv,ha⟩
   ·have z':=(aj hb).symm.trans z;cases z'
  ·by_cases hb:b=a
   ·exact hb
   ·exact ao (aj hb) z
theorem O7{l:fA}{n k:Nat}{q:aS}{loose:aB}{XP:(Str->Option ae)->Heap->Prop}{YP:aI->Heap->Prop}{d:DefRec}{K:Params->aw}{CX:aI->CXT}{sp:aI->Sp}{x:Str}
  (hn:l.most=some n) (hn2:n<=sizeLine) (hdf:d.params.defaults=[]) (hr:qa k callerA)
  (hY:∀(w:aI) (h:Heap),YP w h->(K w.params).In h)
  (F:∀(w:aI) (mg:Str->Option ae) (fa:Addr) (h:Heap),(K w.params).In h->h.Ns mainGlobals mg->mg d.name=some (.ref fa)->
   ∃fd:bW,(∀(s:af) (u:ae),fC s fd ⟨[u],[]⟩ [(x,u)])/\
    ∀base:Heap,(K w.params).In base->base.Ns mainGlobals mg->su l.prog w (K w.params) mg base (CX w) k fa fd [x] (sp w))
  (hsp:∀(w:aI) (H:Hp) (a:Addr) (ns:List Int),ns.length<=n->SD H->SqL (K w.params) H a (ns.map V.int)->sp w [.ref a] H (λv _=>v=.bl true) λ_ _ _=>False)
  (hCX:∀(w:aI) (H:Hp) (s:af) (e:ae) (s':af),CX w [] H s (λ_ _ _=>False) e s'->False):
  W.WalkO q loose XP YP l.row.toRowW d [] (λf vs=>kj f vs):=by
 refine Att.attach_call hn hdf λw s₀ s₁ mg mb fa o pm cd doc a vs ns G Y ho hd hcd hmg hobj hints hlen hg=>?_;have KX:=hY w _ Y;obtain⟨fd,hb,hF⟩:=F w mg fa _ KX G.T.g hmg;exact Mh KX G.T.g G.T.b G.T.builtins G.T.nolimit hg hobj hints (bL hlen hn2) hr hF hb (λH hO hS=>hsp w H a ns hlen hO hS) λH e s'=>hCX w H s₁ e s'
def inClass(s:Stmt)(j:Nat):Stmt:=match s with
 |.ClassDef _ _ _ body _ _ _ _ _ _ _=>body.getD j (.Pass ⟨0,0,0,0⟩)
 |_=>.Pass ⟨0,0,0,0⟩
def sv(s:Stmt):Arguments:=match s with
 |.FunctionDef _ a _ _ _ _ _ _ _ _=>a
 |_=>{ posonlyargs:=[],args:=[],vararg:=none,kwonlyargs:=[],kw_defaults:=[],kwarg:=none,defaults:=[] }
def pf(s:Stmt):List Stmt:=match s with
 |.FunctionDef _ _ b _ _ _ _ _ _ _=>b
 |_=>[]
def oJ(s:Stmt):cD:=match s with
 |.FunctionDef _ _ _ _ _ _ sc _ _ _=>sc
 |_=>{ kind:=.function,names:=[],isGenerator:=false,isCoroutine:=false }
abbrev CX0:CXT:=λ_ _ _ _ _ _=>False
abbrev E0:XK:=λ_ _ _=>False
theorem AL:Passes CX0 X E0:=λ_ _ _ _ _ _ _ h=>h.elim
structure Fun(K:aw)(x qual:Str)(st:Stmt)(f:Addr)(fd:bW):Prop where
 ex:∃(oc:ae) (od:Option Addr) (kV doc pm:ae) (an:Option Addr) (cdv ct:ae) (osl:Array (Option ae)),
  fd=dq x qual (sv st) (pf st) (oJ st) .none kV doc pm an cdv ct/\K.lookup f=some ⟨oc,od,.func fd,osl⟩/\fz K cdv qual=true
 kp:c7 K (.ref f)=true
section
variable{P:aS}{w:aI}{K:aw}{mg:Str->Option ae}{base:Heap}
theorem Fun.ok{st:Stmt}{k:Nat}(F:Fun K x qual st f fd)(S:p5 N ps (oJ st))(len:∀vs H Q E,sp vs H Q E->vs.length=ps.length)
  (hbody:∀(cdv:ae) (A:aQ) (outer:List Env) (s:af) (H:Hp) (vs:bA) (Q:VK) (E:XK),qa k (A.deeper (envOfC qual (oJ st) s.heap.objs.size f cdv))->sp vs H Q E->
   ∃t,PSs (F0 CX0 P w K mg base N qual (oJ st) f cdv A outer s H E).nox (pf st) t/\t { nx:=λ_ H'=>Q .non H',rt:=Q } (start N vs) H):su P w K mg base CX0 (k+1) f fd ps sp:=by
 obtain⟨oc,od,kV,doc,pm,an,cdv,ct,osl,rfl,lk,hcd⟩:=F.ex;refine Rl lk hcd S len λA outer s H vs Q E hr hsp=>?_;obtain⟨t,h,q⟩:=hbody cdv A outer s H vs Q E hr hsp;exact⟨t,h.nox,q⟩
theorem Fun.binds{st:Stmt}{ps:aB}(F:Fun K x qual st f fd)
  (h:∀(kV doc pm:ae) (an:Option Addr) (cdv ct:ae) (us:List ae),us.length=ps.length->bindArgs (dq x qual (sv st) (pf st) (oJ st) .none kV doc pm an cdv ct) ⟨us,[]⟩=pure (ps.zip us)):Binds K fd ps []:=by
 obtain⟨oc,od,kV,doc,pm,an,cdv,ct,osl,rfl,lk,hcd⟩:=F.ex;exact .all (h kV doc pm an cdv ct)
end
theorem Mi{k:Nat}(hr:qa k A):A.units+1<cLine:=jv (Nat.add_le_add_left (by decide:1<=64) _) hr.units
theorem yh{n:Nat}(h:n<=1000):n<sizeLine:=jv h (by decide)
section
variable{X:Cx}
theorem pv(i:Nat)(hN:X.N[i]?=some x:=by rfl)(hv:Vis X.env.scope x:=by first|exact Or.inl rfl|exact Or.inr (Or.inl rfl)|exact Or.inr (Or.inr rfl))(hd:(x==("__debug__" : Str))=false:=by decide)
  (hcd:(x==("__classdict__" : Str))=false:=by decide):PE X (.Name x pos) (vp i):=RS hN hv hd hcd
end
theorem E5{A B:Prop}(h:B):if false=true then A else B:=by rw[aj bp];exact h
theorem E6{A B:Prop}(h:A):if true=true then A else B:=by rw[ai rfl];exact h
def oB(H H':Hp):Prop:=∀b o,H b=some o->H' b=some o
theorem oB.refl(H:Hp):oB H H:=λ_ _ h=>h
theorem oB.trans(a:oB H H1)(b:oB H1 H2):oB H H2:=λc o h=>b c o (a c o h)
theorem oB.seq{K:aw}(e:oB H H')(h:SqL K H a xs):SqL K H' a xs:=by
 rcases h with (h|⟨o,h⟩)|h
 ·exact .inl (.inl (e _ _ h))
 ·exact .inl (.inr ⟨o,e _ _ h⟩)
 ·exact .inr h
end L2
set_option maxHeartbeats 4000000
namespace L3
open PySem PySem.Spec PyProof.Rows L2
abbrev St:=L2.St
theorem B8{α β:Type}{f:α->β->Sem (ForInStep β)}{g:β->α->β}:∀(l:List α) (b:β),(∀x∈l,∀c,f x c=pure (ForInStep.yield (g c x)))->(forIn l b f:Sem β)=pure (l.foldl g b)
 |[],b,_=>by simp
 |x::r,b,h=>by rw[List.forIn_cons,h x ba b];show (forIn r (g b x) f:Sem β)=_;rw[B8 r (g b x) λy hy c=>h y (bh _ hy) c];rfl
def w6(cells:List (Str×Addr))(cs:List (Str×Addr))(x:Str×c8):List (Str×Addr):=if (x.2==NameKind.free)=true then (x.1,(cells.lookup x.1).getD 0)::cs else cs
def tU(cells:List (Str×Addr))(names:List (Str×c8)):List (Str×Addr):=names.foldl (w6 cells) []
theorem DK{scope:cD}{env:Env}(h:∀x∈scope.names,x.2=.free->∃c,env.cells.lookup x.1=some c):
  closureFor scope env=pure (tU env.cells scope.names):=by
 simp only[closureFor];rw[B8 (g:=w6 env.cells) scope.names [] λx hx c=>by
  obtain⟨n,k⟩:=x;by_cases hk:k=.free
  ·subst hk;obtain⟨a,e⟩:=h _ hx rfl;have e':env.cells.lookup n=some a:=e;simp only[w6,cellOf,e',beq_self_eq_true,if_true,my];rfl
  ·have hb:(k==NameKind.free)=false:=by simpa using hk
   simp only[w6,hb,dZ,if_false]]
 rfl
theorem Ga{cells:List (Str×Addr)}:∀(names:List (Str×c8)) (acc:List (Str×Addr)),(∀x∈names,x.2=.free->∃c,cells.lookup x.1=some c)->(∀x c,acc.lookup x=some c->cells.lookup x=some c)->
  ∀x c,(names.foldl (w6 cells) acc).lookup x=some c->cells.lookup x=some c
 |[],acc,_,ha,x,c,e=>ha x c e
 |y::r,acc,h,ha,x,c,e=>by
  refine Ga r (w6 cells acc y) (λz hz=>h z (bh _ hz)) (λz d ez=>?_) x c e;obtain⟨n,k⟩:=y;unfold w6 at ez;split at ez
  ·rename_i hk;obtain⟨a,ea⟩:=h (n,k) ba (by simpa using hk);have ea':cells.lookup n=some a:=ea;rw[dF]at ez;cases hb:z==n with
   |true=>rw[hb]at ez;have ez':some ((cells.lookup n).getD 0)=some d:=ez;rw[ea']at ez';rw[gh hb,ea'];exact ez'
   |false=>rw[hb]at ez;exact ha z d ez
  ·exact ha z d ez
theorem D4:∀(names:List (Str×c8)) (acc:List (Str×Addr)) (x:Str),(∃c,acc.lookup x=some c)->∃c,(names.foldl (w6 cells) acc).lookup x=some c
 |[],_,_,h=>h
 |y::r,acc,x,h=>by
  refine D4 r (w6 cells acc y) x ?_;unfold w6;split
  ·rw[dF];cases x==y.1 with
   |true=>exact⟨_,rfl⟩
   |false=>exact h
  ·exact h
theorem B9:∀(names:List (Str×c8)) (acc:List (Str×Addr)) (x:Str),(x,NameKind.free)∈names->∃c,(names.foldl (w6 cells) acc).lookup x=some c
 |[],_,_,h=>by cases h
 |y::r,acc,x,h=>by
  rcases aM.mp h with e|h
  ·subst e;refine D4 r _ x ?_;unfold w6;rw[ai (by simp),dF];simp
  ·exact B9 r _ x h
theorem v9{env:Env}(x:Str):∀(names:List (Str×c8)),
  (names.map λ(n,k)=>if (k==NameKind.free&&env.scope.kind==.function&&env.kindOf n==some .cell)then (n,NameKind.cell)else (n,k)).lookup x=
   (names.lookup x).map λk=>if (k==NameKind.free&&env.scope.kind==.function&&env.kindOf x==some .cell)=true then NameKind.cell else k
 |[]=>rfl
 |(n,k)::r=>by
  have ih:=v9 (env:=env) x r;rw[ay,dF (k:=n)];show cO x ((if (k==NameKind.free&&env.scope.kind==.function&&env.kindOf n==some .cell)=true then (n,NameKind.cell)else (n,k))::_)=_;cases hx:x==n with
  |true=>
   have e:=gh hx;subst e;split
   ·rename_i hc;simp only[dF,hx,eB,hc,if_true]
   ·rename_i hc;simp only[dF,hx,eB];rw[aj hc]
  |false=>
   rw[<-ih];split
   ·simp only[dF,hx]
   ·simp only[dF,hx]
theorem HY{scope:cD}(hcell:∀y∈scope.names,y.2≠.cell)(h:(relabel scope env).names.lookup x=some .cell\/(relabel scope env).names.lookup x=some .free):(x,NameKind.free)∈scope.names:=by
 have e:=v9 (env:=env) x scope.names;have h':(scope.names.lookup x).map (λk=>if (k==NameKind.free&&env.scope.kind==.function&&env.kindOf x==some .cell)=true then NameKind.cell else k)=some .cell\/
   (scope.names.lookup x).map (λk=>if (k==NameKind.free&&env.scope.kind==.function&&env.kindOf x==some .cell)=true then NameKind.cell else k)=some .free:=by
  rw[<-e];exact h
 cases q:scope.names.lookup x with
 |none=>rw[q]at h';rcases h' with z|z<;>cases z
 |some k=>
  rw[q]at h';have hm:=mem_of_lookup q;have hc:=hcell _ hm;cases k with
  |free=>exact hm
  |cell=>exact ao rfl hc
  |_=>rcases h' with z|z<;>cases z
theorem DL{scope:cD}(h:scope.names.lookup x=some .free):(relabel scope env).names.lookup x=some .cell\/(relabel scope env).names.lookup x=some .free:=by
 have e:=v9 (env:=env) x scope.names;have e':(relabel scope env).names.lookup x=(scope.names.lookup x).map λk=>if (k==NameKind.free&&env.scope.kind==.function&&env.kindOf x==some .cell)=true then NameKind.cell else k:=e
 rw[e',h,eB];split
 ·exact .inl rfl
 ·exact .inr rfl
def qb(X:Cx)(N':aB)(scope:cD)(cl:List (Str×Addr))(C:Addr)(fp:List Addr)(s:af)(H:Hp):Cx:=
 { X with N:=N',s₀:=s,H₀:=H,env:=compEnvC scope cl C X.env,outer:=X.stack,ex:=fp,fn:=λ_=>false,pn:=[],xe:=λ_ _=>False }
def PIf(X:Cx)(ifs:List Expr)(t:TT):Prop:=
 ∀(pins:cy) (s:af) (σ:St) (H:Hp) (Q:Bool->Hp->Prop),Inv X pins σ H s->t σ H Q->
  wpAny (model X.prog X.w) X.A (forIn ifs true λc r=>if r=true then do let ok<-isTrue c X.env (eval c X.env);pure (ForInStep.yield ok)else pure (ForInStep.yield r)) (TP X pins σ Q) X.xe s
def XW:TT:=λ_ H Q=>Q true H
theorem O8:PIf X [] XW:=λ_ _ _ H _ I h=>wpAny_tests_nil ⟨H,I,h⟩
theorem O9{t:TT}(h:PT X c t):PIf X [c] t:=λpins s σ H Q I hq=>wpAny_tests_one (h pins s σ H Q I hq)
section
variable{prog:aS}{w:aI}{A:aQ}{R:fD->af->Prop}{s:af}
theorem E7(J:Nat->af->Prop)
  (turn:∀n s,J n s->wpAny (model prog w) A (pyNext it) (λr s₁=>match r with
   |none=>R (.ok .next) s₁
   |some v=>wpAny (model prog w) A (letOwnedTupleGo target it v) (λ_ s₁'=>wpAny (model prog w) A (assign target env v) (λ_ s₂=>
     wpAny (model prog w) A (forIn ifs true λc r=>if r=true then do let ok<-isTrue c env (eval c env);pure (ForInStep.yield ok)else pure (ForInStep.yield r)) (λok s₃=>
      if ok=true then wpAny (model prog w) A (eval elt env) (λx s₄=>
       wpAny (model prog w) A (call (.builtin "list.append") [acc,x]) (λ_ s₅=>∃m,m<n/\J m s₅) (notedBy (model prog w) A env λe s'=>R (.error e) s') s₄) (notedBy (model prog w) A env λe s'=>R (.error e) s') s₃
      else ∃m,m<n/\J m s₃) (notedBy (model prog w) A env λe s'=>R (.error e) s') s₂) (notedBy (model prog w) A env λe s'=>R (.error e) s') s₁')
      (notedBy (model prog w) A env λe s'=>R (.error e) s') s₁) (notedBy (model prog w) A env λe s'=>R (.error e) s') s)
  (n:Nat) (h:J n s):
  codeAny (model prog w) A (.compLoop (.ListComp elt [⟨target,iter,ifs,0⟩] scope pos) 0 it acc env) R s:=by
 refine codeAny_loop rfl J (λn s hI=>?_) n h;show wpAny _ A ((compTurn (.ListComp elt [⟨target,iter,ifs,0⟩] scope pos) 0 it acc env).onRaise (λx=>do noteFrame x env;theTreesLotGoes x)) _ _ s;refine wpAny_noted ?_;rw[compTurn_list];refine au (wpAny_standAt (au (bU (turn n s hI) (λr s₁ h₁=>?_) λ_ _ h'=>h')));cases r with
 |none=>exact aD h₁
 |some v=>
  refine au (bU h₁ (λ_ s₁' h₁'=>?_) λ_ _ h'=>h');refine au (bU h₁' (λ_ s₂ h₂=>au (bU h₂ (λok s₃ h₃=>?_) λ_ _ h'=>h')) λ_ _ h'=>h');cases ok with
  |false=>exact aD ⟨rfl,h₃⟩
  |true=>exact au (au (bU h₃ (λx s₄ h₄=>au (bU h₄ (λ_ s₅ h₅=>aD (aD ⟨rfl,h₅⟩)) λ_ _ h'=>h')) λ_ _ h'=>h'))
end
def sy(k:Nat)(cap:List Nat)(σ:St):St:=dJ k none++cap.map λj=>(σ[j]?).join
theorem D5{k:Nat}{cap:List Nat}{v:V}(h:(sy k cap σ)[i]?=some (some v)):k<=i:=by
 by_cases hi:k<=i
 ·exact hi
 ·unfold sy at h;rw[cF (by rw[cb];omega),eV]at h;split at h<;>cases h
theorem KM{k:Nat}{cap:List Nat}{σ:St}{N N':aB}{i:Nat}{v:V}{x:Str}(hcap:(N'.drop k).map some=cap.map λj=>N[j]?)(hx:N'[i]?=some x)(h:(sy k cap σ)[i]?=some (some v)):
  ∃j:Nat,N[j]?=some x/\σ[j]?=some (some v)/\x∈N'.drop k:=by
 have hi:=D5 h;unfold sy at h;rw[cz (by rw[cb];exact hi),cb,bj]at h;have hd:(N'.drop k)[i - k]?=some x:=by rw[cW,show k+(i - k)=i by omega];exact hx
 have e:=aR (λl=>l[i - k]?) hcap;simp only[bj,hd,eB]at e;cases q:cap[i - k]? with
 |none=>rw[q]at h;cases h
 |some j=>
  rw[q]at h e;simp only[eB,Option.some.injEq]at h e;refine⟨j,e.symm,?_,cA hd⟩;cases z:σ[j]? with
  |none=>rw[z]at h;cases h
  |some o=>rw[z]at h;have h':o=some v:=h;rw[h']
def Ca(wi:TI)(g:TG)(tt:TT)(te:TE)(k:Nat)(cap:List Nat):TE:=λσ H Q=>wi σ H λJ H1=>∀p,H1 p=none->
 ∃W:Nat->Nat->bA->Hp->Prop,(∃m,W 0 m [] (upd H1 p (.lst [])))/\∀i m acc H2,W i m acc H2->
  (J.stop i H2/\Q (.ref p) H2)\/
   (J.go i H2/\∀x H3,J.yld i H2 x H3->g x (sy k cap σ) H3 λσ4 H4=>σ4.drop k=(sy k cap σ).drop k/\tt σ4 H4 λb H5=>
    if b=true then te σ4 H5 λy H6=>∃acc',H6 p=some (.lst acc')/\acc'.length<sizeLine/\∃m',m'<m/\W (i+1) m' (acc'++[y]) (upd H6 p (.lst (acc'++[y])))
    else ∃m',m'<m/\W (i+1) m' acc H5)
theorem D6{X:Cx}{s:af}{k:Nat}{cap:List Nat}{g:TG}
  (hc:X.calm=true) (hi:PI X tg iter wi)
  (body:∀(cl:List (Str×Addr)) (C:Addr) (fp:List Addr) (s:af) (H:Hp),PG (qb X N' scope cl C fp s H) tg g/\PIf (qb X N' scope cl C fp s H) ifs tt/\PE (qb X N' scope cl C fp s H) elt te)
  (hkind:scope.kind=.function) (hcell:(scope.names.all λy=>y.2 != .cell)=true)
  (hloc:(scope.names.all λy=>y.2 != .local||scope.names.lookup y.1==some .local)=true)
  (hfree:(scope.names.all λy=>y.2 != .free||(X.env.kindOf y.1==some .cell||X.env.kindOf y.1==some .free))=true)
  (hlen:N'.length=k+cap.length) (hcap:(N'.drop k).map some=cap.map λj=>X.N[j]?)
  (hcf:((N'.drop k).all λx=>scope.names.lookup x==some .free)=true)
  (hs:∀x,foldedSetIterable iter X.env x=pure x)
  (I:Inv X pins σ H s) (h:Ca wi g tt te k cap σ H Q)
  (fin:∀a C m u s4 H3,s4.heap.Ns C m->Inv X pins σ H3 s4->DH X pins H3 C->Q (.ref a) H3->compPost (model X.prog X.w) X.A X.xe use P (.ref a) C (.ok u) s4):
  wpAny (model X.prog X.w) X.A (comprehension (.ListComp elt [⟨tg,iter,ifs,0⟩] scope pos) scope X.env (firstIterPos [⟨tg,iter,ifs,0⟩] pos) (newList []) false (eval iter X.env) use) P X.xe s:=by
 have hcell':∀y∈scope.names,y.2≠.cell:=λy hy e=>by have z:=bC.mp hcell y hy;rw[e]at z;exact ao z (by decide)
 have hloc':∀y∈scope.names,y.2=.local->scope.names.lookup y.1=some .local:=λy hy e=>by have z:=bC.mp hloc y hy;rw[e]at z;simpa using z
 have hfree':∀y∈scope.names,y.2=.free->X.env.kindOf y.1=some .cell\/X.env.kindOf y.1=some .free:=λy hy e=>by have z:=bC.mp hfree y hy;rw[e]at z;simpa using z
 have hcl:∀y∈scope.names,y.2=.free->∃c,X.env.cells.lookup y.1=some c:=λy hy e=>I.ok.has y.1 (hfree' y hy e);refine wpAny_comprehension_free rfl hs (DK hcl) hkind hloc' (thn (hi pins s σ H _ I h) λxv s₁ h₁=>thn h₁ λit s₂ h₂=>?_);obtain⟨ita,fp,tn,J,H2,e,I2,T,st2,f2,R2⟩:=h₂;subst e;obtain⟨W,⟨m0,w0⟩,turn⟩:=R2 s₂.heap.objs.size (I2.hok.fresh (aG _));refine me (wpAny_newFunctionEnv hcell' (by intro y hy;simp at hy) (λh₁ hns₁ hsb₁=>?_) hkind);dsimp only at hns₁ hsb₁ ⊢;generalize hp:s₂.heap.push { cls:=.type "list", dict:=none,data:=.seq ([]:List ae).toArray }=hpL at hns₁ hsb₁ ⊢;have hsz:hpL.objs.size=s₂.heap.objs.size+1:=by rw[<-hp,dh]
 have I3:Inv X pins σ (upd H2 s₂.heap.objs.size (.lst [])) { s₂ with heap:=hpL }:=by rw[<-hp];exact I2.laid (t':=s₂.toks) (λb u e=>aK _ e) (aG _) ⟨cj _,[],0,.nil,bu _ rfl⟩
 have old:∀b o,hpL.get? b=some o->h₁.get? b=some o:=λb o e=>hsb₁.extBut b o (aX (aN e)) (aK _ e);have older:∀b o,s₂.heap.get? b=some o->hpL.get? b=some o:=λb o e=>by rw[<-hp];exact aK _ e
 have hfpS:∀b∈fp,b<s₂.heap.objs.size:=λb hb=>let ⟨o,e,_⟩:=T.obj _ _ st2 b hb;aN e;have sub:∀x c,(tU X.env.cells scope.names).lookup x=some c->X.env.cells.lookup x=some c:=Ga scope.names [] hcl (λx c e=>by cases e);have ok':(qb X N' scope (tU X.env.cells scope.names) hpL.objs.size fp { s₂ with heap:=hpL } (upd H2 s₂.heap.objs.size (.lst []))).Ok:={
  mod:=I3.ok.mod
  kind:=hkind
  glob:=I3.ok.glob
  blt:=I3.ok.blt
  above:=aG _
  inj:=λx y c h1 h2=>I3.ok.inj x y c (sub x c h1) (sub y c h2)
  has:=λx hx=>B9 scope.names [] x (HY hcell' hx)
  cab:=λx c hf _=>ao (show false=true from hf) bp
  hd:=I3.ok.hd
  frames:=I3.ok.frames
  stk:=.inl rfl
  exf:=λb hb=>⟨(by
   show b≠hpL.objs.size;rw[hsz];exact aX (cX (hfpS b hb))),λx c e=>(f2 b hb).2.2.2.2.1 x c (sub x c e)⟩
  bs:=I3.bs
  bsz:=bL I3.ok.bsz I3.sz
  noex:=λb o e hb=>by
   rcases(f2 b hb).2.2.2.1 with z|z
   ·exact I3.ok.noex b o e z
   ·exact ao (bZ (aN e) (bL I3.ok.bsz z)) (di _)
  exfs:=λb hb z=>(aM.mp (I3.stkSub b z)).elim (f2 b hb).2.1 (f2 b hb).2.2.1
  funs:=I3.stack
  frf:=I3.stkFree }
 have IX:Inv (qb X N' scope (tU X.env.cells scope.names) hpL.objs.size fp { s₂ with heap:=hpL } (upd H2 s₂.heap.objs.size (.lst []))) [] (sy k cap σ) (upd H2 s₂.heap.objs.size (.lst []))
   { s₂ with heap:=h₁,toks:=s₂.toks+([]:List (Str×ae)).length }:={
  ok:=ok'
  os:=rfl
  bare:=I3.bare
  base:=Un.kept old
  loc:=⟨_,hns₁,λi x v e1 e2 _=>by
   obtain⟨j,hj,hσ,hm⟩:=KM hcap e1 e2;have hx:scope.names.lookup x=some .free:=by simpa using bC.mp hcf x hm
   have hk:=hfree' (x,.free) (mem_of_lookup hx) rfl;obtain⟨m,hn,hl⟩:=I3.loc;obtain⟨u,r,lk⟩:=hl j x v hj hσ (hk.elim (λz=>.inr (.inl z)) λz=>.inr (.inr z));refine⟨u,r,.inr ⟨DL hx,?_⟩⟩;rcases lk with ⟨z,_⟩|⟨_,c,e,o,ho,hd⟩
   ·rcases hk with y|y
    ·rw[y]at z;cases z
    ·rw[y]at z;cases z
   ·obtain⟨c',e'⟩:=B9 (cells:=X.env.cells) scope.names [] x (mem_of_lookup hx);have ec:=sub x c' e';rw[e]at ec;have ec':c=c':=cf ec;subst ec';exact⟨c,e',o,old _ _ ho,hd⟩⟩
  cell:=λx c e=>by obtain⟨v,o,ho,hd⟩:=I3.cell x c (sub x c e);exact⟨v,o,old _ _ ho,hd⟩
  free:=I3.hok.fresh (aG _)
  freeC:=λx c e=>I3.freeC x c (sub x c e)
  pin:=λp hp=>ao (show p∈([]:cy) from hp) (by simp)
  hok:=I3.hok.kept old
  len:=by
   show (sy k cap σ).length=N'.length;rw[hlen];unfold sy;rw[aA,cb,ah] }
 have stat:∀{H':Hp},(∀b∈fp,H' b=none)->∀b∈fp,DH (qb X N' scope (tU X.env.cells scope.names) hpL.objs.size fp { s₂ with heap:=hpL } (upd H2 s₂.heap.objs.size (.lst []))) [] H' b:=λhn b hb=>⟨hn b hb,(ok'.exf b hb).1,ok'.exfs b hb,.inl hb,(ok'.exf b hb).2,λp hp=>ao (show p∈([]:cy) from hp) (by simp)⟩
 have st4:tn 0 h₁:=T.keep _ _ _ st2 λb _ o e=>old b o (older b o e);have loop:codeAny (model X.prog X.w) X.A (.compLoop (.ListComp elt [⟨tg,iter,ifs,0⟩] scope pos) 0 (.ref ita) (.ref s₂.heap.objs.size) (compEnvC scope (tU X.env.cells scope.names) hpL.objs.size X.env))
   (compPost (model X.prog X.w) X.A X.xe use P (.ref s₂.heap.objs.size) hpL.objs.size) { s₂ with heap:=h₁,toks:=s₂.toks+([]:List (Str×ae)).length }:=by
  refine E7 (λn s'=>∃i acc H',Inv (qb X N' scope (tU X.env.cells scope.names) hpL.objs.size fp { s₂ with heap:=hpL } (upd H2 s₂.heap.objs.size (.lst []))) [] (sy k cap σ) H' s'/\tn i s'.heap/\(∀b∈fp,H' b=none)/\W i n acc H')
   ?_ m0 ⟨0,[],_,IX,st4,λb hb=>?_,w0⟩
  ·rintro n s3 ⟨i,acc,H3,I4,st3,fr3,w3⟩;rcases turn i n acc H3 w3 with ⟨stop,qn⟩|⟨go,step⟩
   ·refine thn (T.done (qb X N' scope (tU X.env.cells scope.names) hpL.objs.size fp { s₂ with heap:=hpL } (upd H2 s₂.heap.objs.size (.lst []))) rfl rfl rfl hc i [] s3 _ H3 _ I4 (stat fr3) st3 stop) λr s4 zz=>?_;obtain⟨hr,I5⟩:=zz;subst hr;obtain⟨m,hn,_⟩:=id I5.loc;have U:=I5.base;refine fin _ _ m _ _ _ hn (I3.call' (s':=s4) (ch:=fp) I5.os ⟨λb o e n hb hx=>U.keep b o e n hb hx,λb o e n hb hx=>U.slot b o e n hb hx,U.free,λb o e hx=>U.there b o e hx,U.tups,U.frzs,U.tbls⟩ I5.hok I5.bare
     λb hb=>⟨(f2 b hb).2.2.2.1,(f2 b hb).2.1,(f2 b hb).2.2.2.2.1,(f2 b hb).2.2.2.2.2⟩) (I3.fpOk (aG _) I5.free) qn
   ·refine thn (T.item (qb X N' scope (tU X.env.cells scope.names) hpL.objs.size fp { s₂ with heap:=hpL } (upd H2 s₂.heap.objs.size (.lst []))) rfl rfl rfl hc i [] s3 _ H3 _ I4 (stat fr3) st3 go) λr s4 zz=>?_;obtain⟨u,hr,h4⟩:=zz;subst hr;refine thn h4 λ_ s5 zz=>?_;obtain⟨x,H5,I5,r5,y5,st5,fr5⟩:=zz;have I5':=I5.pinned (stat fr5) (T.obj _ _ st5);have again:∀{H8:Hp} {s8:af} {σ8:St} {acc8:bA} {m':Nat},Inv (qb X N' scope (tU X.env.cells scope.names) hpL.objs.size fp { s₂ with heap:=hpL } (upd H2 s₂.heap.objs.size (.lst []))) ([]++BX fp s5.heap) σ8 H8 s8->σ8.drop k=(sy k cap σ).drop k->m'<n->W (i+1) m' acc8 H8->
      ∃m,m<n/\∃i acc H',Inv (qb X N' scope (tU X.env.cells scope.names) hpL.objs.size fp { s₂ with heap:=hpL } (upd H2 s₂.heap.objs.size (.lst []))) [] (sy k cap σ) H' s8/\tn i s8.heap/\(∀b∈fp,H' b=none)/\W i m acc H':=λ{H8 s8 σ8 acc8 m'} I8 hd8 hm8 w8=>by
     refine⟨m',hm8,i+1,acc8,H8,I8.unpinned.weak (IX.len.trans I8.len.symm) (λj v e=>?_),T.keep _ _ _ st5 λb hb o e=>(I8.pin (b,o) (bH _ (bH _ (ux hb e)))).1,λb hb=>?_,w8⟩
     ·have hj:=D5 e;have q:(σ8.drop k)[j - k]?=((sy k cap σ).drop k)[j - k]?:=by rw[hd8]
      rw[cW,cW,show k+(j - k)=j by omega]at q;rw[q];exact e
     ·obtain⟨o,e,d⟩:=T.obj _ _ st5 b hb;exact(I8.pin (b,o) (bH _ (bH _ (ux hb e)))).2.1
    refine bU ((body _ _ _ _ _).1 _ s5 _ H5 x u _ I5' r5 (step x H5 y5)) (λ_ s6 h6=>?_) λ_ _ f=>f.elim;obtain⟨σ6,H6,I6,hd6,q6⟩:=h6;refine bU ((body _ _ _ _ _).2.1 _ s6 σ6 H6 _ I6 q6) (λb s7 h7=>?_) λ_ _ f=>f.elim;obtain⟨H7,I7,q7⟩:=h7;cases b with
    |false=>rw[aj bp]at q7;rw[aj bp];obtain⟨m',hm',w7⟩:=q7;exact again I7 hd6 hm' w7
    |true=>rw[ai rfl]at q7;rw[ai rfl];refine bU ((body _ _ _ _ _).2.2 _ s7 σ6 H7 _ I7 q7) (λyv s8 h8=>?_) λ_ _ f=>f.elim;obtain⟨y,H8,I8,r8,acc',hp8,hl8,m',hm',w8⟩:=h8;refine bU (Ad (X:=qb X N' scope (tU X.env.cells scope.names) hpL.objs.size fp { s₂ with heap:=hpL } (upd H2 s₂.heap.objs.size (.lst []))) _ s8 σ6 H8 (.ref s₂.heap.objs.size) [y] (.ref s₂.heap.objs.size) [yv] (λ_ Hx=>Hx=upd H8 s₂.heap.objs.size (.lst (acc'++[y]))) I8 rfl (.cons r8 .nil) ⟨_,acc',y,rfl,rfl,hp8,hl8,rfl⟩) (λ_ s9 h9=>?_) λ_ _ f=>f.elim;obtain⟨_,H9,I9,_,e9⟩:=h9;subst e9;exact again I9 hd6 hm' w8
  ·have z:b≠s₂.heap.objs.size:=aX (hfpS b hb);rw[oo z];exact(f2 b hb).1
 exact codeAny_compStart_list loop (T.self _ 0 _ _ _ st4 loop)
theorem Pa{X:Cx}{k:Nat}{cap:List Nat}{g:TG}
  (hc:X.calm=true) (hi:PI X tg iter wi)
  (body:∀(cl:List (Str×Addr)) (C:Addr) (fp:List Addr) (s:af) (H:Hp),PG (qb X N' scope cl C fp s H) tg g/\PIf (qb X N' scope cl C fp s H) ifs tt/\PE (qb X N' scope cl C fp s H) elt te)
  (hkind:scope.kind=.function:=by rfl) (hcell:(scope.names.all λy=>y.2 != .cell)=true:=by rfl)
  (hloc:(scope.names.all λy=>y.2 != .local||scope.names.lookup y.1==some .local)=true:=by rfl)
  (hfree:(scope.names.all λy=>y.2 != .free||(X.env.kindOf y.1==some .cell||X.env.kindOf y.1==some .free))=true:=by rfl)
  (hlen:N'.length=k+cap.length:=by rfl) (hcap:(N'.drop k).map some=cap.map λj=>X.N[j]?:=by rfl)
  (hcf:((N'.drop k).all λx=>scope.names.lookup x==some .free)=true:=by rfl)
  (hs:∀x,foldedSetIterable iter X.env x=pure x:=by intro _;rfl):
  PE X (.ListComp elt [⟨tg,iter,ifs,0⟩] scope pos) (Ca wi g tt te k cap):=by
 intro pins s σ H Q I h;exact D6 hc hi body hkind hcell hloc hfree hlen hcap hcf hs I h λa C m u s4 H3 hn back fpC qn=>⟨m,hn,λh' hs'=>⟨.ref a,H3,back.turned (t':=s4.toks) (λb o hb e=>(hs'.2 b hb).trans e) fpC.1 fpC.2.1 fpC.2.2.2.1 fpC.2.2.2.2.1 fpC.2.2.2.2.2,rfl,qn⟩⟩
def Its(x:Str):It:=⟨λi _=>i<x.cps.size,λi H v H'=>H'=H/\∃c,x.cps[i]?=some c/\v=.str ⟨#[c]⟩,λi _=>i=x.cps.size⟩
theorem SE{s:af}{t:Tok}(hQ:Q () s):wpAny M A (letOwnedTupleGo tg (.ref it) (.str c t)) Q E s:=by unfold letOwnedTupleGo;cases tg<;>exact aD hQ
theorem Gb{K:aw}(it:Addr)(ty:String)(x:Str)(t:Tok)
  (hW:∀A:aQ,A.handled=none->Walks P w A it [it] [it] x.cps.size (SignAt x) (λi h=>h.IsStrIter it ty x t i))
  (hS:∀(A:aQ) (i:Nat) (s:af) (Q:ae->af->Prop) (E:ae->af->Prop),s.heap.IsStrIter it ty x t i->Q (.ref it) s->wpAny (model P w) A (pyIter (.ref it)) Q E s):
  Turn P w K tg (Its x) [it] it (λi h=>h.IsStrIter it ty x t i) where
 mem:=by simp
 obj:=λi h st b hb=>by
  have e:b=it:=by simpa using hb
  subst e;obtain⟨o,e,c,d⟩:=st;exact⟨o,e,λv z=>by rw[d]at z;cases z⟩
 keep:=λi h h' st k=>by obtain⟨o,e,r⟩:=st;exact⟨o,k it (by simp) o e,r⟩
 item:=by intro X hP hw hK hc i pins s σ H E I hf st hg;subst hP hw hK;obtain⟨f0,f1,f2,f3,f4,f5⟩:=hf it (by simp);refine(hW _ (I.ok.hd hc)).item i s _ _ hg st λv h' tk hv st' kk=>?_;obtain⟨c,t',hc',rfl⟩:=hv;have I1:Inv X pins σ H { s with heap:=h',toks:=tk }:=I.turned (λb o hb e=>kk b o (by simpa using hb) e) f0 f1 f3 f4 f5;exact⟨_,rfl,SE ⟨.str ⟨#[c]⟩,H,I1,⟨t',rfl⟩,⟨rfl,c,hc',rfl⟩,st',λb hb=>(hf b hb).1⟩⟩
 done:=by intro X hP hw hK hc i pins s σ H E I hf st hg;subst hP hw hK;obtain⟨f0,f1,f2,f3,f4,f5⟩:=hf it (by simp);have hg':i=x.cps.size:=hg;subst hg';exact(hW _ (I.ok.hd hc)).done s _ _ st λh' tk kk=>⟨rfl,I.turned (λb o hb e=>kk b o (by simpa using hb) e) f0 f1 f3 f4 f5⟩
 self:=hS
section
variable{X:Cx}{tg:Expr}
def Ww(tl:TE):TI:=λσ H R=>tl σ H λv H1=>∃x,v=.str x/\R (Its x) H1
theorem SF(hl:PE X l tl):PI X tg l (Ww tl):=by
 intro pins s σ H R I h;refine thn (hl pins s σ H _ I h) λv s1 zz=>?_;obtain⟨x,H1,I1,r1,q1⟩:=zz;obtain⟨z,e,q⟩:=q1;subst e;obtain⟨t,rfl⟩:=r1;have fp:∀b∈[s1.heap.objs.size],DH X pins H1 b:=λb hb=>by
  have e:b=s1.heap.objs.size:=by simpa using hb
  subst e;exact I1.fpOk (aG _) (I1.hok.fresh (aG _))
 cases ha:z.cps.all (· < 128)
 ·refine wpAny_pyIter_wide ha ⟨s1.heap.objs.size,[s1.heap.objs.size],_,_,H1,rfl,I1.kept (t':=s1.toks) λb o e=>aK _ e,Gb _ "str_iterator" z t (λA hA=>Walks.strWide hA _ z t) (λA i s Q E st hQ=>wpAny_pyIter_striter_wide st hQ),⟨_,bu _ rfl,rfl,rfl⟩,fp,q⟩
 ·refine wpAny_pyIter_ascii ha ⟨s1.heap.objs.size,[s1.heap.objs.size],_,_,H1,rfl,I1.kept (t':=s1.toks) λb o e=>aK _ e,Gb _ "str_ascii_iterator" z t (λA hA=>Walks.strAscii hA _ z t) (λA i s Q E st hQ=>wpAny_pyIter_striter_ascii st hQ),⟨_,bu _ rfl,rfl,rfl⟩,fp,q⟩
end
section
variable{X:Cx}
theorem KN:OpR X (compareOp .LtE) (λx y H Q=>∃i j,x=.str i/\y=.str j/\Q (.bl (!decide (j.cps.toList<i.cps.toList))) H):=by intro pins s σ H x y v u Q I rx ry h;obtain⟨i,j,rfl,rfl,q⟩:=h;obtain⟨t,rfl⟩:=rx;obtain⟨t',rfl⟩:=ry;exact PySem.P.le_str (px I q rfl)
theorem Mj(hc:X.calm=true):qr X (.builtin "all") (λxs H Q=>∃(p:Addr) (bs:List Bool),xs=[.ref p]/\SqL X.K H p (bs.map V.bl)/\Q (.bl (bs.all id)) H):=by
 intro pins s σ H xs us Q I r h;obtain⟨p,bs,rfl,hq,q⟩:=h;obtain⟨u,rfl,ru⟩:=vals1 r;cases ru;obtain⟨its,rv,pl,hz⟩:=I.list hq;have hlt:p<s.heap.objs.size:=by obtain⟨o,ho,_⟩:=pl.isList;exact aN ho
 have hl:bs.length=its.length:=by have:=rv.length;rw[ah]at this;exact this
 refine call_all_walk (fT pl.isList ⟨s.heap.objs.size,_,_,_,_,_,λi=>(bs[i]?).getD true,rfl,iy (show X.A.in1.handled=none from I.ok.hd hc) _ p (aX hlt) its.toArray,⟨⟨_,bu _ rfl,rfl,rfl⟩,?_⟩,?_,λh' tk hk=>?_⟩)
 ·exact pl.isList.at λo e=>aK _ e
 ·intro i v s' Q' E' hv hQ';have hv':its[i]?=some v:=by simpa using hv
  have hi:i<its.length:=(bQ.mp hv').1;have hb:(bs.map V.bl)[i]?=some (.bl (bs[i]'(by omega))):=by simp[show i<bs.length by omega]
  obtain⟨u,hu,ru⟩:=rv.get hb;rw[hv']at hu;cases hu;cases ru;refine cK ?_;have e:(bs[i]?).getD true=bs[i]'(by omega):=by simp[show i<bs.length by omega]
  rw[<-e];exact hQ'
 ·refine⟨.bl (bs.all id),H,?_,?_,q⟩
  ·exact I.kept (t':=tk) λb o e=>hk b o (by simp;exact aX (aN e)) (aK _ e)
  ·show Value.bool _=Value.bool _;congr 1;rw[bf,<- hl];rw[cM];simp only[bC,cq,id];constructor
   ·intro hh b hb;obtain⟨i,hi,rfl⟩:=jh.mp hb;have:=hh i hi;simpa [hi]using this
   ·intro hh i hi;simp only[aL hi,my];exact hh _ (cZ hi)
end
inductive Dq where
 |non|bl (b:Bool)|int (i:Int)|str (x:Str)|tup (ds:List Dq)|lst (ds:List Dq)
mutual
def Rep(K:aw)(H:Hp):Dq->V->Prop
 |.non,v=>v=.non
 |.bl b,v=>v=.bl b
 |.int i,v=>v=.int i
 |.str x,v=>v=.str x
 |.tup ds,v=>∃a xs,v=.ref a/\SqT K H a xs/\oh K H ds xs
 |.lst ds,v=>∃a xs,v=.ref a/\SqL K H a xs/\oh K H ds xs
def oh(K:aw)(H:Hp):List Dq->bA->Prop
 |[],xs=>xs=[]
 |d::ds,xs=>∃v r,xs=v::r/\Rep K H d v/\oh K H ds r
end
mutual
def eqD:Dq->Dq->Bool
 |.non,.non=>true
 |.bl a,.bl b=>a==b
 |.bl a,.int b=>(if a then 1 else 0)==b
 |.int a,.bl b=>a==(if b then 1 else 0)
 |.int a,.int b=>a==b
 |.str a,.str b=>a==b
 |.tup a,.tup b=>tV a b
 |.lst a,.lst b=>tV a b
 |_,_=>false
def tV:List Dq->List Dq->Bool
 |[],[]=>true
 |a::r,b::q=>eqD a b&&tV r q
 |_,_=>false
end
mutual
def dpt:Dq->Nat
 |.tup ds=>qo ds+1
 |.lst ds=>qo ds+1
 |_=>0
def qo:List Dq->Nat
 |[]=>0
 |d::r=>max (dpt d) (qo r)
end
mutual
theorem Gc:∀d:Dq,eqD d d=true
 |.non=>by unfold eqD;rfl
 |.bl b=>by unfold eqD;simp
 |.int i=>by unfold eqD;simp
 |.str x=>by unfold eqD;simp
 |.tup ds=>by unfold eqD;exact Ae ds
 |.lst ds=>by unfold eqD;exact Ae ds
theorem Ae:∀ds:List Dq,tV ds ds=true
 |[]=>by unfold tV;rfl
 |d::r=>by unfold tV;rw[Gc d,Ae r];rfl
end
theorem oi{K:aw}:∀{ds:List Dq} {xs:bA},oh K H ds xs->ds.length=xs.length
 |[],xs,h=>by unfold oh at h;subst h;rfl
 |d::ds,xs,h=>by unfold oh at h;obtain⟨v,r,rfl,_,h2⟩:=h;rw[aE,aE,oi h2]
def eAt(ds ds':List Dq)(j:Nat):Bool:=match ds[j]?,ds'[j]? with
 |some a,some b=>eqD a b
 |_,_=>true
theorem Cb:∀(ds ds':List Dq),tV ds ds'=true ↔ ds.length=ds'.length/\∀j,j<ds.length->eAt ds ds' j=true
 |[],[]=>by simp[tV]
 |[],b::q=>by simp[tV]
 |a::r,[]=>by simp[tV]
 |a::r,b::q=>by
  have ih:=Cb r q;unfold tV;rw[bo,ih,aE,aE];constructor
  ·rintro⟨h1,h2,h3⟩;refine⟨by omega,λj hj=>?_⟩;cases j with
   |zero=>exact h1
   |succ j=>exact h3 j (by omega)
  ·rintro⟨h1,h2⟩;exact⟨h2 0 (by omega),by omega,λj hj=>h2 (j+1) (by omega)⟩
theorem wa{ds ds':List Dq}{n:Nat}(hn:ds.length=n)(hm:ds'.length=m):((bz (min n m)).all (eAt ds ds')&&n==m)=tV ds ds':=by
 rw[cM,Cb,bo,bC];subst hn hm;constructor
 ·rintro⟨h1,h2⟩;have e:ds.length=ds'.length:=by simpa using h2
  exact⟨e,λj hj=>h1 j (cq.mpr (by omega))⟩
 ·rintro⟨e,h⟩;exact⟨λj hj=>h j (by have:=cq.mp hj;omega),by simpa using e⟩
theorem xu{ds ds':List Dq}{n:Nat}(hn:ds.length=n)(hm:ds'.length=n):(bz n).all (eAt ds ds')=tV ds ds':=by rw[<-wa hn hm];simp
theorem Cc{ds ds':List Dq}(h:ds.length≠ds'.length):tV ds ds'=false:=by
 cases e:tV ds ds' with
 |false=>rfl
 |true=>exact ao ((Cb ds ds').mp e).1 h
section
variable{X:Cx}{pins:cy}{σ:St}{H:Hp}{s:af}
theorem Rq(I:Inv X pins σ H s)(h:SqL X.K H a xs)(h':SqT X.K H a ys):False:=by obtain⟨its,_,p,_⟩:=I.list h;obtain⟨its',_,p',_⟩:=I.tuple h';exact SeqAt.ne_of_list_tuple p.isList (show s.heap.IsTuple a its'.toArray from p') rfl
mutual
theorem Cd(I:Inv X pins σ H s):∀(d d':Dq) (v:V),Rep X.K H d v->Rep X.K H d' v->eqD d d'=true
 |.non,d',v,h,h'=>by unfold Rep at h;subst h;cases d'<;>unfold Rep at h'<;>first|rfl|(exact nomatch h')|(obtain⟨_,_,e,_⟩:=h';exact nomatch e)
 |.bl b,d',v,h,h'=>by unfold Rep at h;subst h;cases d'<;>unfold Rep at h'<;>first|(obtain⟨_,_,e,_⟩:=h';cases e)|(cases h'<;>simp[eqD])
 |.int b,d',v,h,h'=>by unfold Rep at h;subst h;cases d'<;>unfold Rep at h'<;>first|(obtain⟨_,_,e,_⟩:=h';cases e)|(cases h'<;>simp[eqD])
 |.str b,d',v,h,h'=>by unfold Rep at h;subst h;cases d'<;>unfold Rep at h'<;>first|(obtain⟨_,_,e,_⟩:=h';cases e)|(cases h'<;>simp[eqD])
 |.tup ds,d',v,h,h'=>by
  unfold Rep at h;obtain⟨a,xs,rfl,hq,hr⟩:=h;cases d' with
  |tup ds'=>unfold Rep at h';obtain⟨a',xs',e,hq',hr'⟩:=h';cases e;have ex:=I.tuple_inj hq hq';subst ex;unfold eqD;exact Ag I ds ds' xs hr hr'
  |lst ds'=>unfold Rep at h';obtain⟨a',xs',e,hq',hr'⟩:=h';cases e;exact(Rq I hq' hq).elim
  |_=>unfold Rep at h';exact nomatch h'
 |.lst ds,d',v,h,h'=>by
  unfold Rep at h;obtain⟨a,xs,rfl,hq,hr⟩:=h;cases d' with
  |lst ds'=>unfold Rep at h';obtain⟨a',xs',e,hq',hr'⟩:=h';cases e;have ex:=I.list_inj hq hq';subst ex;unfold eqD;exact Ag I ds ds' xs hr hr'
  |tup ds'=>unfold Rep at h';obtain⟨a',xs',e,hq',hr'⟩:=h';cases e;exact(Rq I hq hq').elim
  |_=>unfold Rep at h';exact nomatch h'
theorem Ag(I:Inv X pins σ H s):∀(ds ds':List Dq) (xs:bA),oh X.K H ds xs->oh X.K H ds' xs->tV ds ds'=true
 |[],ds',xs,h,h'=>by
  unfold oh at h;subst h;cases ds' with
  |nil=>rfl
  |cons d r=>unfold oh at h';obtain⟨_,_,e,_⟩:=h';exact nomatch e
 |d::ds,ds',xs,h,h'=>by
  unfold oh at h;obtain⟨v,r,rfl,h1,h2⟩:=h;cases ds' with
  |nil=>unfold oh at h';exact nomatch h'
  |cons d' r'=>unfold oh at h';obtain⟨v',q,e,h1',h2'⟩:=h';cases e;unfold tV;rw[Cd I d d' v h1 h1',Ag I ds r' r h2 h2'];rfl
end
mutual
theorem Ml(I:Inv X pins σ H s):∀(d d':Dq) (x y:V) (u v:ae) (A:aQ),Rep X.K H d x->Rep X.K H d' y->RelV x u->RelV y v->A.units+dpt d+dpt d'<cLine->iu A s u v (eqD d d')
 |.tup ds,d',x,y,u,v,A,hx,hy,ru,rv,hu=>by
  unfold Rep at hx;obtain⟨a,xs,rfl,hq,hr⟩:=hx;cases ru;obtain⟨its,rx,p,_⟩:=I.tuple hq;have p:s.heap.IsTuple a its.toArray:=p;cases d' with
  |non=>unfold Rep at hy;subst hy;cases rv;exact SeqAt.EqAt.tuple_none p (by omega)
  |bl b=>unfold Rep at hy;subst hy;cases rv;exact SeqAt.EqAt.tuple_bool b p (by omega)
  |int b=>unfold Rep at hy;subst hy;obtain⟨t,rfl⟩:=rv;exact SeqAt.EqAt.tuple_int b t p (by omega)
  |str b=>unfold Rep at hy;subst hy;obtain⟨t,rfl⟩:=rv;exact SeqAt.EqAt.tuple_str b t p (by omega)
  |lst ds'=>unfold Rep at hy;obtain⟨b,ys,rfl,hq',hr'⟩:=hy;cases rv;obtain⟨its',ry,p',_⟩:=I.list hq';exact SeqAt.EqAt.tuple_list p p'.isList (by omega)
  |tup ds'=>
   have hy0:=hy;unfold Rep at hy;obtain⟨b,ys,rfl,hq',hr'⟩:=hy;cases rv;obtain⟨its',ry,p',_⟩:=I.tuple hq';have p':s.heap.IsTuple b its'.toArray:=p';by_cases hab:a=b
   ·subst hab;have e:eqD (.tup ds) (.tup ds')=true:=Cd I _ _ (.ref a) (by unfold Rep;exact⟨a,xs,rfl,hq,hr⟩) hy0;rw[e];exact f6 _
   ·have hd:dpt (.tup ds)=qo ds+1:=by rw[dpt]
    have hd':dpt (.tup ds')=qo ds'+1:=by rw[dpt]
    have q:=SeqAt.RcAt.tuples (A:=A) (e:=eAt ds ds') p p' (by omega) λj h1 h2=>by have z:=wb I ds ds' xs ys its its' A.in1 hr hr' rx ry (by show A.units+1+qo ds+qo ds'<cLine;omega) j (by simpa using h1) (by simpa using h2);simpa using z
    rw[wa (by rw[oi hr,rx.length];simp) (by rw[oi hr',ry.length];simp)]at q;exact jw hab (by unfold eqD;exact q)
 |.lst ds,d',x,y,u,v,A,hx,hy,ru,rv,hu=>by
  unfold Rep at hx;obtain⟨a,xs,rfl,hq,hr⟩:=hx;cases ru;obtain⟨its,rx,p,_⟩:=I.list hq;have p:=p.isList;cases d' with
  |non=>unfold Rep at hy;subst hy;cases rv;exact SeqAt.EqAt.list_none p (by omega)
  |bl b=>unfold Rep at hy;subst hy;cases rv;exact SeqAt.EqAt.list_bool b p (by omega)
  |int b=>unfold Rep at hy;subst hy;obtain⟨t,rfl⟩:=rv;exact SeqAt.EqAt.list_int b t p (by omega)
  |str b=>unfold Rep at hy;subst hy;obtain⟨t,rfl⟩:=rv;exact SeqAt.EqAt.list_str b t p (by omega)
  |tup ds'=>unfold Rep at hy;obtain⟨b,ys,rfl,hq',hr'⟩:=hy;cases rv;obtain⟨its',ry,p',_⟩:=I.tuple hq';exact SeqAt.EqAt.list_tuple p (show s.heap.IsTuple b its'.toArray from p') (by omega)
  |lst ds'=>
   have hy0:=hy;unfold Rep at hy;obtain⟨b,ys,rfl,hq',hr'⟩:=hy;cases rv;obtain⟨its',ry,p',_⟩:=I.list hq';have p':=p'.isList;by_cases hab:a=b
   ·subst hab;have e:eqD (.lst ds) (.lst ds')=true:=Cd I _ _ (.ref a) (by unfold Rep;exact⟨a,xs,rfl,hq,hr⟩) hy0;rw[e];exact f6 _
   ·have hd:dpt (.lst ds)=qo ds+1:=by rw[dpt]
    have hd':dpt (.lst ds')=qo ds'+1:=by rw[dpt]
    by_cases hl:its.length=its'.length
    ·have q:=SeqAt.RcAt.lists (A:=A) (e:=eAt ds ds') p p' (by simpa using hl) (by omega) λj h1 h2=>by have z:=wb I ds ds' xs ys its its' A.in1 hr hr' rx ry (by show A.units+1+qo ds+qo ds'<cLine;omega) j (by simpa using h1) (by simpa using h2);simpa using z
     rw[xu (by rw[oi hr,rx.length];simp) (by rw[oi hr',ry.length,<- hl];simp)]at q;exact jw hab (by unfold eqD;exact q)
    ·have e:eqD (.lst ds) (.lst ds')=false:=by unfold eqD;exact Cc (by rw[oi hr,oi hr',rx.length,ry.length];exact hl)
     rw[e];exact jw hab (SeqAt.RcAt.lists_lengths p p' (by simpa using hl) (by omega))
 |.non,d',x,y,u,v,A,hx,hy,ru,rv,hu=>by
  unfold Rep at hx;subst hx;cases d' with
  |tup ds'=>unfold Rep at hy;obtain⟨b,ys,rfl,hq',hr'⟩:=hy;cases rv;cases ru;obtain⟨its',ry,p',_⟩:=I.tuple hq';exact SeqAt.EqAt.none_tuple (show s.heap.IsTuple b its'.toArray from p') (by omega)
  |lst ds'=>unfold Rep at hy;obtain⟨b,ys,rfl,hq',hr'⟩:=hy;cases rv;cases ru;obtain⟨its',ry,p',_⟩:=I.list hq';exact SeqAt.EqAt.none_list p'.isList (by omega)
  |_=>unfold Rep at hy;subst hy;exact B4 ru rv rfl rfl
 |.bl c,d',x,y,u,v,A,hx,hy,ru,rv,hu=>by
  unfold Rep at hx;subst hx;cases d' with
  |tup ds'=>unfold Rep at hy;obtain⟨b,ys,rfl,hq',hr'⟩:=hy;cases rv;cases ru;obtain⟨its',ry,p',_⟩:=I.tuple hq';exact SeqAt.EqAt.bool_tuple c (show s.heap.IsTuple b its'.toArray from p') (by omega)
  |lst ds'=>unfold Rep at hy;obtain⟨b,ys,rfl,hq',hr'⟩:=hy;cases rv;cases ru;obtain⟨its',ry,p',_⟩:=I.list hq';exact SeqAt.EqAt.bool_list c p'.isList (by omega)
  |_=>unfold Rep at hy;subst hy;exact B4 ru rv rfl rfl
 |.int c,d',x,y,u,v,A,hx,hy,ru,rv,hu=>by
  unfold Rep at hx;subst hx;cases d' with
  |tup ds'=>unfold Rep at hy;obtain⟨b,ys,rfl,hq',hr'⟩:=hy;cases rv;obtain⟨t,rfl⟩:=ru;obtain⟨its',ry,p',_⟩:=I.tuple hq';exact SeqAt.EqAt.int_tuple c t (show s.heap.IsTuple b its'.toArray from p') (by omega)
  |lst ds'=>unfold Rep at hy;obtain⟨b,ys,rfl,hq',hr'⟩:=hy;cases rv;obtain⟨t,rfl⟩:=ru;obtain⟨its',ry,p',_⟩:=I.list hq';exact SeqAt.EqAt.int_list c t p'.isList (by omega)
  |_=>unfold Rep at hy;subst hy;exact B4 ru rv rfl rfl
 |.str c,d',x,y,u,v,A,hx,hy,ru,rv,hu=>by
  unfold Rep at hx;subst hx;cases d' with
  |tup ds'=>unfold Rep at hy;obtain⟨b,ys,rfl,hq',hr'⟩:=hy;cases rv;obtain⟨t,rfl⟩:=ru;obtain⟨its',ry,p',_⟩:=I.tuple hq';exact SeqAt.EqAt.str_tuple c t (show s.heap.IsTuple b its'.toArray from p') (by omega)
  |lst ds'=>unfold Rep at hy;obtain⟨b,ys,rfl,hq',hr'⟩:=hy;cases rv;obtain⟨t,rfl⟩:=ru;obtain⟨its',ry,p',_⟩:=I.list hq';exact SeqAt.EqAt.str_list c t p'.isList (by omega)
  |_=>unfold Rep at hy;subst hy;exact B4 ru rv rfl rfl
theorem wb(I:Inv X pins σ H s):∀(ds ds':List Dq) (xs ys:bA) (us vs:List ae) (A:aQ),oh X.K H ds xs->oh X.K H ds' ys->Vals xs us->Vals ys vs->A.units+qo ds+qo ds'<cLine->
  ∀(j:Nat) (h1:j<us.length) (h2:j<vs.length),iu A s us[j] vs[j] (eAt ds ds' j)
 |[],ds',xs,ys,us,vs,A,hx,hy,ru,rv,hu,j,h1,h2=>by
  have:=oi hx;have:=ru.length;simp only[cN]at *
  omega
 |d::ds,[],xs,ys,us,vs,A,hx,hy,ru,rv,hu,j,h1,h2=>by
  have:=oi hy;have:=rv.length;simp only[cN]at *
  omega
 |d::ds,d'::ds',xs,ys,us,vs,A,hx,hy,ru,rv,hu,j,h1,h2=>by
  unfold oh at hx hy;obtain⟨x,xr,rfl,hx1,hx2⟩:=hx;obtain⟨y,yr,rfl,hy1,hy2⟩:=hy;have e1:qo (d::ds)=max (dpt d) (qo ds):=by rw[qo]
  have e2:qo (d'::ds')=max (dpt d') (qo ds'):=by rw[qo]
  cases ru with
  |cons r1 r2=>
   cases rv with
   |cons q1 q2=>
    cases j with
    |zero=>exact Ml I d d' x y _ _ A hx1 hy1 r1 q1 (by omega)
    |succ j=>exact wb I ds ds' xr yr _ _ A hx2 hy2 r2 q2 (by omega) j (by simpa using h1) (by simpa using h2)
end
def D7:Dq->Dq->Bool
 |.tup _,.tup _=>true
 |.lst _,.lst _=>true
 |_,_=>false
def HZ(K:aw)(neg:Bool):R2:=λx y H Q=>∃d d',Rep K H d x/\Rep K H d' y/\D7 d d'=true/\dpt d<=20/\dpt d'<=20/\Q (.bl (if neg then !eqD d d' else eqD d d')) H
theorem SG(hu:X.A.units+64<cLine):OpR X (compareOp .Eq) (HZ X.K false):=by
 intro pins s σ H x y u v Q I ru rv h;obtain⟨d,d',hx,hy,hd,h1,h2,q⟩:=h;cases d with
 |tup ds=>
  cases d' with
  |tup ds'=>
   have hd1:dpt (.tup ds)=qo ds+1:=by rw[dpt]
   have hd2:dpt (.tup ds')=qo ds'+1:=by rw[dpt]
   unfold Rep at hx hy;obtain⟨a,xs,rfl,hq,hr⟩:=hx;obtain⟨b,ys,rfl,hq',hr'⟩:=hy;cases ru;cases rv;obtain⟨its,rx,p,_⟩:=I.tuple hq;obtain⟨its',ry,p',_⟩:=I.tuple hq';refine SeqAt.eq_tupleAt (e:=eAt ds ds') (show s.heap.IsTuple a its.toArray from p) (show s.heap.IsTuple b its'.toArray from p') (by omega) (λj h1 h2=>?_) ?_
   ·have z:=wb I ds ds' xs ys its its' X.A.in1 hr hr' rx ry (by show X.A.units+1+qo ds+qo ds'<cLine;omega) j (by simpa using h1) (by simpa using h2);simpa using z
   ·rw[wa (by rw[oi hr,rx.length];simp) (by rw[oi hr',ry.length];simp)];unfold eqD at q;exact px I q rfl
  |_=>exact nomatch hd
 |lst ds=>
  cases d' with
  |lst ds'=>
   have hd1:dpt (.lst ds)=qo ds+1:=by rw[dpt]
   have hd2:dpt (.lst ds')=qo ds'+1:=by rw[dpt]
   unfold Rep at hx hy;obtain⟨a,xs,rfl,hq,hr⟩:=hx;obtain⟨b,ys,rfl,hq',hr'⟩:=hy;cases ru;cases rv;obtain⟨its,rx,p,_⟩:=I.list hq;obtain⟨its',ry,p',_⟩:=I.list hq';by_cases hl:its.length=its'.length
   ·refine SeqAt.eq_listAt (e:=eAt ds ds') p.isList p'.isList (by simpa using hl) (by omega) (λj h1 h2=>?_) ?_
    ·have z:=wb I ds ds' xs ys its its' X.A.in1 hr hr' rx ry (by show X.A.units+1+qo ds+qo ds'<cLine;omega) j (by simpa using h1) (by simpa using h2);simpa using z
    ·rw[xu (by rw[oi hr,rx.length];simp) (by rw[oi hr',ry.length,<- hl];simp)];unfold eqD at q;exact px I q rfl
   ·refine SeqAt.eq_list_lengthsAt p.isList p'.isList (by simpa using hl) (by omega) ?_;have e:tV ds ds'=false:=Cc (by rw[oi hr,oi hr',rx.length,ry.length];exact hl);unfold eqD at q;rw[e]at q;exact px I q rfl
  |_=>exact nomatch hd
 |_=>exact nomatch hd
theorem SH(hu:X.A.units+64<cLine):OpR X (compareOp .NotEq) (HZ X.K true):=by
 intro pins s σ H x y u v Q I ru rv h;obtain⟨d,d',hx,hy,hd,h1,h2,q⟩:=h;cases d with
 |tup ds=>
  cases d' with
  |tup ds'=>
   have hd1:dpt (.tup ds)=qo ds+1:=by rw[dpt]
   have hd2:dpt (.tup ds')=qo ds'+1:=by rw[dpt]
   unfold Rep at hx hy;obtain⟨a,xs,rfl,hq,hr⟩:=hx;obtain⟨b,ys,rfl,hq',hr'⟩:=hy;cases ru;cases rv;obtain⟨its,rx,p,_⟩:=I.tuple hq;obtain⟨its',ry,p',_⟩:=I.tuple hq';have w:=SeqAt.RcNeAt.tuples (A:=X.A) (e:=eAt ds ds') (show s.heap.IsTuple a its.toArray from p) (show s.heap.IsTuple b its'.toArray from p') (by omega) (λj h1 h2=>by
    have z:=wb I ds ds' xs ys its its' X.A.in1 hr hr' rx ry (by show X.A.units+1+qo ds+qo ds'<cLine;omega) j (by simpa using h1) (by simpa using h2);simpa using z)
   rw[wa (by rw[oi hr,rx.length];simp) (by rw[oi hr',ry.length];simp)]at w;unfold eqD at q;exact w X.prog X.w X.xe _ (px I q rfl)
  |_=>exact nomatch hd
 |lst ds=>
  cases d' with
  |lst ds'=>
   have hd1:dpt (.lst ds)=qo ds+1:=by rw[dpt]
   have hd2:dpt (.lst ds')=qo ds'+1:=by rw[dpt]
   unfold Rep at hx hy;obtain⟨a,xs,rfl,hq,hr⟩:=hx;obtain⟨b,ys,rfl,hq',hr'⟩:=hy;cases ru;cases rv;obtain⟨its,rx,p,_⟩:=I.list hq;obtain⟨its',ry,p',_⟩:=I.list hq';by_cases hl:its.length=its'.length
   ·have w:=SeqAt.RcNeAt.lists (A:=X.A) (e:=eAt ds ds') p.isList p'.isList (by simpa using hl) (by omega) (λj h1 h2=>by
     have z:=wb I ds ds' xs ys its its' X.A.in1 hr hr' rx ry (by show X.A.units+1+qo ds+qo ds'<cLine;omega) j (by simpa using h1) (by simpa using h2);simpa using z)
    rw[xu (by rw[oi hr,rx.length];simp) (by rw[oi hr',ry.length,<- hl];simp)]at w;unfold eqD at q;exact w X.prog X.w X.xe _ (px I q rfl)
   ·have e:tV ds ds'=false:=Cc (by rw[oi hr,oi hr',rx.length,ry.length];exact hl);unfold eqD at q;rw[e]at q;exact SeqAt.RcNeAt.lists_lengths p.isList p'.isList (by simpa using hl) (by omega) X.prog X.w X.xe _ (px I q rfl)
  |_=>exact nomatch hd
 |_=>exact nomatch hd
end
theorem D8{K:aw}:∀l:aB,oh K H (l.map Dq.str) (l.map V.str)
 |[]=>by rw[bI,bI];unfold oh;rfl
 |x::r=>by rw[ay,ay];unfold oh;exact⟨_,_,rfl,(by unfold Rep;rfl),D8 r⟩
theorem yi:∀l:aB,qo (l.map Dq.str)=0
 |[]=>by rw[bI,qo]
 |x::r=>by rw[ay];unfold qo;rw[yi r];unfold dpt;rfl
inductive qh:List Expr->bA->Prop
 |nil:qh [] []
 |cons {x:Str} {j:Nat} {pos:Pos} {es:List Expr} {vs:bA} (h:qh es vs):qh (.Constant (.str x) j pos::es) (.str x::vs)
theorem uB{n:Nat}(h:n<=1000):n<=sizeLine:=fm (yh h)
theorem oB.new(x:oB H H1)(hp:H1 p=none)(o:HO):oB H (upd H1 p o):=λb u e=>by have z:=x b u e;rw[oo (ra z hp)];exact z
structure KO(K:aw)(x qual:Str)(st:Stmt)(f:Addr)(fd:bW)(T:Addr):Prop where
 ex:∃(oc:ae) (od:Option Addr) (kV doc pm:ae) (an:Option Addr) (cdv ct:ae) (osl:Array (Option ae)),
  fd=dq x qual (sv st) (pf st) (oJ st) (.ref T) kV doc pm an cdv ct/\K.lookup f=some ⟨oc,od,.func fd,osl⟩/\fz K cdv qual=true
 kp:c7 K (.ref f)=true
section
variable{P:aS}{w:aI}{K:aw}{mg:Str->Option ae}{base:Heap}
theorem KO.ok{st:Stmt}{k:Nat}(F:KO K x qual st f fd T)(S:p5 N ps (oJ st))(len:∀vs H Q E,sp vs H Q E->vs.length=ps.length)
  (hbody:∀(cdv:ae) (A:aQ) (outer:List Env) (s:af) (H:Hp) (vs:bA) (Q:VK) (E:XK),qa k (A.deeper (envOfC qual (oJ st) s.heap.objs.size f cdv))->sp vs H Q E->
   ∃t,PSs (F0 CX0 P w K mg base N qual (oJ st) f cdv A outer s H E).nox (pf st) t/\t { nx:=λ_ H'=>Q .non H',rt:=Q } (L2.start N vs) H):su P w K mg base CX0 (k+1) f fd ps sp:=by
 obtain⟨oc,od,kV,doc,pm,an,cdv,ct,osl,rfl,lk,hcd⟩:=F.ex;refine Rl lk hcd S len λA outer s H vs Q E hr hsp=>?_;obtain⟨t,h,q⟩:=hbody cdv A outer s H vs Q E hr hsp;exact⟨t,h.nox,q⟩
end
theorem KO.binds{K:aw}{st:Stmt}{ps:aB}{ds:List ae}{n:Nat}(F:KO K x qual st f fd T)(ho:K.lookup T=some o)(hs:o.data=.seq items n)
  (h:∀(kV doc pm:ae) (an:Option Addr) (cdv ct:ae) (us:List ae),us.length=ps.length - ds.length->∃k,bindArgs (dq x qual (sv st) (pf st) (oJ st) (.ref T) kV doc pm an cdv ct) ⟨us,[]⟩=seqItems? (.ref T)>>=k/\k (some items)=pure (ps.zip (us++ds))):Binds K fd ps ds:=by
 obtain⟨oc,od,kV,doc,pm,an,cdv,ct,osl,rfl,lk,hcd⟩:=F.ex;intro s us KX hl;obtain⟨k,h1,h2⟩:=h kV doc pm an cdv ct us (by rw[aA]at hl;omega);exact BindsTo.of_defaults (k:=k) rfl (KX _ _ ho) hs h1 h2
section
variable{X:Cx}
theorem Ia:OpR X (binaryOp .Mult) (λx y H Q=>∃z n,x=.str z/\y=.int n/\MulOk z n/\Q (.str (gq z n)) H):=by intro pins s σ H x y v u Q I rx ry h;obtain⟨z,n,rfl,rfl,hm,q⟩:=h;obtain⟨t,rfl⟩:=rx;obtain⟨t',rfl⟩:=ry;exact SB.mul hm λt2 k=>⟨.str _,H,I.tok _,⟨t2,rfl⟩,q⟩
end
section
variable{X:Cx}(K:aw)
theorem Mm(hK:X.K=K:=by rfl):IxR X (OZ K):=by subst hK;exact Jx
theorem Gd(hl:PE X l tl)(hK:X.K=K:=by rfl):PI X tg l (LQ K tl):=by subst hK;exact OL hl
theorem Pb(hl:PE X l tl)(hK:X.K=K:=by rfl):PI X tg l (Sb K tl):=by subst hK;exact Sd hl
theorem Pc{k:Nat}{t:TGs}{n:Nat}(hc:X.calm=true)(h:PGs X es t)(hn:(assignEach es X.env).length=n:=by rfl)(hst:(assignEach es X.env).findIdx? (·.1)=none:=by rfl)(hK:X.K=K:=by rfl):PG X (.Tuple es k pos) (R7 K n t):=by subst hK;exact R8 hc h hn hst
variable{o e:Expr}{es:List Expr}{to:TE}{t:TA}{name:Str}{apos cpos:Pos}{T id:String}{r:V->bA->Hp->VK->Prop}
theorem Mn(pa:kh T)(slot:Slot T name id)(hty:typeOf (.builtin id)=pure (.type "method_descriptor"))(hm:MtR X id r)(ho:PE X o to)(ha:PA X (e::es) t)
  (hbase:attributeBase o name X.env (eval o X.env)=eval o X.env:=by rfl)
  (hfew:((backTo cpos (starEach (e::es) X.env)).all (λx=>!x.1)&&(backToKw cpos (keywordEach [] X.env)).all (λx=>x.1.isSome)
   && decide ((e::es).length+([]:List dO).length+(if ([]:List dO).isEmpty then 0 else 1)<30))=true:=by rfl)
  (hline:(apos.endLine==cpos.line)=true:=by rfl) (hs:starEach (e::es) X.env=(false,eval e X.env)::starEach es X.env:=by rfl) (hplain:(backTo cpos (starEach es X.env)).any (·.1)=false:=by rfl) (hK:X.K=K:=by rfl):
  PE X (.Call (.Attribute o name apos) (e::es) [] cpos) (tBM K T r to t):=by subst hK;exact Ws pa slot hty hm ho ha hbase hfew hline hs hplain
end
end L3
namespace L2
open PySem PySem.Spec PyProof.Rows
section
variable{X:Cx}{pins:cy}{σ:St}{H:Hp}{s:af}
theorem vM{v:HO}(e:H a=some u)(q:H c=some v)(d:u≠v)(n:HO):upd H a n c=some v:=by rw[oo (λz=>by subst z;rw[e]at q;exact d (cf q))];exact q
theorem Inv.freeze(I:Inv X pins σ H s)(e:H a=some (.dK kvs)):∃o,Inv X pins σ (upd H a (.frz o (.dK kvs))) s:=by
 obtain⟨z,y,vs,r,ob,es,ep,e1,c⟩:=(show pI X.prog X.w H s.heap a (.dK kvs) from I.hok a _ e);refine⟨ob,?_⟩;have I':=I.step (H':=upd H a (.frz ob (.dK kvs))) (h':=s.heap) (g':=s.gens) (d':=s.drawn) (t':=s.toks) (ch:=[]) (λ_ z=>nomatch z) (λb o _ _ _ q _=>q) (λb o _ _ _ q _=>⟨o.slots,q⟩)
  (λb o _ _ n=>by rw[oo (λz=>by subst z;rw[e]at n;cases n)];exact n) (λb o _ q=>⟨o,q⟩) (λb xs q=>vM e q (λz=>nomatch z) _) (λb o u q=>vM e q (λz=>nomatch z) _)
  (λb ps q=>⟨#[],by rw[vM e q (λz=>nomatch z) _];simp⟩) (λm q=>q) ?_ I.bare
 ·obtain⟨h,g,d,t,os⟩:=s;exact I'
 ·intro b u q;have st:∀{b:Addr} {u:HO},pI X.prog X.w H s.heap b u->pI X.prog X.w (upd H a (.frz ob (.dK kvs))) s.heap b u:=λ{b u} x=>x.stay (λ_ _ _ q=>q) (λc q=>vM e q (λz=>nomatch z) _) λc xs q=>vM e q (λz=>nomatch z) _
  by_cases hb:b=a
  ·subst hb;rw[om]at q;cases q;exact⟨e1,st (I.hok b _ e)⟩
  ·rw[oo hb]at q;exact st (I.hok b u q)
theorem PE.ghost{t:TE}(h:PE X e t):PE X e (λσ H Q=>t σ H λx H1=>Q x H1\/∃a kvs,H1 a=some (.dK kvs)/\∀o,Q x (upd H1 a (.frz o (.dK kvs)))):=λpins s σ H Q I hq=>
 thn (h pins s σ H _ I hq) λu s1 ⟨x,H1,I1,r1,q1⟩=>by
  rcases q1 with q|⟨a,kvs,e,q⟩
  ·exact⟨x,H1,I1,r1,q⟩
  ·obtain⟨o,I2⟩:=I1.freeze e;exact⟨x,_,I2,r1,q o⟩
end
end L2
namespace L4
open PySem PySem.Spec PyProof.Rows L2 L3
abbrev St:=L2.St
inductive D where
 |non|bl (b:Bool)|int (i:Int)|str (x:Str)
 |tup (ds:List D)|lst (ds:List D)
 |fzl (ds:List D)
 |obj (c:Nat) (ns:aB) (ds:List D)
 |dic (ks:List Key) (ds:List D)
abbrev az:=List D
structure Bg where
 K:aw
 ca:Nat->Addr
mutual
def Rep(G:Bg)(H:Hp):D->V->Prop
 |.non,v=>v=.non
 |.bl b,v=>v=.bl b
 |.int i,v=>v=.int i
 |.str x,v=>v=.str x
 |.tup ds,v=>∃a xs,v=.ref a/\SqT G.K H a xs/\oh G H ds xs
 |.lst ds,v=>∃a xs,v=.ref a/\H a=some (.lst xs)/\oh G H ds xs
 |.fzl ds,v=>∃a xs,v=.ref a/\SqL G.K H a xs/\oh G H ds xs
 |.obj c ns ds,v=>∃a dx xs,v=.ref a/\H a=some (.ins (G.ca c) dx (ns.zip xs))/\ns.length=xs.length/\oh G H ds xs
 |.dic ks ds,v=>∃a o xs,v=.ref a/\H a=some (.frz o (.dK (ks.zip xs)))/\ks.length=xs.length/\oh G H ds xs
def oh(G:Bg)(H:Hp):az->bA->Prop
 |[],xs=>xs=[]
 |d::ds,xs=>∃v r,xs=v::r/\Rep G H d v/\oh G H ds r
end
theorem SqT.mono{K:aw}(e:oB H H')(h:SqT K H a xs):SqT K H' a xs:=by
 rcases h with (h|⟨o,h⟩)|h
 ·exact .inl (.inl (e _ _ h))
 ·exact .inl (.inr ⟨o,e _ _ h⟩)
 ·exact .inr h
mutual
theorem Rep.mono(e:oB H H'):∀(d:D) (v:V),Rep G H d v->Rep G H' d v
 |.non,v,h=>by unfold Rep at h ⊢;exact h
 |.bl b,v,h=>by unfold Rep at h ⊢;exact h
 |.int i,v,h=>by unfold Rep at h ⊢;exact h
 |.str x,v,h=>by unfold Rep at h ⊢;exact h
 |.tup ds,v,h=>by unfold Rep at h ⊢;obtain⟨a,xs,rfl,h1,h2⟩:=h;exact⟨a,xs,rfl,SqT.mono e h1,oh.mono e ds xs h2⟩
 |.lst ds,v,h=>by unfold Rep at h ⊢;obtain⟨a,xs,rfl,h1,h2⟩:=h;exact⟨a,xs,rfl,e _ _ h1,oh.mono e ds xs h2⟩
 |.fzl ds,v,h=>by unfold Rep at h ⊢;obtain⟨a,xs,rfl,h1,h2⟩:=h;exact⟨a,xs,rfl,e.seq h1,oh.mono e ds xs h2⟩
 |.obj c ns ds,v,h=>by unfold Rep at h ⊢;obtain⟨a,dx,xs,rfl,h1,h2,h3⟩:=h;exact⟨a,dx,xs,rfl,e _ _ h1,h2,oh.mono e ds xs h3⟩
 |.dic ks ds,v,h=>by unfold Rep at h ⊢;obtain⟨a,o,xs,rfl,h1,h2,h3⟩:=h;exact⟨a,o,xs,rfl,e _ _ h1,h2,oh.mono e ds xs h3⟩
theorem oh.mono(e:oB H H'):∀(ds:az) (xs:bA),oh G H ds xs->oh G H' ds xs
 |[],xs,h=>by unfold oh at h ⊢;exact h
 |d::ds,xs,h=>by unfold oh at h ⊢;obtain⟨v,r,rfl,h1,h2⟩:=h;exact⟨v,r,rfl,Rep.mono e d v h1,oh.mono e ds r h2⟩
end
section
variable{G:Bg}{H:Hp}
theorem oZ:oh G H [] []:=by unfold oh;rfl
theorem oW{v:V}(h:Rep G H d v)(r:oh G H ds xs):oh G H (d::ds) (v::xs):=by unfold oh;exact⟨v,xs,rfl,h,r⟩
theorem oi:∀{ds:az} {xs:bA},oh G H ds xs->ds.length=xs.length
 |[],xs,h=>by unfold oh at h;subst h;rfl
 |d::ds,xs,h=>by unfold oh at h;obtain⟨v,r,rfl,_,h2⟩:=h;rw[aE,aE,oi h2]
theorem qJ:∀{ds es:az} {xs ys:bA},oh G H ds xs->oh G H es ys->oh G H (ds++es) (xs++ys)
 |[],es,xs,ys,h,h'=>by unfold oh at h;subst h;exact h'
 |d::ds,es,xs,ys,h,h'=>by unfold oh at h;obtain⟨v,r,rfl,h1,h2⟩:=h;exact oW h1 (qJ h2 h')
theorem qj:∀{ds:az} {xs:bA} {i:Nat} {d:D},oh G H ds xs->ds[i]?=some d->∃v,xs[i]?=some v/\Rep G H d v
 |[],xs,i,d,h,e=>by simp at e
 |d'::ds,xs,i,d,h,e=>by
  unfold oh at h;obtain⟨v,r,rfl,h1,h2⟩:=h;cases i with
  |zero=>simp at e;subst e;exact⟨v,rfl,h1⟩
  |succ i=>simpa using qj (i:=i) (d:=d) h2 (by simpa using e)
theorem D9:∀{ds:az} {xs:bA} (n:Nat),oh G H ds xs->oh G H (ds.drop n) (xs.drop n)
 |ds,xs,0,h=>h
 |[],xs,n+1,h=>by unfold oh at h;subst h;exact oZ
 |d::ds,xs,n+1,h=>by unfold oh at h;obtain⟨v,r,rfl,h1,h2⟩:=h;exact D9 n h2
theorem Ea:∀{ds:az} {xs:bA} (n:Nat),oh G H ds xs->oh G H (ds.take n) (xs.take n)
 |ds,xs,0,h=>oZ
 |[],xs,n+1,h=>by unfold oh at h;subst h;exact oZ
 |d::ds,xs,n+1,h=>by unfold oh at h;obtain⟨v,r,rfl,h1,h2⟩:=h;exact oW h1 (Ea n h2)
theorem yj(h:SqT G.K H a xs)(r:oh G H ds xs):Rep G H (.tup ds) (.ref a):=by unfold Rep;exact⟨a,xs,rfl,h,r⟩
theorem uX(h:H a=some (.lst xs))(r:oh G H ds xs):Rep G H (.lst ds) (.ref a):=by unfold Rep;exact⟨a,xs,rfl,h,r⟩
theorem qT(i:Int):Rep G H (.int i) (.int i):=by unfold Rep;rfl
theorem rb(i:Bool):Rep G H (.bl i) (.bl i):=by unfold Rep;rfl
theorem wc(i:Str):Rep G H (.str i) (.str i):=by unfold Rep;rfl
theorem zl:Rep G H .non .non:=by unfold Rep;rfl
end
inductive Sl where
 |un
 |im (d:D)
 |ls (ds:az)
 |pm (ds:az)
 |dk (ks:List Key) (ds:az)
 |ob (c:Nat) (ns:aB) (ds:az)
abbrev aZ:=List Sl
def Sl.own:Sl->Bool
 |.ls _=>true
 |.pm _=>true
 |.dk _ _=>true
 |.ob _ _ _=>true
 |_=>false
structure Fr where
 B0:Hp
 B:Hp
 A:List Addr
def yS(G:Bg)(F:Fr)(H0 H:Hp)(o:Option V):Sl->Prop
 |.un=>True
 |.im d=>∃v,o=some v/\Rep G H0 d v
 |.ls ds=>∃a xs,o=some (.ref a)/\H a=some (.lst xs)/\H0 a=none/\F.B a=none/\oh G H0 ds xs
 |.pm ds=>∃a xs,o=some (.ref a)/\H a=some (.lst xs)/\H0 a=none/\a∈F.A/\oh G H0 ds xs
 |.dk ks ds=>∃a xs,o=some (.ref a)/\H a=some (.dK (ks.zip xs))/\H0 a=none/\F.B a=none/\ks.length=xs.length/\oh G H0 ds xs
 |.ob c ns ds=>∃a dx xs,o=some (.ref a)/\H a=some (.ins (G.ca c) dx (ns.zip xs))/\H0 a=none/\a∈F.A/\ns.length=xs.length/\oh G H0 ds xs
structure oI(G:Bg)(F:Fr)(σ:St)(ρ:aZ)(H0 H:Hp):Prop where
 sub:oB H0 H
 g0:oB F.B0 H0
 keep:∀b o,F.B b=some o->b∉F.A->H b=some o
 fr:∀b o,H0 b=some o->F.B0 b=some o\/F.B b=none
 am:∀a∈F.A,∃o,H a=some o
 len:σ.length=ρ.length
 sl:∀(i:Nat) (s:Sl),ρ[i]?=some s->yS G F H0 H (σ[i]?).join s
 ap:∀(i j:Nat) (s t:Sl) (a:Addr),i≠j->ρ[i]?=some s->ρ[j]?=some t->s.own=true->t.own=true->(σ[i]?).join=some (.ref a)->(σ[j]?).join=some (.ref a)->False
theorem yS.at{s:Sl}(h:yS G F H0 H o s)(e:s.own=true):∃a u,o=some (.ref a)/\H a=some u/\H0 a=none/\(F.B a=none\/a∈F.A):=by
 cases s with
 |un=>cases e
 |im d=>cases e
 |ls ds=>obtain⟨a,xs,h1,h2,h3,h4,_⟩:=h;exact⟨a,_,h1,h2,h3,.inl h4⟩
 |pm ds=>obtain⟨a,xs,h1,h2,h3,h4,_⟩:=h;exact⟨a,_,h1,h2,h3,.inr h4⟩
 |dk ks ds=>obtain⟨a,xs,h1,h2,h3,h4,_⟩:=h;exact⟨a,_,h1,h2,h3,.inl h4⟩
 |ob c ns ds=>obtain⟨a,dx,xs,h1,h2,h3,h4,_⟩:=h;exact⟨a,_,h1,h2,h3,.inr h4⟩
theorem yS.grow{s:Sl}(h:yS G F H0 H o s)(h0:oB H0 H0')(hk:∀a u,o=some (.ref a)->s.own=true->H a=some u->H' a=some u)
  (hn:∀a u,o=some (.ref a)->s.own=true->H a=some u->H0 a=none->H0' a=none):yS G F H0' H' o s:=by
 cases s with
 |un=>trivial
 |im d=>obtain⟨v,h1,h2⟩:=h;exact⟨v,h1,Rep.mono h0 _ _ h2⟩
 |ls ds=>obtain⟨a,xs,h1,h2,h3,h4,h5⟩:=h;exact⟨a,xs,h1,hk _ _ h1 rfl h2,hn _ _ h1 rfl h2 h3,h4,oh.mono h0 _ _ h5⟩
 |pm ds=>obtain⟨a,xs,h1,h2,h3,h4,h5⟩:=h;exact⟨a,xs,h1,hk _ _ h1 rfl h2,hn _ _ h1 rfl h2 h3,h4,oh.mono h0 _ _ h5⟩
 |dk ks ds=>obtain⟨a,xs,h1,h2,h3,h4,h5,h6⟩:=h;exact⟨a,xs,h1,hk _ _ h1 rfl h2,hn _ _ h1 rfl h2 h3,h4,h5,oh.mono h0 _ _ h6⟩
 |ob c ns ds=>obtain⟨a,dx,xs,h1,h2,h3,h4,h5,h6⟩:=h;exact⟨a,dx,xs,h1,hk _ _ h1 rfl h2,hn _ _ h1 rfl h2 h3,h4,h5,oh.mono h0 _ _ h6⟩
section
variable{G:Bg}{F:Fr}{σ:St}{ρ:aZ}{H0 H H0' H':Hp}
theorem oI.bNone(R:oI G F σ ρ H0 H)(h:H b=none):F.B b=none:=by
 cases e:F.B b with
 |none=>rfl
 |some o=>
  by_cases ha:b∈F.A
  ·obtain⟨xs,q⟩:=R.am b ha;rw[q]at h;cases h
  ·have q:=R.keep b o e ha;rw[q]at h;cases h
theorem oI.grow(R:oI G F σ ρ H0 H)(hs:oB H H')(h0:oB H0 H0')(sub':oB H0' H')(hf:∀b o,H0' b=some o->H0 b=some o\/H b=none):oI G F σ ρ H0' H' where
 sub:=sub'
 g0:=R.g0.trans h0
 keep:=λb o e n=>hs _ _ (R.keep b o e n)
 fr:=λb o e=>by
  rcases hf b o e with q|q
  ·exact R.fr b o q
  ·exact .inr (R.bNone q)
 am:=λa ha=>let ⟨xs,q⟩:=R.am a ha;⟨xs,hs _ _ q⟩
 len:=R.len
 sl:=λi s e=>(R.sl i s e).grow h0 (λa u _ _ q=>hs _ _ q) λa u _ _ q q0=>by
  cases z:H0' a with
  |none=>rfl
  |some o=>
   rcases hf a o z with y|y
   ·rw[y]at q0;cases q0
   ·rw[y]at q;cases q
 ap:=R.ap
theorem oF(hp:H p=none)(o:HO):oB H (upd H p o):=oB.new (oB.refl H) hp o
theorem oI.h0none(R:oI G F σ ρ H0 H)(hp:H p=none):H0 p=none:=by
 cases e:H0 p with
 |none=>rfl
 |some o=>have:=R.sub _ _ e;rw[this]at hp;cases hp
theorem Mo(s:oB H0 H)(p:Addr)(o:HO):oB (upd H0 p o) (upd H p o):=λb u e=>by
 by_cases hb:b=p
 ·subst hb;rw[om]at e ⊢;exact e
 ·rw[oo hb]at e ⊢;exact s _ _ e
theorem oI.newIm(R:oI G F σ ρ H0 H)(hp:H p=none)(o:HO):oI G F σ ρ (upd H0 p o) (upd H p o):=
 R.grow (oF hp o) (oF (R.h0none hp) o) (Mo R.sub p o) λb u e=>by
  by_cases hb:b=p
  ·subst hb;exact .inr hp
  ·rw[oo hb]at e;exact .inl e
theorem oI.newOwn(R:oI G F σ ρ H0 H)(hp:H p=none)(o:HO):oI G F σ ρ H0 (upd H p o):=
 R.grow (oF hp o) (oB.refl _) (λb u e=>by rw[oo (ra (R.sub _ _ e) hp)];exact R.sub _ _ e) λb u e=>.inl e
def Apart(σ:St)(ρ:aZ)(p:Addr):Prop:=∀(i:Nat) (s:Sl),ρ[i]?=some s->s.own=true->(σ[i]?).join≠some (.ref p)
theorem oI.apart(R:oI G F σ ρ H0 H)(hp:H p=none):Apart σ ρ p:=λi s e so z=>by obtain⟨a,u,h1,h2,_⟩:=(R.sl i s e).at so;rw[z]at h1;cases h1;rw[hp]at h2;cases h2
theorem oI.freeze(R:oI G F σ ρ H0 H)(hp:H p=some o)(h0:H0 p=none)(hb:F.B p=none)(ap:Apart σ ρ p):oI G F σ ρ (upd H0 p o) H where
 sub:=λb u e=>by
  by_cases hb:b=p
  ·subst hb;rw[om]at e;cases e;exact hp
  ·rw[oo hb]at e;exact R.sub _ _ e
 g0:=R.g0.trans (oF h0 o)
 keep:=R.keep
 fr:=λb u e=>by
  by_cases hb':b=p
  ·subst hb';exact .inr hb
  ·rw[oo hb']at e;exact R.fr _ _ e
 am:=R.am
 len:=R.len
 sl:=λi s e=>(R.sl i s e).grow (oF h0 o) (λa u _ _ q=>q) λa u z so q q0=>by rw[oo (λy=>ap i s e so (by rw[z,y]))];exact q0
 ap:=R.ap
theorem Ge{σ:St}{v:Option V}(hi:i<σ.length):((σ.set i v)[j]?).join=if j=i then v else (σ[j]?).join:=by
 rw[bR];by_cases h:i=j
 ·subst h;simp[hi]
 ·rw[aj h,aj (λz=>h z.symm)]
theorem oI.set(R:oI G F σ ρ H0 H){v:V}{s:Sl}(hs:yS G F H0 H (some v) s)(ap:s.own=true->∀a,v=.ref a->∀(j:Nat) (t:Sl),j≠i->ρ[j]?=some t->t.own=true->(σ[j]?).join≠some (.ref a)):
  oI G F (σ.set i (some v)) (ρ.set i s) H0 H where
 sub:=R.sub
 g0:=R.g0
 keep:=R.keep
 fr:=R.fr
 am:=R.am
 len:=by rw[dH,dH,R.len]
 sl:=λj t e=>by
  rw[bR]at e;by_cases h:i=j
  ·subst h;rw[ai rfl]at e;split at e
   ·rename_i hi;cases e;rw[Ge (by rw[R.len];exact hi),ai rfl];exact hs
   ·cases e
  ·rw[aj h]at e;have hh:=R.sl j t e;rw[bR,aj h];exact hh
 ap:=λj k t u a hjk ej ek tj tk vj vk=>by
  have gen:∀{m:Nat} {x:Sl},(ρ.set i s)[m]?=some x->m≠i->ρ[m]?=some x/\((σ.set i (some v))[m]?).join=(σ[m]?).join:=λ{m x} e hm=>by rw[bR,aj (λz=>hm z.symm)]at e;exact⟨e,by rw[bR,aj (λz=>hm z.symm)]⟩
  have self:∀{x:Sl},(ρ.set i s)[i]?=some x->x=s/\((σ.set i (some v))[i]?).join=some v:=λ{x} e=>by
   rw[bR,ai rfl]at e;split at e
   ·rename_i hi;cases e;exact⟨rfl,by rw[Ge (by rw[R.len];exact hi),ai rfl]⟩
   ·cases e
  by_cases hj:j=i
  ·subst hj;obtain⟨rfl,ev⟩:=self ej;rw[ev]at vj;cases vj;obtain⟨e2,e3⟩:=gen ek (λz=>hjk z.symm);rw[e3]at vk;exact ap tj a rfl k u (λz=>hjk z.symm) e2 tk vk
  ·obtain⟨e2,e3⟩:=gen ej hj;by_cases hk:k=i
   ·subst hk;obtain⟨rfl,ev⟩:=self ek;rw[ev]at vk;cases vk;rw[e3]at vj;exact ap tk a rfl j t hj e2 tj vj
   ·obtain⟨e4,e5⟩:=gen ek hk;rw[e3]at vj;rw[e5]at vk;exact R.ap j k t u a hjk e2 e4 tj tk vj vk
theorem oI.setIm(R:oI G F σ ρ H0 H)(i:Nat){v:V}(h:Rep G H0 d v):oI G F (σ.set i (some v)) (ρ.set i (.im d)) H0 H:=R.set ⟨v,rfl,h⟩ λz=>by cases z
theorem oI.setLs(R:oI G F σ ρ H0 H)(i:Nat)(hp:H p=some (.lst xs))(h0:H0 p=none)(hb:F.B p=none)(ap:Apart σ ρ p)(h:oh G H0 ds xs):oI G F (σ.set i (some (.ref p))) (ρ.set i (.ls ds)) H0 H:=
 R.set ⟨p,xs,rfl,hp,h0,hb,h⟩ λ_ a e j t _ ej tj=>by cases e;exact ap j t ej tj
theorem oI.mut(R:oI G F σ ρ H0 H){s:Sl}(hi:ρ[i]?=some s)(so:s.own=true)(ha:(σ[i]?).join=some (.ref a))(ok:∀H',H' a=some o->yS G F H0 H' (some (.ref a)) s')
  (so':s'.own=true):oI G F σ (ρ.set i s') H0 (upd H a o):=by
 obtain⟨a',u,e1,e2,e3,e4⟩:=(R.sl i s hi).at so;rw[ha]at e1;cases e1;exact {
  sub:=λb w e=>by rw[oo (λz=>by rw[z,e3]at e;cases e)];exact R.sub _ _ e
  g0:=R.g0
  keep:=λb w e n=>by
   have nb:b≠a:=λz=>by
    subst z;rcases e4 with q|q
    ·rw[q]at e;cases e
    ·exact n q
   rw[oo nb];exact R.keep b w e n
  fr:=R.fr
  am:=λb hb=>by
   by_cases z:b=a
   ·subst z;exact⟨o,om⟩
   ·rw[oo z];exact R.am b hb
  len:=by rw[dH];exact R.len
  sl:=λj t e=>by
   rw[bR]at e;by_cases h:i=j
   ·subst h;rw[ai rfl]at e;split at e
    ·cases e;rw[ha];exact ok _ om
    ·cases e
   ·rw[aj h]at e;refine(R.sl j t e).grow (oB.refl _) (λb w z to q=>?_) λb w _ _ _ q=>q;rw[oo (λy=>by subst y;exact R.ap j i t s b (λy=>h y.symm) e hi to so z ha)];exact q
  ap:=λj k t u b hjk ej ek tj tk vj vk=>by
   have gen:∀{m:Nat} {x:Sl},(ρ.set i s')[m]?=some x->∃y,ρ[m]?=some y/\(x.own=true->y.own=true):=λ{m x} e=>by
    rw[bR]at e;by_cases h:i=m
    ·subst h;exact⟨s,hi,λ_=>so⟩
    ·rw[aj h]at e;exact⟨x,e,λq=>q⟩
   obtain⟨y,ey,oy⟩:=gen ej;obtain⟨z,ez,oz⟩:=gen ek;exact R.ap j k y z b hjk ey ez (oy tj) (oz tk) vj vk }
end
abbrev FE:=aZ->Option (D×aZ)
abbrev FT:=aZ->Option (Bool×aZ)
abbrev FA:=aZ->Option (az×aZ)
def tF(G:Bg)(f:FE):TE:=λσ H Q=>∃F ρ H0 d ρ',oI G F σ ρ H0 H/\f ρ=some (d,ρ')/\∀v H0' H',oB H0 H0'->oI G F σ ρ' H0' H'->Rep G H0' d v->Q v H'
def tFT(G:Bg)(f:FT):TT:=λσ H Q=>∃F ρ H0 d ρ',oI G F σ ρ H0 H/\f ρ=some (d,ρ')/\∀H0' H',oB H0 H0'->oI G F σ ρ' H0' H'->Q d H'
def tFA(G:Bg)(f:FA):TA:=λσ H Q=>∃F ρ H0 ds ρ',oI G F σ ρ H0 H/\f ρ=some (ds,ρ')/\∀xs H0' H',oB H0 H0'->oI G F σ ρ' H0' H'->oh G H0' ds xs->Q xs H'
def tFN(G:Bg)(f:FA):TE:=λσ H Q=>∃F ρ H0 ds ρ',oI G F σ ρ H0 H/\f ρ=some (ds,ρ')/\∀p xs H0' H',oB H0 H0'->oI G F σ ρ' H0' H'->H' p=some (.lst xs)->H0' p=none->F.B p=none->Apart σ ρ' p->oh G H0' ds xs->Q (.ref p) H'
theorem PE.weak{t:TE}(h:PE X e t)(w:∀σ H Q,t' σ H Q->t σ H Q):PE X e t':=λpins s σ H Q I hq=>h pins s σ H Q I (w _ _ _ hq)
theorem PT.weak{t:TT}(h:PT X e t)(w:∀σ H Q,t' σ H Q->t σ H Q):PT X e t':=λpins s σ H Q I hq=>h pins s σ H Q I (w _ _ _ hq)
theorem PW.weak{t:TT}(h:PW X e t)(w:∀σ H Q,t' σ H Q->t σ H Q):PW X e t':=λwh pins s σ H Q I hq=>h wh pins s σ H Q I (w _ _ _ hq)
theorem PA.weak{t:TA}(h:PA X e t)(w:∀σ H Q,t' σ H Q->t σ H Q):PA X e t':=λpos pins s σ H Q I hq=>h pos pins s σ H Q I (w _ _ _ hq)
noncomputable def cC(d:D):FE:=λρ=>some (d,ρ)
noncomputable def cV(i:Nat):FE:=λρ=>match ρ[i]? with
 |some (.im d)=>some (d,ρ)
 |_=>none
noncomputable def c1(g:D->Option D) (f:FE):FE:=λρ=>match f ρ with
 |some (d,ρ')=>match g d with
  |some x=>some (x,ρ')
  |none=>none
 |none=>none
noncomputable def c2(g:D->D->Option D) (f f':FE):FE:=λρ=>match f ρ with
 |some (x,ρ1)=>match f' ρ1 with
  |some (y,ρ2)=>match g x y with
   |some z=>some (z,ρ2)
   |none=>none
  |none=>none
 |none=>none
theorem BO{g:D->Option D}(h:c1 g f ρ=some (z,ρ')):∃d,f ρ=some (d,ρ')/\g d=some z:=by
 unfold c1 at h;cases e:f ρ with
 |none=>rw[e]at h;cases h
 |some p=>
  obtain⟨d,ρ1⟩:=p;rw[e]at h;cases e2:g d with
  |none=>simp only[e2]at h;cases h
  |some x=>simp only[e2]at h;cases h;exact⟨d,rfl,e2⟩
theorem E8{g:D->D->Option D}(h:c2 g f f' ρ=some (z,ρ')):∃x y ρ1,f ρ=some (x,ρ1)/\f' ρ1=some (y,ρ')/\g x y=some z:=by
 unfold c2 at h;cases e:f ρ with
 |none=>rw[e]at h;cases h
 |some p=>
  obtain⟨x,ρ1⟩:=p;simp only[e]at h;cases e2:f' ρ1 with
  |none=>simp only[e2]at h;cases h
  |some q=>
   obtain⟨y,ρ2⟩:=q;simp only[e2]at h;cases e3:g x y with
   |none=>simp only[e3]at h;cases h
   |some w=>simp only[e3]at h;cases h;exact⟨x,y,ρ1,rfl,e2,e3⟩
section
variable{X:Cx}{G:Bg}
theorem SI{i j pos}:PE X (.Constant (.int i) j pos) (tF G (cC (.int i))):=PE.weak HH λσ H Q h=>by obtain⟨F,ρ,H0,d,ρ',R,e,k⟩:=h;cases e;exact k _ _ _ (oB.refl _) R (qT i)
theorem Wx{i j pos}:PE X (.Constant (.bool i) j pos) (tF G (cC (.bl i))):=PE.weak V4 λσ H Q h=>by obtain⟨F,ρ,H0,d,ρ',R,e,k⟩:=h;cases e;exact k _ _ _ (oB.refl _) R (rb i)
theorem SJ{i j pos}:PE X (.Constant (.str i) j pos) (tF G (cC (.str i))):=PE.weak LL λσ H Q h=>by obtain⟨F,ρ,H0,d,ρ',R,e,k⟩:=h;cases e;exact k _ _ _ (oB.refl _) R (wc i)
theorem SK{j pos}:PE X (.Constant .none j pos) (tF G (cC .non)):=PE.weak RT λσ H Q h=>by obtain⟨F,ρ,H0,d,ρ',R,e,k⟩:=h;cases e;exact k _ _ _ (oB.refl _) R zl
theorem Pd(h:cV i ρ=some (d,ρ')):ρ[i]?=some (.im d)/\ρ'=ρ:=by
 unfold cV at h;split at h
 ·rename_i e;cases h;exact⟨e,rfl⟩
 ·cases h
theorem rf{α:Type}{o:Option (Option α)}{v:α}(h:o.join=some v):o=some (some v):=by
 cases o with
 |none=>cases h
 |some u=>cases u with
  |none=>cases h
  |some w=>cases h;rfl
theorem Ib(h:PE X e (vp i)):PE X e (tF G (cV i)):=PE.weak h λσ H Q hh=>by obtain⟨F,ρ,H0,d,ρ',R,e,k⟩:=hh;obtain⟨e1,rfl⟩:=Pd e;obtain⟨v,e2,e3⟩:=R.sl i _ e1;exact⟨v,rf e2,k _ _ _ (oB.refl _) R e3⟩
theorem Pe{v:V}(h:PE X e (tC v))(r:∀H,Rep G H d v):PE X e (tF G (cC d)):=PE.weak h λσ H Q hh=>by obtain⟨F,ρ,H0,d',ρ',R,e,k⟩:=hh;cases e;exact k _ _ _ (oB.refl _) R (r _)
def OpD(G:Bg)(r:R2)(g:D->D->Option D):Prop:=∀x y z H0 H v u (Q:VK),g x y=some z->oB H0 H->Rep G H0 x v->Rep G H0 y u->(∀w,(∀H0',oB H0 H0'->Rep G H0' z w)->Q w H)->r v u H Q
theorem Jy{g:D->D->Option D}(ho:OpD G r g):∀σ H Q,tF G (c2 g f f') σ H Q->tOp r (tF G f) (tF G f') σ H Q:=λσ H Q hh=>by obtain⟨F,ρ,H0,d,ρ',R,e,k⟩:=hh;obtain⟨x,y,ρ1,e1,e2,e3⟩:=E8 e;refine⟨F,ρ,H0,x,ρ1,R,e1,λv H1 H1' s1 R1 r1=>⟨F,ρ1,H1,y,ρ',R1,e2,λu H2 H2' s2 R2 r2=>?_⟩⟩;exact ho x y d H2 H2' v u Q e3 R2.sub (Rep.mono s2 _ _ r1) r2 λw hw=>k w H2 H2' (s1.trans s2) R2 (hw _ (oB.refl _))
theorem Wy{op:iA}{g:D->D->Option D}(hr:OpR X (binaryOp op) r)(ho:OpD G r g)(ha:PE X a (tF G f))(hb:PE X b (tF G f')):PE X (.BinOp a op b pos) (tF G (c2 g f f')):=PE.weak (LU hr ha hb) (Jy ho)
theorem SL{op:cI}{g:D->D->Option D}(hr:OpR X (compareOp op) r)(ho:OpD G r g)(ha:PE X a (tF G f))(hb:PE X b (tF G f'))(hm:behindInMarks op b=false):PE X (.Compare a [op] [b] pos) (tF G (c2 g f f')):=PE.weak (OQ hr ha hb hm) (Jy ho)
theorem WA{g:D->D->Option D}(hr:IxR X r)(ho:OpD G r g)(ha:PE X a (tF G f))(hb:PE X b (tF G f'))(hs:Jw b):PE X (.Subscript a b pos) (tF G (c2 g f f')):=PE.weak (Rm hr ha hb hs) (Jy ho)
def cT(f:FE):FT:=λρ=>match f ρ with
 |some (.bl b,ρ')=>some (b,ρ')
 |_=>none
theorem Jz(h:cT f ρ=some (b,ρ')):f ρ=some (.bl b,ρ'):=by
 unfold cT at h;split at h
 ·rename_i e;cases h;exact e
 ·cases h
theorem JA:∀σ H Q,tFT G (cT f) σ H Q->LX (tF G f) σ H Q:=λσ H Q hh=>by obtain⟨F,ρ,H0,d,ρ',R,e,k⟩:=hh;refine⟨F,ρ,H0,_,ρ',R,Jz e,λv H0' H' s R' r=>?_⟩;unfold Rep at r;exact⟨d,r,k _ _ s R'⟩
theorem Pf{op:cI}{g:D->D->Option D}(hr:OpR X (compareOp op) r)(ho:OpD G r g)(ha:PE X a (tF G f))(hb:PE X b (tF G f'))(hm:behindInMarks op b=false):
  PT X (.Compare a [op] [b] pos) (tFT G (cT (c2 g f f'))):=PT.weak (OR hr ha hb hm) λσ H Q hh=>by
 obtain⟨F,ρ,H0,d,ρ',R,e,k⟩:=JA σ H Q hh;exact Jy ho σ H _ ⟨F,ρ,H0,d,ρ',R,e,k⟩
theorem Pg(h:PE X e (tF G f))(he:∀whole,isTrue e X.env whole=(do let v<-whole;standAt e.pos;holding [v] (truthy v)):=by intro _;rfl):PT X e (tFT G (cT f)):=PT.weak (RU h he) λσ H Q hh=>by obtain⟨F,ρ,H0,d,ρ',R,e,k⟩:=hh;refine⟨F,ρ,H0,_,ρ',R,Jz e,λv H0' H' s R' r=>?_⟩;unfold Rep at r;exact⟨d,r,k _ _ s R'⟩
def qu(f:FT):FT:=λρ=>match f ρ with
 |some (b,ρ')=>some (!b,ρ')
 |none=>none
def sA(f g:FT):FT:=λρ=>match f ρ with
 |some (true,ρ')=>g ρ'
 |r=>r
def rG(f g:FT):FT:=λρ=>match f ρ with
 |some (false,ρ')=>g ρ'
 |r=>r
theorem Ph(h:PT X a (tFT G f)):PT X (.UnaryOp .Not a pos) (tFT G (qu f)):=PT.weak (RX h) λσ H Q hh=>by
 obtain⟨F,ρ,H0,d,ρ',R,e,k⟩:=hh;unfold qu at e;cases e1:f ρ with
 |none=>simp only[e1]at e;cases e
 |some p=>obtain⟨b,ρ1⟩:=p;simp only[e1]at e;cases e;exact⟨F,ρ,H0,b,_,R,e1,λH0' H' s R'=>k _ _ s R'⟩
theorem SM{g:FT}:∀σ H Q,tFT G (sA f g) σ H Q->V5 (tFT G f) (tFT G g) σ H Q:=λσ H Q hh=>by
 obtain⟨F,ρ,H0,d,ρ',R,e,k⟩:=hh;unfold sA at e;cases e1:f ρ with
 |none=>simp only[e1]at e;cases e
 |some p=>
  obtain⟨b,ρ1⟩:=p;cases b with
  |true=>simp only[e1]at e;exact⟨F,ρ,H0,true,ρ1,R,e1,λH0' H' s R'=>E6 ⟨F,ρ1,H0',d,ρ',R',e,λH2 H2' s2 R2=>k _ _ (s.trans s2) R2⟩⟩
  |false=>simp only[e1]at e;cases e;exact⟨F,ρ,H0,false,_,R,e1,λH0' H' s R'=>E5 (k _ _ s R')⟩
theorem WB{g:FT}:∀σ H Q,tFT G (rG f g) σ H Q->tOr (tFT G f) (tFT G g) σ H Q:=λσ H Q hh=>by
 obtain⟨F,ρ,H0,d,ρ',R,e,k⟩:=hh;unfold rG at e;cases e1:f ρ with
 |none=>simp only[e1]at e;cases e
 |some p=>
  obtain⟨b,ρ1⟩:=p;cases b with
  |false=>simp only[e1]at e;exact⟨F,ρ,H0,false,ρ1,R,e1,λH0' H' s R'=>E5 ⟨F,ρ1,H0',d,ρ',R',e,λH2 H2' s2 R2=>k _ _ (s.trans s2) R2⟩⟩
  |true=>simp only[e1]at e;cases e;exact⟨F,ρ,H0,true,_,R,e1,λH0' H' s R'=>E6 (k _ _ s R')⟩
theorem Mp(h:PT X a (tFT G f)):PW X (.BoolOp .And [a] pos) (tFT G f):=OI h
theorem Pi(h:PT X a (tFT G f)):PW X (.BoolOp .Or [a] pos) (tFT G f):=RV h
theorem Pj{rest:List Expr}{g:FT}(ha:PT X a (tFT G f))(hb:PW X (.BoolOp .And (b::rest) pos) (tFT G g)):PW X (.BoolOp .And (a::b::rest) pos) (tFT G (sA f g)):=PW.weak (RW ha hb) SM
theorem Mq{rest:List Expr}{g:FT}(ha:PT X a (tFT G f))(hb:PW X (.BoolOp .Or (b::rest) pos) (tFT G g)):PW X (.BoolOp .Or (a::b::rest) pos) (tFT G (rG f g)):=PW.weak (V6 ha hb) WB
def p8(f g:FE):FE:=λρ=>match f ρ with
 |some (.bl true,ρ')=>g ρ'
 |some (.bl false,ρ')=>some (.bl false,ρ')
 |_=>none
def cOr(f g:FE):FE:=λρ=>match f ρ with
 |some (.bl false,ρ')=>g ρ'
 |some (.bl true,ρ')=>some (.bl true,ρ')
 |_=>none
def BF(f:FE):FE:=λρ=>match f ρ with
 |some (.bl b,ρ')=>some (.bl !b,ρ')
 |_=>none
def cIf(c:FT)(f g:FE):FE:=λρ=>match c ρ with
 |some (true,ρ')=>f ρ'
 |some (false,ρ')=>g ρ'
 |none=>none
theorem SN{op}(h:PE X a (tF G f)):PE X (.BoolOp op [a] pos) (tF G f):=RY h
theorem Gf{f:FE}{ρ:aZ}:(∃ρ1,f ρ=some (.bl true,ρ1))\/(∃ρ1,f ρ=some (.bl false,ρ1))\/(∀b ρ1,f ρ≠some (.bl b,ρ1)):=by
 by_cases h1:∃ρ1,f ρ=some (.bl true,ρ1)
 ·exact .inl h1
 by_cases h2:∃ρ1,f ρ=some (.bl false,ρ1)
 ·exact .inr (.inl h2)
 refine .inr (.inr λb ρ1 z=>?_);cases b with
 |true=>exact h1 ⟨ρ1,z⟩
 |false=>exact h2 ⟨ρ1,z⟩
theorem KP{g:FE}(h:∀b ρ1,f ρ≠some (.bl b,ρ1)):p8 f g ρ=none:=by
 unfold p8;split
 ·rename_i e;exact ao e (h _ _)
 ·rename_i e;exact ao e (h _ _)
 ·rfl
theorem Mr{g:FE}(h:∀b ρ1,f ρ≠some (.bl b,ρ1)):cOr f g ρ=none:=by
 unfold cOr;split
 ·rename_i e;exact ao e (h _ _)
 ·rename_i e;exact ao e (h _ _)
 ·rfl
theorem SO{rest:List Expr}{g:FE}(ha:PE X a (tF G f))(hb:PE X (.BoolOp .And (b::rest) pos) (tF G g)):PE X (.BoolOp .And (a::b::rest) pos) (tF G (p8 f g)):=PE.weak (RZ ha hb) λσ H Q hh=>by
 obtain⟨F,ρ,H0,d,ρ',R,e,k⟩:=hh;rcases Gf (f:=f) (ρ:=ρ)with ⟨ρ1,e1⟩|⟨ρ1,e1⟩|e1
 ·have e':g ρ1=some (d,ρ'):=by unfold p8 at e;simp only[e1]at e;exact e
  refine⟨F,ρ,H0,_,ρ1,R,e1,λv H1 H1' s R' r=>?_⟩;unfold Rep at r;refine⟨true,r,?_⟩;exact E6 ⟨F,ρ1,H1,d,ρ',R',e',λv H2 H2' s2 R2 r2=>k _ _ _ (s.trans s2) R2 r2⟩
 ·have e':some (D.bl false,ρ1)=some (d,ρ'):=by unfold p8 at e;simp only[e1]at e;exact e
  cases e';refine⟨F,ρ,H0,_,_,R,e1,λv H1 H1' s R' r=>?_⟩;have r':=r;unfold Rep at r';refine⟨false,r',?_⟩;exact E5 (k _ _ _ s R' (rb false))
 ·rw[KP e1]at e;cases e
theorem WC{rest:List Expr}{g:FE}(ha:PE X a (tF G f))(hb:PE X (.BoolOp .Or (b::rest) pos) (tF G g)):PE X (.BoolOp .Or (a::b::rest) pos) (tF G (cOr f g)):=PE.weak (V9 ha hb) λσ H Q hh=>by
 obtain⟨F,ρ,H0,d,ρ',R,e,k⟩:=hh;rcases Gf (f:=f) (ρ:=ρ)with ⟨ρ1,e1⟩|⟨ρ1,e1⟩|e1
 ·have e':some (D.bl true,ρ1)=some (d,ρ'):=by unfold cOr at e;simp only[e1]at e;exact e
  cases e';refine⟨F,ρ,H0,_,_,R,e1,λv H1 H1' s R' r=>?_⟩;unfold Rep at r;refine⟨true,r,?_⟩;exact E6 (k _ _ _ s R' (rb true))
 ·have e':g ρ1=some (d,ρ'):=by unfold cOr at e;simp only[e1]at e;exact e
  refine⟨F,ρ,H0,_,ρ1,R,e1,λv H1 H1' s R' r=>?_⟩;unfold Rep at r;refine⟨false,r,?_⟩;exact E5 ⟨F,ρ1,H1,d,ρ',R',e',λv H2 H2' s2 R2 r2=>k _ _ _ (s.trans s2) R2 r2⟩
 ·rw[Mr e1]at e;cases e
theorem SQ(ha:PE X a (tF G f)):PE X (.UnaryOp .Not a pos) (tF G (BF f)):=PE.weak (R0 ha) λσ H Q hh=>by
 obtain⟨F,ρ,H0,d,ρ',R,e,k⟩:=hh;unfold BF at e;split at e
 ·rename_i b ρ1 e1;cases e;refine⟨F,ρ,H0,_,_,R,e1,λv H1 H1' s R' r=>?_⟩;unfold Rep at r;exact⟨b,r,k _ _ _ s R' (rb _)⟩
 ·cases e
theorem WD{g:FE}(hc:PT X c (tFT G h))(ha:PE X a (tF G f))(hb:PE X b (tF G g)):PE X (.IfExp c a b pos) (tF G (cIf h f g)):=PE.weak (LM hc ha hb) λσ H Q hh=>by
 obtain⟨F,ρ,H0,d,ρ',R,e,k⟩:=hh;unfold cIf at e;cases e1:h ρ with
 |none=>simp only[e1]at e;cases e
 |some p=>
  obtain⟨b,ρ1⟩:=p;refine⟨F,ρ,H0,b,ρ1,R,e1,λH1 H1' s R'=>?_⟩;cases b with
  |true=>simp only[e1]at e;exact E6 ⟨F,ρ1,H1,d,ρ',R',e,λv H2 H2' s2 R2 r2=>k _ _ _ (s.trans s2) R2 r2⟩
  |false=>simp only[e1]at e;exact E5 ⟨F,ρ1,H1,d,ρ',R',e,λv H2 H2' s2 R2 r2=>k _ _ _ (s.trans s2) R2 r2⟩
noncomputable def oq:FA:=λρ=>some ([],ρ)
noncomputable def nY(f:FE) (g:FA):FA:=λρ=>match f ρ with
 |some (d,ρ1)=>match g ρ1 with
  |some (ds,ρ2)=>some (d::ds,ρ2)
  |none=>none
 |none=>none
theorem we{g:FA}(h:nY f g ρ=some (ds,ρ')):∃d r ρ1,f ρ=some (d,ρ1)/\g ρ1=some (r,ρ')/\ds=d::r:=by
 unfold nY at h;cases e:f ρ with
 |none=>rw[e]at h;cases h
 |some p=>
  obtain⟨x,ρ1⟩:=p;simp only[e]at h;cases e2:g ρ1 with
  |none=>simp only[e2]at h;cases h
  |some q=>obtain⟨y,ρ2⟩:=q;simp only[e2]at h;cases h;exact⟨x,y,ρ1,rfl,e2,rfl⟩
theorem tH:PA X [] (tFA G oq):=PA.weak uA λσ H Q hh=>by obtain⟨F,ρ,H0,d,ρ',R,e,k⟩:=hh;cases e;exact k _ _ _ (oB.refl _) R oZ
theorem rR{g:FA}(ha:PE X e (tF G f))(hr:PA X es (tFA G g))(hs:starEach (e::es) X.env=(false,eval e X.env)::starEach es X.env:=by rfl):PA X (e::es) (tFA G (nY f g)):=PA.weak (qg ha hr hs) λσ H Q hh=>by obtain⟨F,ρ,H0,d,ρ',R,e,k⟩:=hh;obtain⟨x,r,ρ1,e1,e2,rfl⟩:=we e;exact⟨F,ρ,H0,x,ρ1,R,e1,λv H1 H1' s R' rv=>⟨F,ρ1,H1,r,ρ',R',e2,λxs H2 H2' s2 R2 rs=>k _ _ _ (s.trans s2) R2 (oW (Rep.mono s2 _ _ rv) rs)⟩⟩
def pd(g:FA):FE:=λρ=>match g ρ with
 |some (ds,ρ')=>if ds.length<=1000 then some (.tup ds,ρ')else none
 |none=>none
def oG(g:FA):FA:=λρ=>match g ρ with
 |some (ds,ρ')=>if ds.length<=1000 then some (ds,ρ')else none
 |none=>none
theorem SR{x1}{g:FA}(h:PA X es (tFA G g)):PE X (.Tuple es x1 pos) (tF G (pd g)):=PE.weak (Sr h) λσ H Q hh=>by
 obtain⟨F,ρ,H0,d,ρ',R,e,k⟩:=hh;unfold pd at e;cases e1:g ρ with
 |none=>simp only[e1]at e;cases e
 |some p=>
  obtain⟨ds,ρ1⟩:=p;simp only[e1]at e;split at e
  ·rename_i hl;cases e;refine⟨F,ρ,H0,_,_,R,e1,λxs H1 H1' s R' rs=>⟨by rw[<-oi rs];exact uB hl,λp hp=>?_⟩⟩;exact k _ _ _ (s.trans (oF (R'.h0none hp) _)) (R'.newIm hp _) (yj (SqT.of om) (oh.mono (oF (R'.h0none hp) _) _ _ rs))
  ·cases e
theorem Pk{g:FA}(h:PA X es (tFA G g)):PE X (.List es pos) (tFN G (oG g)):=PE.weak (L6 h) λσ H Q hh=>by
 obtain⟨F,ρ,H0,d,ρ',R,e,k⟩:=hh;unfold oG at e;cases e1:g ρ with
 |none=>simp only[e1]at e;cases e
 |some p=>
  obtain⟨ds,ρ1⟩:=p;simp only[e1]at e;split at e
  ·rename_i hl;cases e;refine⟨F,ρ,H0,_,_,R,e1,λxs H1 H1' s R' rs=>⟨by rw[<-oi rs];exact uB hl,λp hp=>?_⟩⟩;exact k _ _ _ _ s (R'.newOwn hp _) om (R'.h0none hp) (R'.bNone hp) (R'.apart hp) rs
  ·cases e
def cL(g:FA):FE:=λρ=>match g ρ with
 |some (ds,ρ')=>some (.lst ds,ρ')
 |none=>none
theorem Pm{g:FA}(h:cL g ρ=some (d,ρ')):∃ds,g ρ=some (ds,ρ')/\d=.lst ds:=by
 unfold cL at h;cases e:g ρ with
 |none=>simp only[e]at h;cases h
 |some p=>obtain⟨ds,ρ1⟩:=p;simp only[e]at h;cases h;exact⟨ds,rfl,rfl⟩
theorem WE{g:FA}:∀σ H Q,tF G (cL g) σ H Q->tFN G g σ H Q:=λσ H Q hh=>by obtain⟨F,ρ,H0,d,ρ',R,e,k⟩:=hh;obtain⟨ds,e1,rfl⟩:=Pm e;refine⟨F,ρ,H0,ds,ρ',R,e1,λp xs H1 H1' s R' hp h0 hb ap rs=>?_⟩;exact k _ _ _ (s.trans (oF h0 _)) (R'.freeze hp h0 hb ap) (uX om (oh.mono (oF h0 _) _ _ rs))
theorem SU{g:FA}(h:PE X e (tFN G g)):PE X e (tF G (cL g)):=PE.weak h WE
end
inductive Out where
 |nx (ρ:aZ)|bk (ρ:aZ)|ct (ρ:aZ)
 |rt (d:D) (ρ:aZ)
 |rn (ds:az) (ρ:aZ)
abbrev FS:=aZ->Option Out
def JB(G:Bg)(F:Fr)(H0:Hp)(E:Ends):Out->Prop
 |.nx ρ'=>∀σ' H0' H',oB H0 H0'->oI G F σ' ρ' H0' H'->E.nx σ' H'
 |.bk ρ'=>∀σ' H0' H',oB H0 H0'->oI G F σ' ρ' H0' H'->E.bk σ' H'
 |.ct ρ'=>∀σ' H0' H',oB H0 H0'->oI G F σ' ρ' H0' H'->E.ct σ' H'
 |.rt d ρ'=>∀v σ' H0' H',oB H0 H0'->oI G F σ' ρ' H0' H'->Rep G H0' d v->E.rt v H'
 |.rn ds ρ'=>∀p xs σ' H0' H',oB H0 H0'->oI G F σ' ρ' H0' H'->H' p=some (.lst xs)->H0' p=none->F.B p=none->Apart σ' ρ' p->oh G H0' ds xs->E.rt (.ref p) H'
def tFS(G:Bg)(f:FS):TS:=λE σ H=>∃F ρ H0 o,oI G F σ ρ H0 H/\f ρ=some o/\JB G F H0 E o/\(∀p,E.rt p=E.rt p)
theorem JB.back(h:JB G F H0 E o)(s:oB H0 H1):JB G F H1 E o:=by
 cases o with
 |nx ρ=>exact λσ' H0' H' s' R=>h σ' H0' H' (s.trans s') R
 |bk ρ=>exact λσ' H0' H' s' R=>h σ' H0' H' (s.trans s') R
 |ct ρ=>exact λσ' H0' H' s' R=>h σ' H0' H' (s.trans s') R
 |rt d ρ=>exact λv σ' H0' H' s' R=>h v σ' H0' H' (s.trans s') R
 |rn ds ρ=>exact λp xs σ' H0' H' s' R=>h p xs σ' H0' H' (s.trans s') R
theorem PS.weak{t:TS}(h:PS X e t)(w:∀E σ H,t' E σ H->t E σ H):PS X e t':=λpins s σ H D I hq=>h pins s σ H D I (w _ _ _ hq)
theorem PSs.weak{t:TS}(h:PSs X e t)(w:∀E σ H,t' E σ H->t E σ H):PSs X e t':=λpins s σ H D I hq=>h pins s σ H D I (w _ _ _ hq)
def oA:FS:=λρ=>some (.nx ρ)
noncomputable def oe(f g:FS):FS:=λρ=>match f ρ with
 |some (.nx ρ')=>g ρ'
 |r=>r
section
variable{X:Cx}{G:Bg}
theorem SV(h:tFS G oA E σ H):E.nx σ H:=by obtain⟨F,ρ,H0,o,R,e,k,_⟩:=h;cases e;exact k _ _ _ (oB.refl _) R
theorem Pn:PSs X [] (tFS G oA):=PSs.weak OJ λE σ H h=>SV h
theorem Ms{st:Stmt}{rest:List Stmt}{g:FS}(h1:PS X st (tFS G f))(h2:PSs X rest (tFS G g)):PSs X (st::rest) (tFS G (oe f g)):=PSs.weak (BW h1 h2) λE σ H h=>by
 obtain⟨F,ρ,H0,o,R,e,k,k2⟩:=h;unfold oe at e;cases e1:f ρ with
 |none=>simp only[e1]at e;cases e
 |some o1=>
  cases o1 with
  |nx ρ1=>simp only[e1]at e;exact⟨F,ρ,H0,_,R,e1,λσ' H0' H' s R'=>⟨F,ρ1,H0',o,R',e,k.back s,k2⟩,k2⟩
  |bk ρ1=>simp only[e1]at e;cases e;exact⟨F,ρ,H0,_,R,e1,k,k2⟩
  |ct ρ1=>simp only[e1]at e;cases e;exact⟨F,ρ,H0,_,R,e1,k,k2⟩
  |rt d ρ1=>simp only[e1]at e;cases e;exact⟨F,ρ,H0,_,R,e1,k,k2⟩
  |rn d ρ1=>simp only[e1]at e;cases e;exact⟨F,ρ,H0,_,R,e1,k,k2⟩
theorem Po{st:Stmt}(h1:PS X st (tFS G f)):PSs X [st] (tFS G f):=ET h1
noncomputable def oj(f:FE):FS:=λρ=>match f ρ with
 |some (d,ρ')=>some (.rt d ρ')
 |none=>none
noncomputable def qK(f:FA):FS:=λρ=>match f ρ with
 |some (d,ρ')=>some (.rn d ρ')
 |none=>none
theorem o5{α:Type}{f:aZ->Option (α×aZ)}{ρ:aZ}:f ρ=none\/∃d ρ',f ρ=some (d,ρ'):=by
 cases e:f ρ with
 |none=>exact .inl rfl
 |some p=>exact .inr ⟨p.1,p.2,rfl⟩
theorem Pp(h:PE X e (tF G f)):PS X (.Return (some e) pos) (tFS G (oj f)):=PS.weak (HI h) λE σ H hh=>by
 obtain⟨F,ρ,H0,o,R,e,k,k2⟩:=hh;unfold oj at e;rcases o5 (f:=f) (ρ:=ρ)with e1|⟨d,ρ',e1⟩<;>simp only[e1]at e
 ·cases e
 ·cases e;exact⟨F,ρ,H0,d,ρ',R,e1,λv H0' H' s R' r=>k _ _ _ _ s R' r⟩
theorem Mt(h:PE X e (tFN G f)):PS X (.Return (some e) pos) (tFS G (qK f)):=PS.weak (HI h) λE σ H hh=>by
 obtain⟨F,ρ,H0,o,R,e,k,k2⟩:=hh;unfold qK at e;rcases o5 (f:=f) (ρ:=ρ)with e1|⟨d,ρ',e1⟩<;>simp only[e1]at e
 ·cases e
 ·cases e;exact⟨F,ρ,H0,d,ρ',R,e1,λp xs H0' H' s R' h1 h2 h3 h4 h5=>k _ _ _ _ _ s R' h1 h2 h3 h4 h5⟩
noncomputable def o9(f:FE):FS:=λρ=>match f ρ with
 |some (_,ρ')=>some (.nx ρ')
 |none=>none
theorem Mu{pos:Pos}(h:PE X e (tF G f))(hs:swapsWith e none pos.line X.env=pure false:=by rfl):PS X (.Expr e pos) (tFS G (o9 f)):=PS.weak (Jn h hs) λE σ H hh=>by
 obtain⟨F,ρ,H0,o,R,e,k,k2⟩:=hh;unfold o9 at e;rcases o5 (f:=f) (ρ:=ρ)with e1|⟨d,ρ',e1⟩<;>simp only[e1]at e
 ·cases e
 ·cases e;exact⟨F,ρ,H0,d,ρ',R,e1,λv H0' H' s R' r=>k _ _ _ s R'⟩
noncomputable def sIf(c:FT) (f g:FS):FS:=λρ=>match c ρ with
 |some (true,ρ')=>f ρ'
 |some (false,ρ')=>g ρ'
 |none=>none
theorem SW{g:FS}(hc:PT X c (tFT G h))(ha:PSs X a (tFS G f))(hb:PSs X b (tFS G g)):PS X (.If c a b pos) (tFS G (sIf h f g)):=PS.weak (Wc hc ha hb) λE σ H hh=>by
 obtain⟨F,ρ,H0,o,R,e,k,k2⟩:=hh;unfold sIf at e;rcases o5 (f:=h) (ρ:=ρ)with e1|⟨d,ρ',e1⟩
 ·simp only[e1]at e;cases e
 ·refine⟨F,ρ,H0,d,ρ',R,e1,λH0' H' s R'=>?_⟩;cases d with
  |true=>simp only[e1]at e;exact E6 ⟨F,ρ',H0',o,R',e,k.back s,k2⟩
  |false=>simp only[e1]at e;exact E5 ⟨F,ρ',H0',o,R',e,k.back s,k2⟩
abbrev FG:=D->aZ->Option aZ
def tFG(G:Bg)(n:Nat)(g:FG):TG:=λv σ H Q=>∃F ρ H0 d ρ',oI G F σ ρ H0 H/\Rep G H0 d v/\g d ρ=some ρ'/\∀σ',σ'.drop n=σ.drop n->oI G F σ' ρ' H0 H->Q σ' H
def Mw(G:Bg)(n:Nat)(g:az->aZ->Option aZ):TGs:=λvs σ H Q=>∃F ρ H0 ds ρ',oI G F σ ρ H0 H/\oh G H0 ds vs/\g ds ρ=some ρ'/\∀σ',σ'.drop n=σ.drop n->oI G F σ' ρ' H0 H->Q σ' H
theorem PG.weak{t:TG}(h:PG X e t)(w:∀v σ H Q,t' v σ H Q->t v σ H Q):PG X e t':=λpins s σ H x u Q I r hq=>h pins s σ H x u Q I r (w _ _ _ _ hq)
theorem PGs.weak{t:TGs}(h:PGs X e t)(w:∀v σ H Q,t' v σ H Q->t v σ H Q):PGs X e t':=λpins s σ H x u Q I r hq=>h pins s σ H x u Q I r (w _ _ _ _ hq)
def gN(i:Nat):FG:=λd ρ=>some (ρ.set i (.im d))
theorem Gg{α:Type}{l:List α}{i n:Nat}{x:α}(h:i<n):(l.set i x).drop n=l.drop n:=by apply l6;intro j;rw[cW,cW,bR,aj (by omega)]
theorem Mx(n:Nat)(h:PG X tg (vK i))(hi:i<n):PG X tg (tFG G n (gN i)):=PG.weak h λv σ H Q hh=>by obtain⟨F,ρ,H0,d,ρ',R,r,e,k⟩:=hh;cases e;exact k _ (Gg hi) (R.setIm i r)
def qv:az->aZ->Option aZ:=λds ρ=>match ds with
 |[]=>some ρ
 |_=>none
def oK(g:FG)(gs:az->aZ->Option aZ):az->aZ->Option aZ:=λds ρ=>match ds with
 |d::r=>match g d ρ with
  |some ρ'=>gs r ρ'
  |none=>none
 |[]=>none
theorem Pr{n:Nat}(h:PGs X [] Wd):PGs X [] (Mw G n qv):=PGs.weak h λv σ H Q hh=>by
 obtain⟨F,ρ,H0,ds,ρ',R,r,e,k⟩:=hh;cases ds with
 |nil=>cases e;unfold oh at r;exact⟨r,k _ rfl R⟩
 |cons d ds=>cases e
theorem My{n:Nat}{g:FG}(h:PGs X (e::es) (Rh (tFG G n g) (Mw G n gs))):PGs X (e::es) (Mw G n (oK g gs)):=PGs.weak h λv σ H Q hh=>by
 obtain⟨F,ρ,H0,ds,ρ',R,r,e,k⟩:=hh;cases ds with
 |nil=>cases e
 |cons d ds=>
  unfold oh at r;obtain⟨v1,r1,rfl,q1,q2⟩:=r;unfold oK at e;cases e1:g d ρ with
  |none=>simp only[e1]at e;cases e
  |some ρ1=>simp only[e1]at e;exact⟨v1,r1,rfl,F,ρ,H0,d,ρ1,R,q1,e1,λσ' s R'=>⟨F,ρ1,H0,ds,ρ',R',q2,e,λσ'' s' R''=>k _ (s'.trans s) R''⟩⟩
def gT(gs:az->aZ->Option aZ)(n:Nat):FG:=λd ρ=>match d with
 |.tup ds=>if ds.length=n then gs ds ρ else none
 |_=>none
theorem Pt{n:Nat}{k:Nat}(h:PG X (.Tuple es k pos) (R7 G.K m (Mw G n gs))):PG X (.Tuple es k pos) (tFG G n (gT gs m)):=PG.weak h λv σ H Q hh=>by
 obtain⟨F,ρ,H0,d,ρ',R,r,e,k⟩:=hh;cases d with
 |tup ds=>
  unfold gT at e;simp only at e;split at e
  ·rename_i hl;unfold Rep at r;obtain⟨a,xs,rfl,h1,h2⟩:=r;exact⟨a,xs,rfl,SqT.mono R.sub h1,by rw[<-oi h2];exact hl,F,ρ,H0,ds,ρ',R,h2,e,k⟩
  ·cases e
 |_=>cases e
def Gh(f:FE)(g:FG):FS:=λρ=>match f ρ with
 |some (d,ρ')=>match g d ρ' with
  |some ρ2=>some (.nx ρ2)
  |none=>none
 |none=>none
theorem Pu{st:Stmt}{g:FG}{n:Nat}(h:PS X st (Ab (tF G f) (tFG G n g))):PS X st (tFS G (Gh f g)):=PS.weak h λE σ H hh=>by
 obtain⟨F,ρ,H0,o,R,e,k,k2⟩:=hh;unfold Gh at e;rcases o5 (f:=f) (ρ:=ρ)with e1|⟨d,ρ',e1⟩<;>simp only[e1]at e
 ·cases e
 ·cases e2:g d ρ' with
  |none=>simp only[e2]at e;cases e
  |some ρ2=>simp only[e2]at e;cases e;exact⟨F,ρ,H0,d,ρ',R,e1,λv H0' H' s R' r=>⟨F,ρ',H0',d,ρ2,R',r,e2,λσ' _ R2=>k _ _ _ s R2⟩⟩
def oP(i:Nat)(f:FE):FS:=λρ=>match f ρ with
 |some (d,ρ')=>some (.nx (ρ'.set i (.im d)))
 |none=>none
theorem JC{st:Stmt}(h:PS X st (Ab (tF G f) (vK i))):PS X st (tFS G (oP i f)):=PS.weak h λE σ H hh=>by
 obtain⟨F,ρ,H0,o,R,e,k,k2⟩:=hh;unfold oP at e;rcases o5 (f:=f) (ρ:=ρ)with e1|⟨d,ρ',e1⟩<;>simp only[e1]at e
 ·cases e
 ·cases e;exact⟨F,ρ,H0,d,ρ',R,e1,λv H0' H' s R' r=>k _ _ _ s (R'.setIm i r)⟩
def rS(i:Nat)(f:FA):FS:=λρ=>match f ρ with
 |some (d,ρ')=>some (.nx (ρ'.set i (.ls d)))
 |none=>none
theorem Mz{st:Stmt}(h:PS X st (Ab (tFN G f) (vK i))):PS X st (tFS G (rS i f)):=PS.weak h λE σ H hh=>by
 obtain⟨F,ρ,H0,o,R,e,k,k2⟩:=hh;unfold rS at e;rcases o5 (f:=f) (ρ:=ρ)with e1|⟨d,ρ',e1⟩<;>simp only[e1]at e
 ·cases e
 ·cases e;exact⟨F,ρ,H0,d,ρ',R,e1,λp xs H0' H' s R' h1 h2 h3 h4 h5=>k _ _ _ s (R'.setLs i h1 h2 h3 h4 h5)⟩
def stE(n:Nat)(ds:az):aZ:=ds.map Sl.im++dJ (n - ds.length) .un
def fnD(np n:Nat)(f:FS):az->Option D:=λds=>if ds.length=np then match f (stE n ds)with
 |some (.rt d _)=>some d
 |some (.rn ds _)=>some (.lst ds)
 |some (.nx _)=>some .non
 |_=>none
 else none
def fnN(np n:Nat)(f:FS):az->Option az:=λds=>if ds.length=np then match f (stE n ds)with
 |some (.rn ds _)=>some ds
 |_=>none
 else none
def spF(G:Bg)(g:az->Option D):Sp:=λvs H Q _=>∃H0 ds d,oB H0 H/\oh G H0 ds vs/\g ds=some d/\
 ∀v H0' H',oB H0 H0'->oB H0' H'->oB H H'->(∀b o,H0' b=some o->H0 b=some o\/H b=none)->Rep G H0' d v->Q v H'
def spN(G:Bg)(g:az->Option az):Sp:=λvs H Q _=>∃H0 ds d,oB H0 H/\oh G H0 ds vs/\g ds=some d/\
 ∀p xs H0' H',oB H0 H0'->oB H0' H'->oB H H'->(∀b o,H0' b=some o->H0 b=some o\/H b=none)->H p=none->H' p=some (.lst xs)->H0' p=none->oh G H0' d xs->Q (.ref p) H'
theorem BP{n:Nat}{ds:az}{i:Nat}{s:Sl}(h:(stE n ds)[i]?=some s):s=.un\/∃d,ds[i]?=some d/\s=.im d:=by
 unfold stE at h;by_cases hi:i<ds.length
 ·rw[cF (by simpa using hi),bj,aL hi]at h;cases h;exact .inr ⟨_,aL hi,rfl⟩
 ·rw[cz (by simpa using hi),eV]at h;split at h
  ·cases h;exact .inl rfl
  ·cases h
theorem rH{N:aB}{vs:bA}{i:Nat}{v:V}(h:vs[i]?=some v):((L2.start N vs)[i]?).join=some v:=by unfold L2.start;have hi:=(bQ.mp h).1;rw[cF (by simpa using hi),bj,h];rfl
theorem Eb{N:aB}(s:oB H0 H)(r:oh G H0 ds vs)(hl:vs.length<=N.length):oI G ⟨H0,H,[]⟩ (L2.start N vs) (stE N.length ds) H0 H where
 sub:=s
 g0:=oB.refl _
 keep:=λb o e _=>e
 fr:=λb o e=>.inl e
 am:=λa h=>by cases h
 len:=by unfold L2.start stE;rw[aA,aA,ah,ah,cb,cb,oi r]
 sl:=λi t e=>by
  rcases BP e with rfl|⟨d,e1,rfl⟩
  ·trivial
  ·obtain⟨v,e2,e3⟩:=qj r e1;exact⟨v,rH e2,e3⟩
 ap:=λi j t u a _ e _ ht=>by rcases BP e with rfl|⟨d,_,rfl⟩<;>cases ht
theorem Gi{n:Nat}(h:fnD np n f ds=some d):ds.length=np/\((∃ρ,f (stE n ds)=some (.rt d ρ))\/(∃xs ρ,f (stE n ds)=some (.rn xs ρ)/\d=.lst xs)\/∃ρ,f (stE n ds)=some (.nx ρ)/\d=.non):=by
 unfold fnD at h;split at h
 ·rename_i hl;refine⟨hl,?_⟩;split at h
  ·rename_i e;cases h;exact .inl ⟨_,e⟩
  ·rename_i e;cases h;exact .inr (.inl ⟨_,_,e,rfl⟩)
  ·rename_i e;cases h;exact .inr (.inr ⟨_,e,rfl⟩)
  ·cases h
 ·cases h
theorem Gj{n:Nat}(h:fnN np n f ds=some xs):ds.length=np/\∃ρ,f (stE n ds)=some (.rn xs ρ):=by
 unfold fnN at h;split at h
 ·rename_i hl;refine⟨hl,?_⟩;split at h
  ·rename_i e;cases h;exact⟨_,e⟩
  ·cases h
 ·cases h
end
theorem Pw{N:aB}(hN:np<=N.length)(h:spF G (fnD np N.length f) vs H Q E):tFS G f { nx:=λ_ H'=>Q .non H',rt:=Q } (L2.start N vs) H:=by
 obtain⟨H0,ds,d,s,r,e,k⟩:=h;obtain⟨hl,e'⟩:=Gi e;clear e;have R:=Eb (N:=N) s r (by rw[<-oi r,hl];exact hN);have fin:∀{σ':St} {ρ':aZ} {H0' H':Hp},oI G ⟨H0,H,[]⟩ σ' ρ' H0' H'->oB H H'/\oB H0' H'/\∀b o,H0' b=some o->H0 b=some o\/H b=none:=λR'=>⟨λb o e=>R'.keep b o e (by simp),R'.sub,R'.fr⟩;rcases e' with ⟨ρ,e⟩|⟨xs,ρ,e,rfl⟩|⟨ρ,e,rfl⟩
 ·refine⟨_,_,H0,_,R,e,λv σ' H0' H' s' R' rv=>?_,λ_=>rfl⟩;obtain⟨h1,h2,h3⟩:=fin R';exact k v H0' H' s' h2 h1 h3 rv
 ·refine⟨_,_,H0,_,R,e,λp ys σ' H0' H' s' R' hp h0 hb ap rs=>?_,λ_=>rfl⟩;have R2:=R'.freeze hp h0 hb ap;obtain⟨h1,h2,h3⟩:=fin R2;exact k _ _ H' (s'.trans (oF h0 _)) h2 h1 h3 (uX om (oh.mono (oF h0 _) _ _ rs))
 ·refine⟨_,_,H0,_,R,e,λσ' H0' H' s' R'=>?_,λ_=>rfl⟩;obtain⟨h1,h2,h3⟩:=fin R';exact k _ H0' H' s' h2 h1 h3 zl
theorem Px{N:aB}(hN:np<=N.length)(h:spN G (fnN np N.length f) vs H Q E):tFS G f { nx:=λ_ H'=>Q .non H',rt:=Q } (L2.start N vs) H:=by obtain⟨H0,ds,d,s,r,e,k⟩:=h;obtain⟨hl,ρ,e⟩:=Gj e;have R:=Eb (N:=N) s r (by rw[<-oi r,hl];exact hN);refine⟨_,_,H0,_,R,e,λp ys σ' H0' H' s' R' hp h0 hb ap rs=>?_,λ_=>rfl⟩;exact k p ys H0' H' s' R'.sub (λb o e=>R'.keep b o e (by simp)) R'.fr hb hp h0 rs
theorem WG{g:az->Option D}(hg:∀ds d,g ds=some d->ds.length=np):∀vs H Q E,spF G g vs H Q E->vs.length=np:=λvs H Q E h=>by obtain⟨H0,ds,d,_,r,e,_⟩:=h;rw[<-oi r];exact hg _ _ e
theorem WH{g:az->Option az}(hg:∀ds d,g ds=some d->ds.length=np):∀vs H Q E,spN G g vs H Q E->vs.length=np:=λvs H Q E h=>by obtain⟨H0,ds,d,_,r,e,_⟩:=h;rw[<-oi r];exact hg _ _ e
theorem Py{n:Nat}:∀ds d,fnD np n f ds=some d->ds.length=np:=λ_ _ h=>(Gi h).1
theorem Pz{n:Nat}:∀ds d,fnN np n f ds=some d->ds.length=np:=λ_ _ h=>(Gj h).1
def Ah{α:Type}(g:az->Option α)(a:FA):aZ->Option (α×aZ):=λρ=>match a ρ with
 |some (ds,ρ')=>match g ds with
  |some d=>some (d,ρ')
  |none=>none
 |none=>none
abbrev oa(g:az->Option D)(a:FA):FE:=Ah g a
abbrev pe(g:az->Option az)(a:FA):FA:=Ah g a
theorem yT{α:Type}{g:az->Option α}{a:FA}{ρ ρ':aZ}{d:α}(h:Ah g a ρ=some (d,ρ')):∃ds,a ρ=some (ds,ρ')/\g ds=some d:=by
 unfold Ah at h;rcases o5 (f:=a) (ρ:=ρ)with e1|⟨ds,ρ1,e1⟩<;>simp only[e1]at h
 ·cases h
 ·cases e2:g ds with
  |none=>simp only[e2]at h;cases h
  |some x=>simp only[e2]at h;cases h;exact⟨ds,e1,e2⟩
section
variable{X:Cx}{G:Bg}
theorem PB{g:az->Option D}(hd:∀H,oh G H dds dvs):∀σ H Q,tF G (oa (λds=>g (ds++dds)) a) σ H Q->xp (spF G g) dvs E (tFA G a) σ H Q:=λσ H Q hh=>by obtain⟨F,ρ,H0,d,ρ',R,e,k⟩:=hh;obtain⟨ds,e1,e2⟩:=yT e;refine⟨F,ρ,H0,ds,ρ',R,e1,λxs H1 H1' s R' rs=>⟨H1,ds++dds,d,R'.sub,qJ rs (hd _),e2,λv H2 H2' s1 s2 s3 fr rv=>?_⟩⟩;exact k v H2 H2' (s.trans s1) (R'.grow s3 s1 s2 fr) rv
theorem PD{g:az->Option az}(hd:∀H,oh G H dds dvs):∀σ H Q,tFN G (pe (λds=>g (ds++dds)) a) σ H Q->xp (spN G g) dvs E (tFA G a) σ H Q:=λσ H Q hh=>by obtain⟨F,ρ,H0,d,ρ',R,e,k⟩:=hh;obtain⟨ds,e1,e2⟩:=yT e;refine⟨F,ρ,H0,ds,ρ',R,e1,λxs H1 H1' s R' rs=>⟨H1,ds++dds,d,R'.sub,qJ rs (hd _),e2,λp ys H2 H2' s1 s2 s3 fr hn hp h0 rv=>?_⟩⟩;exact k p ys H2 H2' (s.trans s1) (R'.grow s3 s1 s2 fr) hp h0 (R'.bNone hn) (R'.apart hn) rv
end
section
variable{X:Cx}{G:Bg}
theorem PF{g:az->Option D}(hd:∀H,oh G H dds dvs)(h:PE X e (xp (spF G g) dvs E (tFA G a))):PE X e (tF G (oa (λds=>g (ds++dds)) a)):=PE.weak h (PB hd)
theorem MA{g:az->Option az}(hd:∀H,oh G H dds dvs)(h:PE X e (xp (spN G g) dvs E (tFA G a))):PE X e (tFN G (pe (λds=>g (ds++dds)) a)):=PE.weak h (PD hd)
theorem KQ{g:az->Option az}(h:PE X e (xp (spN G g) [] E FZ)):PE X e (tFN G (pe g oq)):=PE.weak h λσ H Q hh=>by obtain⟨F,ρ,H0,d,ρ',R,e,k⟩:=hh;obtain⟨ds,e1,e2⟩:=yT e;cases e1;exact⟨H0,[],d,R.sub,oZ,e2,λp ys H2 H2' s1 s2 s3 fr hn hp h0 rv=>k p ys H2 H2' s1 (R.grow s3 s1 s2 fr) hp h0 (R.bNone hn) (R.apart hn) rv⟩
def KR:aB->az->Str->Option D
 |n::ns,d::ds,f=>if n=f then some d else KR ns ds f
 |_,_,_=>none
theorem Ec:∀{ns:aB} {ds:az} {xs:bA} {f:Str} {d:D},oh G H ds xs->KR ns ds f=some d->∃v,(ns.zip xs).lookup f=some v/\Rep G H d v
 |[],ds,xs,f,d,r,e=>by simp[KR]at e
 |n::ns,[],xs,f,d,r,e=>by simp[KR]at e
 |n::ns,d'::ds,xs,f,d,r,e=>by
  unfold oh at r;obtain⟨v,q,rfl,h1,h2⟩:=r;unfold KR at e;by_cases hn:n=f
  ·rw[ai hn]at e;cases e;subst hn;exact⟨v,by simp[cO],h1⟩
  ·rw[aj hn]at e;obtain⟨w,e1,e2⟩:=Ec h2 e;refine⟨w,?_,e2⟩;have hb:(f==n)=false:=beq_eq_false_iff_ne.mpr λz=>hn z.symm;simp only[df,cO,hb];exact e1
def oN(ok:Nat->Bool)(f:Str):D->Option D
 |.obj c ns ds=>if ok c=true then KR ns ds f else none
 |_=>none
theorem MB{ok:Nat->Bool}(he:PE X e (tF G ff))(hc:∀c,ok c=true->Cls X.K (G.ca c)/\uy X.K (G.ca c) f)(hb:attributeBase e f X.env (eval e X.env)=eval e X.env:=by rfl):PE X (.Attribute e f pos) (tF G (c1 (oN ok f) ff)):=PE.weak (So he hb) λσ H Q hh=>by
 obtain⟨F,ρ,H0,d,ρ',R,e,k⟩:=hh;obtain⟨x,e1,e2⟩:=BO e;cases x with
 |obj c ns ds=>
  unfold oN at e2;simp only at e2;split at e2
  ·rename_i hk;refine⟨F,ρ,H0,_,ρ',R,e1,λv H1 H1' s R' r=>?_⟩;unfold Rep at r;obtain⟨a,dx,xs,rfl,h1,h2,h3⟩:=r;obtain⟨w,l1,l2⟩:=Ec h3 e2;exact⟨a,_,dx,_,w,rfl,R'.sub _ _ h1,(hc c hk).1,(hc c hk).2,l1,k _ _ _ s R' l2⟩
  ·cases e2
 |_=>cases e2
def MOk(X:Cx)(C:Addr)(m:Str)(sp:Sp)(dvs:bA)(E:XK):Prop:=∃(k:Nat) (f:Addr) (fd:bW) (ps:aB) (ds:List ae),Cls X.K C/\Meth X.K C m f/\su X.prog X.w X.K X.mg X.base CX0 k f fd ps sp/\qa k X.A/\Binds X.K fd ps ds/\Vals dvs ds/\Passes CX0 X E
def o6(g:Nat->Option (az->Option D))(m:Str)(f:FE)(a:FA):FE:=λρ=>match f ρ with
 |some (.obj c ns ds,ρ1)=>match g c with
  |some h=>if ns.contains m=true then none else match a ρ1 with
   |some (es,ρ2)=>match h (.obj c ns ds::es)with
    |some d=>some (d,ρ2)
    |none=>none
   |none=>none
  |none=>none
 |_=>none
theorem Ce{g:Nat->Option (az->Option D)}(h:o6 g m f a ρ=some (d,ρ')):
  ∃c ns ds ρ1 hh es,f ρ=some (.obj c ns ds,ρ1)/\g c=some hh/\ns.contains m=false/\a ρ1=some (es,ρ')/\hh (.obj c ns ds::es)=some d:=by
 unfold o6 at h;split at h
 ·rename_i c ns ds ρ1 e1;cases e2:g c with
  |none=>simp only[e2]at h;cases h
  |some hh=>
   simp only[e2]at h;cases e3:ns.contains m with
   |true=>simp only[e3,if_true]at h;cases h
   |false=>
    simp only[e3,dZ,if_false]at h;rcases o5 (f:=a) (ρ:=ρ1)with e4|⟨es,ρ2,e4⟩<;>simp only[e4]at h
    ·cases h
    ·cases e5:hh (.obj c ns ds::es)with
     |none=>simp only[e5]at h;cases h
     |some x=>simp only[e5]at h;cases h;exact⟨c,ns,ds,ρ1,hh,es,e1,e2,e3,e4,e5⟩
 ·cases h
theorem yU:∀{ns:aB} {xs:bA},ns.contains m=false->(ns.zip xs).lookup m=none
 |[],xs,h=>rfl
 |n::ns,[],h=>rfl
 |n::ns,x::xs,h=>by rw[lY,ji]at h;simp only[df,cO,h.1];exact yU h.2
theorem MC{t:TA}{pl:Sem Bool}(T:Addr->Sp->Prop)(hT:∀C sp,T C sp->MOk X C m sp dvs E)(he:PE X o ta)(ha:PA X (e::es) t)
  (hst:starEach (e::es) X.env=(false,eval e X.env)::starEach es X.env:=by rfl) (hpl:(backTo pos (starEach es X.env)).any (·.1)=false:=by rfl)
  (ht:eval (.Call (.Attribute o m apos) (e::es) [] pos) X.env=(do
   let ov<-eval o X.env
   standAt apos.atName
   let (f,first)<-holding [ov] (getMethod ov m pl)
   callWith pos f first (backTo pos (starEach (e::es) X.env)) (backToKw pos (keywordEach [] X.env))):=by rfl):
  PE X (.Call (.Attribute o m apos) (e::es) [] pos) (λσ H Q=>ta σ H λx H1=>∃a C dx fs sp,x=.ref a/\H1 a=some (.ins C dx fs)/\T C sp/\fs.lookup m=none/\t σ H1 λvs H2=>sp (x::(vs++dvs)) H2 Q E):=by
 intro pins s σ H Q I h;refine mE (pl:=pl) (thn (he pins s σ H _ I h) λu s1 zz=>?_) ht;obtain⟨x,H1,I1,rx,a,C,dx,fs,sp,ex,ea,ht,l,q⟩:=zz;obtain⟨k,f,fd,ps,ds,c,hm,F,hr,hb,hd,hx⟩:=hT C sp ht;subst ex;obtain rfl:u=Value.ref a:=rx;refine BZ I1 ea c hm l ?_;refine jX (first:=[.ref a]) (h₀:=X.base) I.ok.mod.kin hm.kp (thn (ha pos pins s1 σ H1 _ I1 q) λus s2 ⟨vs,H2,I2,r,q2⟩=>⟨I2.kIn,?_⟩) hst hpl;exact EU (us:=.ref a::us) (vs:=.ref a::vs) F hr hb hd hx I2 (.cons rfl r) q2
theorem KU{pl:Sem Bool}(T:Addr->Sp->Prop)(hT:∀C sp,T C sp->MOk X C m sp dvs E)(he:PE X o ta)
  (ht:eval (.Call (.Attribute o m apos) [] [] pos) X.env=(do
   let ov<-eval o X.env
   standAt apos.atName
   let (f,first)<-holding [ov] (getMethod ov m pl)
   callWith pos f first (backTo pos (starEach [] X.env)) (backToKw pos (keywordEach [] X.env))):=by rfl):
  PE X (.Call (.Attribute o m apos) [] [] pos) (λσ H Q=>ta σ H λx H1=>∃a C dx fs sp,x=.ref a/\H1 a=some (.ins C dx fs)/\T C sp/\fs.lookup m=none/\sp (x::dvs) H1 Q E):=by
 intro pins s σ H Q I h;refine mE (pl:=pl) (thn (he pins s σ H _ I h) λu s1 zz=>?_) ht;obtain⟨x,H1,I1,rx,a,C,dx,fs,sp,ex,ea,ht,l,q⟩:=zz;obtain⟨k,f,fd,ps,ds,c,hm,F,hr,hb,hd,hx⟩:=hT C sp ht;subst ex;obtain rfl:u=Value.ref a:=rx;refine BZ I1 ea c hm l ?_;exact jM (first:=[.ref a]) I1.kIn hm.kp (EU (us:=[.ref a]) (vs:=[.ref a]) F hr hb hd hx I1 (.cons rfl .nil) q)
def MT(G:Bg)(g:Nat->Option (az->Option D)):Addr->Sp->Prop:=λC sp=>∃c h,g c=some h/\C=G.ca c/\sp=spF G h
theorem PH{g:Nat->Option (az->Option D)}(h:PE X (.Call (.Attribute o m apos) (e::es) [] pos) (λσ H Q=>tF G f σ H λx H1=>∃a' C dx fs sp,x=.ref a'/\H1 a'=some (.ins C dx fs)/\MT G g C sp/\fs.lookup m=none/\tFA G a σ H1 λvs H2=>sp (x::(vs++[])) H2 Q E)):
  PE X (.Call (.Attribute o m apos) (e::es) [] pos) (tF G (o6 g m f a)):=PE.weak h λσ H Q hh=>by
 obtain⟨F,ρ,H0,d,ρ',R,e,k⟩:=hh;obtain⟨c,ns,ds,ρ1,hh,es',e1,e2,e3,e4,e5⟩:=Ce e;refine⟨F,ρ,H0,_,ρ1,R,e1,λv H1 H1' s R' r=>?_⟩;have r0:=r;unfold Rep at r;obtain⟨a',dx,xs,rfl,h1,h2,h3⟩:=r;refine⟨a',_,dx,_,_,rfl,R'.sub _ _ h1,⟨c,hh,e2,rfl,rfl⟩,yU e3,F,ρ1,H1,es',ρ',R',e4,λys H2 H2' s2 R2 rs=>?_⟩;show spF G hh (V.ref a'::(ys++[])) H2' Q E;rw[bt];exact⟨H2,_,d,R2.sub,oW (Rep.mono s2 _ _ r0) rs,e5,λv H3 H3' t1 t2 t3 fr rv=>k v H3 H3' (s.trans (s2.trans t1)) (R2.grow t3 t1 t2 fr) rv⟩
theorem ME{g:Nat->Option (az->Option D)}(h:PE X (.Call (.Attribute o m apos) [] [] pos) (λσ H Q=>tF G f σ H λx H1=>∃a' C dx fs sp,x=.ref a'/\H1 a'=some (.ins C dx fs)/\MT G g C sp/\fs.lookup m=none/\sp (x::[]) H1 Q E)):
  PE X (.Call (.Attribute o m apos) [] [] pos) (tF G (o6 g m f oq)):=PE.weak h λσ H Q hh=>by
 obtain⟨F,ρ,H0,d,ρ',R,e,k⟩:=hh;obtain⟨c,ns,ds,ρ1,hh,es',e1,e2,e3,e4,e5⟩:=Ce e;cases e4;refine⟨F,ρ,H0,_,_,R,e1,λv H1 H1' s R' r=>?_⟩;have r0:=r;unfold Rep at r;obtain⟨a',dx,xs,rfl,h1,h2,h3⟩:=r;refine⟨a',_,dx,_,_,rfl,R'.sub _ _ h1,⟨c,hh,e2,rfl,rfl⟩,yU e3,?_⟩;exact⟨H1,_,d,R'.sub,oW r0 oZ,e5,λv H3 H3' t1 t2 t3 fr rv=>k v H3 H3' (s.trans t1) (R'.grow t3 t1 t2 fr) rv⟩
def spI(G:Bg)(c:Nat)(g:az->Option (aB×az)):Sp:=λvs H Q _=>∃(p dx:Addr) (us:bA) (H0:Hp) (ds:az) (ns:aB) (es:az),vs=.ref p::us/\H p=some (.ins (G.ca c) dx [])/\H0 p=none/\oB H0 H/\oh G H0 ds us/\g ds=some (ns,es)/\
 ∀ys dx' H0' H',oB H0 H0'->oB H0' H'->(∀b o,H b=some o->b≠p->H' b=some o)->(∀b o,H0' b=some o->H0 b=some o\/H b=none)->H0' p=none->H' p=some (.ins (G.ca c) dx' (ns.zip ys))->ns.length=ys.length->oh G H0' es ys->Q .non H'
def o7(c:Nat)(g:az->Option (aB×az))(a:FA):FE:=λρ=>match a ρ with
 |some (ds,ρ')=>match g ds with
  |some (ns,es)=>some (.obj c ns es,ρ')
  |none=>none
 |none=>none
theorem PJ{g:az->Option (aB×az)}(hd:∀H,oh G H dds dvs)(h:PE X e (Rk (G.ca c) (spI G c g) dvs E (tFA G a))):PE X e (tF G (o7 c (λds=>g (ds++dds)) a)):=PE.weak h λσ H Q hh=>by
 obtain⟨F,ρ,H0,d,ρ',R,e,k⟩:=hh;unfold o7 at e;rcases o5 (f:=a) (ρ:=ρ)with e1|⟨ds,ρ1,e1⟩<;>simp only[e1]at e
 ·cases e
 ·cases e2:g (ds++dds)with
  |none=>simp only[e2]at e;cases e
  |some q=>
   obtain⟨ns,es⟩:=q;simp only[e2]at e;cases e;refine⟨F,ρ,H0,ds,ρ',R,e1,λxs H1 H1' s R' rs x dx hx hdx ne=>?_⟩;have hx2:(upd H1' dx (.own x)) x=none:=by rw[oo (λz=>ne z.symm)];exact hx
   have sx:oB H1' (upd (upd H1' dx (.own x)) x (.ins (G.ca c) dx [])):=(oF hdx _).trans (oF hx2 _);refine⟨x,dx,_,H1,ds++dds,ns,es,rfl,om,R'.h0none hx,R'.sub.trans sx,qJ rs (hd _),e2,λys dx' H2 H2' t1 t2 t3 fr h0 hp hl ry=>⟨rfl,?_⟩⟩;have t4:oB H1' H2':=λb o e=>t3 b o (sx b o e) (ra e hx);have fr1:∀b o,H2 b=some o->H1 b=some o\/H1' b=none:=λb o e=>by
    rcases fr b o e with q|q
    ·exact .inl q
    ·cases z:H1' b with
     |none=>exact .inr rfl
     |some u=>rw[sx b u z]at q;cases q
   have R2:=R'.grow t4 t1 t2 fr1;have hb:F.B x=none:=R'.bNone hx;have R3:=R2.freeze hp h0 hb (λi t ei to z=>R'.apart hx i t ei to z);refine k _ _ _ (s.trans (t1.trans (oF h0 _))) R3 ?_;unfold Rep;exact⟨x,dx',ys,rfl,om,hl,oh.mono (oF h0 _) _ _ ry⟩
def pz(c0:Nat)(i:Nat)(f:Str)(ff:FE):FS:=λρ=>match ff ρ with
 |some (d,ρ1)=>match ρ1[i]? with
  |some (.ob c ns ds)=>if c=c0 then if ns.contains f=true then none else if ds.length=ns.length then if ns.length<900 then some (.nx (ρ1.set i (.ob c (ns++[f]) (ds++[d]))))else none else none else none
  |_=>none
 |none=>none
theorem Gk{v:V}:∀{ns:aB} {xs:bA},ns.contains f=false->ns.length=xs.length->vL f v (ns.zip xs)=(ns++[f]).zip (xs++[v])
 |[],[],h,l=>rfl
 |[],x::xs,h,l=>by cases l
 |n::ns,[],h,l=>by cases l
 |n::ns,x::xs,h,l=>by
  rw[lY,ji]at h;have hn:¬n=f:=λz=>by rw[z]at h;simp at h
  have ih:=Gk (f:=f) (v:=v) (ns:=ns) (xs:=xs) h.2 (by simpa using l);show vL f v ((n,x)::ns.zip xs)=_;rw[show vL f v ((n,x)::ns.zip xs)=(if n=f then (n,v)::ns.zip xs else (n,x)::vL f v (ns.zip xs)) from rfl,aj hn,ih];rfl
theorem PK{st:Stmt}(h:PS X st (Wm X.K (vp i) (tF G ff) f))(hc:Cls X.K (G.ca c0)/\uy X.K (G.ca c0) f):PS X st (tFS G (pz c0 i f ff)):=PS.weak h λE σ H hh=>by
 obtain⟨F,ρ,H0,o,R,e,k,k2⟩:=hh;unfold pz at e;rcases o5 (f:=ff) (ρ:=ρ)with e1|⟨d,ρ1,e1⟩<;>simp only[e1]at e
 ·cases e
 ·split at e
  ·rename_i c ns ds e2;split at e
   ·rename_i hcc;subst hcc;split at e
    ·cases e
    rename_i hnc;split at e
    ·rename_i hl;split at e
     ·rename_i h9;cases e;refine⟨F,ρ,H0,d,ρ1,R,e1,λv H1 H1' s R' r=>?_⟩;obtain⟨a,dx,xs,e3,e4,e5,e6,e7,e8⟩:=R'.sl i _ e2;refine⟨_,rf e3,a,_,dx,_,rfl,e4,hc.1,hc.2,by rw[eD];omega,?_⟩;have hnf:ns.contains f=false:=by simpa using hnc
      rw[Gk hnf e7];refine k _ _ _ s (R'.mut e2 rfl e3 (λH' hH=>?_) rfl);exact⟨a,dx,xs++[v],rfl,hH,e5,e6,by rw[aA,aA,e7];rfl,qJ e8 (oW r oZ)⟩
     ·cases e
    ·cases e
   ·cases e
  ·cases e
def stI(c n:Nat)(ds:az):aZ:=.ob c [] []::stE (n - 1) ds
def fnI(c np n:Nat)(f:FS):az->Option (aB×az):=λds=>if ds.length=np then match f (stI c n ds)with
 |some (.nx ρ)=>match (ρ:aZ)[0]? with
  |some (Sl.ob c' ns es)=>if c'=c then if ns.length=es.length then some (ns,es)else none else none
  |_=>none
 |_=>none
 else none
theorem Cf{n:Nat}(h:fnI c np n f ds=some q):ds.length=np/\∃ρ,f (stI c n ds)=some (.nx ρ)/\ρ[0]?=some (.ob c q.1 q.2)/\q.1.length=q.2.length:=by
 unfold fnI at h;split at h
 ·rename_i hl;refine⟨hl,?_⟩;split at h
  ·rename_i ρ e;split at h
   ·rename_i c' ns es e2;split at h
    ·rename_i hc;split at h
     ·rename_i h3;subst hc;cases h;exact⟨ρ,e,e2,h3⟩
     ·cases h
    ·cases h
   ·cases h
  ·cases h
 ·cases h
theorem JD{N:aB}(hN:np+1<=N.length)(h:spI G c (fnI c np N.length f) vs H Q E):tFS G f { nx:=λ_ H'=>Q .non H',rt:=Q } (L2.start N vs) H:=by
 obtain⟨p,dx,us,H0,ds,ns,es,rfl,hp,h0,s,r,e,k⟩:=h;obtain⟨hl,ρ,e1,e2,e3⟩:=Cf e;have hul:us.length=np:=by rw[<-oi r];exact hl
 have gets:∀{i:Nat} {t:Sl},(stI c N.length ds)[i]?=some t->(i=0/\t=.ob c [] [])\/t=.un\/∃(j:Nat) (d:D),i=j+1/\ds[j]?=some d/\t=.im d:=λ{i t} e=>by
  cases i with
  |zero=>cases e;exact .inl ⟨rfl,rfl⟩
  |succ j=>
   have e':(stE (N.length - 1) ds)[j]?=some t:=e;rcases BP e' with rfl|⟨d,e1,rfl⟩
   ·exact .inr (.inl rfl)
   ·exact .inr (.inr ⟨j,d,rfl,e1,rfl⟩)
 have R:oI G ⟨H0,H,[p]⟩ (L2.start N (.ref p::us)) (stI c N.length ds) H0 H:={
  sub:=s
  g0:=oB.refl _
  keep:=λb o e _=>e
  fr:=λb o e=>.inl e
  am:=λa ha=>by
   have ea:a=p:=by simpa using ha
   subst ea;exact⟨_,hp⟩
  len:=by unfold L2.start stI stE;simp only[aA,ah,cb,aE];have:=oi r;omega
  sl:=λi t e=>by
   rcases gets e with ⟨rfl,rfl⟩|rfl|⟨j,d,rfl,e1,rfl⟩
   ·exact⟨p,dx,[],rH rfl,hp,h0,by simp,rfl,oZ⟩
   ·trivial
   ·obtain⟨v,e2,e3⟩:=qj r e1;exact⟨v,rH (by simpa using e2),e3⟩
  ap:=λi j t u a hij ei ej ht hu=>by
   rcases gets ei with ⟨rfl,rfl⟩|rfl|⟨_,_,_,_,rfl⟩
   ·rcases gets ej with ⟨rfl,rfl⟩|rfl|⟨_,_,_,_,rfl⟩
    ·exact ao rfl hij
    ·cases hu
    ·cases hu
   ·cases ht
   ·cases ht }
 refine⟨_,_,H0,_,R,e1,λσ' H0' H' s' R'=>?_,λ_=>rfl⟩;obtain⟨a,dx',ys,q1,q2,q3,q4,q5,q6⟩:=R'.sl 0 _ e2;have ea:a=p:=by simpa using q4
 subst ea;exact k ys dx' H0' H' s' R'.sub (λb o e n=>R'.keep b o e (by simpa using n)) R'.fr q3 q2 q5 q6
end
def Sl.L:Sl->Option az
 |.ls ds=>some ds
 |.pm ds=>some ds
 |_=>none
def Sl.putL:Sl->az->Sl
 |.pm _,ds=>.pm ds
 |_,ds=>.ls ds
theorem Sl.L_own{s:Sl}(h:s.L=some ds):s.own=true:=by cases s<;>first|rfl|cases h
theorem Sl.putL_L{s:Sl}:(s.putL ds).L=some ds:=by cases s<;>rfl
section
variable{G:Bg}{F:Fr}{σ:St}{ρ:aZ}{H0 H:Hp}
theorem yS.lst{o:Option V}{s:Sl}{ds:az}(h:yS G F H0 H o s)(e:s.L=some ds):∃a xs,o=some (.ref a)/\H a=some (.lst xs)/\H0 a=none/\oh G H0 ds xs:=by
 cases s with
 |ls ds'=>cases e;obtain⟨a,xs,h1,h2,h3,h4,h5⟩:=h;exact⟨a,xs,h1,h2,h3,h5⟩
 |pm ds'=>cases e;obtain⟨a,xs,h1,h2,h3,h4,h5⟩:=h;exact⟨a,xs,h1,h2,h3,h5⟩
 |_=>cases e
theorem oI.mutL(R:oI G F σ ρ H0 H){s:Sl}(hi:ρ[i]?=some s)(hs:s.L=some ds)(ha:(σ[i]?).join=some (.ref a))(r:oh G H0 ds' xs'):
  oI G F σ (ρ.set i (s.putL ds')) H0 (upd H a (.lst xs')):=by
 have ok:=R.sl i s hi;rw[ha]at ok;refine R.mut hi (Sl.L_own hs) ha (λH' hH=>?_) (Sl.L_own Sl.putL_L);cases s with
 |ls ds0=>obtain⟨b,xs,h1,h2,h3,h4,h5⟩:=ok;cases h1;exact⟨a,xs',rfl,hH,h3,h4,r⟩
 |pm ds0=>obtain⟨b,xs,h1,h2,h3,h4,h5⟩:=ok;cases h1;exact⟨a,xs',rfl,hH,h3,h4,r⟩
 |_=>cases hs
end
def pZ(ρ:aZ)(i:Nat):Option az:=match ρ[i]? with
 |some s=>s.L
 |none=>none
theorem rJ(h:pZ ρ i=some ds):∃s,ρ[i]?=some s/\s.L=some ds:=by
 unfold pZ at h;cases e:ρ[i]? with
 |none=>rw[e]at h;cases h
 |some s=>rw[e]at h;exact⟨s,rfl,h⟩
def putAt(ρ:aZ)(i:Nat)(ds:az):aZ:=match ρ[i]? with
 |some s=>ρ.set i (s.putL ds)
 |none=>ρ
def uC(i:Nat)(f:FE):FE:=λρ=>match pZ ρ i with
 |some _=>match f ρ with
  |some (d,ρ1)=>match pZ ρ1 i with
   |some ds=>if ds.length<1000 then some (.non,putAt ρ1 i (ds++[d]))else none
   |none=>none
  |none=>none
 |none=>none
section
variable{X:Cx}{G:Bg}
theorem qw(R:oI G F σ ρ H0 H)(h:pZ ρ i=some ds):∃a xs,σ[i]?=some (some (.ref a))/\H a=some (.lst xs)/\oh G H0 ds xs/\
  (∀ds' xs',oh G H0 ds' xs'->oI G F σ (putAt ρ i ds') H0 (upd H a (.lst xs'))):=by
 obtain⟨s,e1,e2⟩:=rJ h;obtain⟨a,xs,e3,e4,e5,e6⟩:=(R.sl i s e1).lst e2;refine⟨a,xs,rf e3,e4,e6,λds' xs' r=>?_⟩;unfold putAt;rw[e1];exact R.mutL e1 e2 e3 r
theorem KW(h:PE X e (tBM G.K "list" E2 (vp i) (tFA G (nY f oq)))):PE X e (tF G (uC i f)):=PE.weak h λσ H Q hh=>by
 obtain⟨F,ρ,H0,d,ρ',R,e,k⟩:=hh;unfold uC at e;cases e0:pZ ρ i with
 |none=>simp only[e0]at e;cases e
 |some ds0=>
  simp only[e0]at e;rcases o5 (f:=f) (ρ:=ρ)with e1|⟨x,ρ1,e1⟩<;>simp only[e1]at e
  ·cases e
  ·cases e2:pZ ρ1 i with
   |none=>simp only[e2]at e;cases e
   |some ds=>
    simp only[e2]at e;split at e
    ·rename_i hl;cases e;obtain⟨a,xs,s1,s2,s3,_⟩:=qw R e0;refine⟨.ref a,s1,.inl ⟨rfl,xs,SqL.of s2⟩,F,ρ,H0,[x],ρ1,R,by unfold nY;rw[e1];rfl,λys H1 H1' s R' rs=>?_⟩;unfold oh at rs;obtain⟨v,r0,rfl,rv,rn⟩:=rs;unfold oh at rn;subst rn;obtain⟨a',xs',t1,t2,t3,t4⟩:=qw R' e2;rw[s1]at t1;cases t1;exact⟨a,xs',v,rfl,rfl,t2,by rw[<-oi t3];exact yh (by omega),k _ _ _ s (t4 _ _ (qJ t3 (oW rv oZ))) zl⟩
    ·cases e
def JE(i:Nat):FE:=λρ=>match pZ ρ i with
 |some (d::ds)=>some (d,putAt ρ i ds)
 |_=>none
theorem PL(h:PE X e (tBM G.K "list" HU (vp i) (B2 (tC (.int 0)) FZ))):PE X e (tF G (JE i)):=PE.weak h λσ H Q hh=>by
 obtain⟨F,ρ,H0,d,ρ',R,e,k⟩:=hh;unfold JE at e;split at e
 ·rename_i d' ds e0;cases e;obtain⟨a,xs,s1,s2,s3,s4⟩:=qw R e0;unfold oh at s3;obtain⟨v,r,rfl,r1,r2⟩:=s3;refine⟨.ref a,s1,.inl ⟨rfl,_,SqL.of s2⟩,a,v::r,0,0,v,rfl,rfl,s2,by decide,by decide,?_,rfl,?_⟩
  ·unfold seqIndex?;simp
  ·exact k _ _ _ (oB.refl _) (s4 _ _ r2) r1
 ·cases e
theorem zm(r:oh G H0 ds xs)(h:atI ds i=some d):∃v,atI xs i=some v/\Rep G H0 d v:=by
 unfold atI at h ⊢;rw[<-oi r];cases e:ixN ds.length i with
 |none=>rw[e]at h;cases h
 |some j=>rw[e]at h;exact qj r h
def Ai(i:Nat)(f:FE):FE:=λρ=>match pZ ρ i with
 |some _=>match f ρ with
  |some (.int j,ρ1)=>match pZ ρ1 i with
   |some ds=>match atI ds j with
    |some d=>some (d,ρ1)
    |none=>none
   |none=>none
  |_=>none
 |none=>none
theorem SX(h:PE X e (tOp (OZ G.K) (vp i) (tF G f))):PE X e (tF G (Ai i f)):=PE.weak h λσ H Q hh=>by
 obtain⟨F,ρ,H0,d,ρ',R,e,k⟩:=hh;unfold Ai at e;cases e9:pZ ρ i with
 |none=>simp only[e9]at e;cases e
 |some ds9=>
  simp only[e9]at e;obtain⟨a9,xs9,ev,_⟩:=qw R e9;split at e
  ·rename_i j ρ1 e1;cases e0:pZ ρ1 i with
   |none=>simp only[e0]at e;cases e
   |some ds=>
    simp only[e0]at e;cases e2:atI ds j with
    |none=>simp only[e2]at e;cases e
    |some x=>simp only[e2]at e;cases e;refine⟨.ref a9,ev,F,ρ,H0,_,_,R,e1,λu H1 H1' s R' r=>?_⟩;unfold Rep at r;subst r;obtain⟨a,xs,s1,s2,s3,s4⟩:=qw R' e0;rw[ev]at s1;cases s1;obtain⟨w,w1,w2⟩:=zm s3 e2;exact⟨_,xs,j,w,rfl,rfl,SqL.of s2,w1,k _ _ _ s R' w2⟩
  ·cases e
def cFz(i:Nat):FE:=λρ=>match ρ[i]? with
 |some (.ls ds)=>some (.lst ds,ρ.set i (.im (.lst ds)))
 |some (.dk ks ds)=>some (.dic ks ds,ρ.set i (.im (.dic ks ds)))
 |some (.im d)=>some (d,ρ)
 |_=>none
theorem oI.toIm(R:oI G F σ ρ H0 H){s:Sl}(hi:ρ[i]?=some s)(hs:(σ[i]?).join=some (.ref p))(so:s.own=true)(hp:H p=some o)(h0:H0 p=none)(hb:F.B p=none)(r:Rep G (upd H0 p o) d (.ref p)):
  oI G F σ (ρ.set i (.im d)) (upd H0 p o) H where
 sub:=λb u e=>by
  by_cases hb:b=p
  ·subst hb;rw[om]at e;cases e;exact hp
  ·rw[oo hb]at e;exact R.sub _ _ e
 g0:=R.g0.trans (oF h0 o)
 keep:=R.keep
 fr:=λb u e=>by
  by_cases hb':b=p
  ·subst hb';exact .inr hb
  ·rw[oo hb']at e;exact R.fr _ _ e
 am:=R.am
 len:=by rw[dH];exact R.len
 sl:=λj t e=>by
  rw[bR]at e;by_cases h:i=j
  ·subst h;rw[ai rfl]at e;split at e
   ·cases e;exact⟨_,hs,r⟩
   ·cases e
  ·rw[aj h]at e;refine(R.sl j t e).grow (oF h0 o) (λa u _ _ q=>q) λa u z to q q0=>?_;rw[oo (λy=>by subst y;exact R.ap j i t s a (λy=>h y.symm) e hi to so z hs)];exact q0
 ap:=λj k t u b hjk ej ek tj tk vj vk=>by
  have gen:∀{m:Nat} {x:Sl},(ρ.set i (.im d))[m]?=some x->x.own=true->ρ[m]?=some x:=λ{m x} e xo=>by
   rw[bR]at e;by_cases h:i=m
   ·subst h;rw[ai rfl]at e;split at e
    ·cases e;cases xo
    ·cases e
   ·rw[aj h]at e;exact e
  exact R.ap j k t u b hjk (gen ej tj) (gen ek tk) tj tk vj vk
theorem oI.toImD(R:oI G F σ ρ H0 H){s:Sl}(hi:ρ[i]?=some s)(hs:(σ[i]?).join=some (.ref p))(so:s.own=true)(h0:H0 p=none)(hb:F.B p=none)(r:Rep G (upd H0 p o) d (.ref p)):
  oI G F σ (ρ.set i (.im d)) (upd H0 p o) (upd H p o) where
 sub:=λb u e=>by
  by_cases hb:b=p
  ·subst hb;rw[om]at e ⊢;exact e
  ·rw[oo hb]at e ⊢;exact R.sub _ _ e
 g0:=R.g0.trans (oF h0 o)
 keep:=λb u e n=>by rw[oo (λz=>by subst z;rw[hb]at e;cases e)];exact R.keep b u e n
 fr:=λb u e=>by
  by_cases hb':b=p
  ·subst hb';exact .inr hb
  ·rw[oo hb']at e;exact R.fr _ _ e
 am:=λb hm=>by
  by_cases hb':b=p
  ·subst hb';exact⟨o,om⟩
  ·rw[oo hb'];exact R.am b hm
 len:=by rw[dH];exact R.len
 sl:=λj t e=>by
  rw[bR]at e;by_cases h:i=j
  ·subst h;rw[ai rfl]at e;split at e
   ·cases e;exact⟨_,hs,r⟩
   ·cases e
  ·rw[aj h]at e;refine(R.sl j t e).grow (oF h0 o) (λa u z to q=>?_) λa u z to q q0=>?_
   ·rw[oo (λy=>by subst y;exact R.ap j i t s a (λy=>h y.symm) e hi to so z hs)];exact q
   ·rw[oo (λy=>by subst y;exact R.ap j i t s a (λy=>h y.symm) e hi to so z hs)];exact q0
 ap:=λj k t u b hjk ej ek tj tk vj vk=>by
  have gen:∀{m:Nat} {x:Sl},(ρ.set i (.im d))[m]?=some x->x.own=true->ρ[m]?=some x:=λ{m x} e xo=>by
   rw[bR]at e;by_cases h:i=m
   ·subst h;rw[ai rfl]at e;split at e
    ·cases e;cases xo
    ·cases e
   ·rw[aj h]at e;exact e
  exact R.ap j k t u b hjk (gen ej tj) (gen ek tk) tj tk vj vk
theorem WI(h:PE X e (vp i)):PE X e (tF G (cFz i)):=PE.weak (PE.ghost h) λσ H Q hh=>by
 obtain⟨F,ρ,H0,d,ρ',R,e,k⟩:=hh;unfold cFz at e;split at e
 ·rename_i ds e0;cases e;obtain⟨a,xs,h1,h2,h3,h4,h5⟩:=R.sl i _ e0;have rr:Rep G (upd H0 a (.lst xs)) (.lst ds) (.ref a):=uX om (oh.mono (oF h3 _) _ _ h5);exact⟨_,rf h1,.inl (k _ _ _ (oF h3 _) (R.toIm e0 h1 rfl h2 h3 h4 rr) rr)⟩
 ·rename_i ks ds e0;cases e;obtain⟨a,xs,h1,h2,h3,h4,h5,h6⟩:=R.sl i _ e0;refine⟨_,rf h1,.inr ⟨a,_,h2,λo=>?_⟩⟩;have rr:Rep G (upd H0 a (.frz o (.dK (ks.zip xs)))) (.dic ks ds) (.ref a):=by unfold Rep;exact⟨a,o,xs,rfl,om,h5,oh.mono (oF h3 _) _ _ h6⟩
  exact k _ _ _ (oF h3 _) (R.toImD e0 h1 rfl h3 h4 rr) rr
 ·rename_i d' e0;cases e;obtain⟨v,e2,e3⟩:=R.sl i _ e0;exact⟨v,rf e2,.inl (k _ _ _ (oB.refl _) R e3)⟩
 ·cases e
def KY(i:Nat):FA:=λρ=>match ρ[i]? with
 |some (.ls ds)=>some (ds,ρ.set i .un)
 |_=>none
theorem PM(h:PE X e (vp i)):PE X e (tFN G (KY i)):=PE.weak h λσ H Q hh=>by
 obtain⟨F,ρ,H0,d,ρ',R,e,k⟩:=hh;unfold KY at e;split at e
 ·rename_i ds e0;cases e;obtain⟨a,xs,h1,h2,h3,h4,h5⟩:=R.sl i _ e0;have gen:∀{m:Nat} {x:Sl},(ρ.set i .un)[m]?=some x->x.own=true->m≠i/\ρ[m]?=some x:=λ{m x} e xo=>by
   rw[bR]at e;by_cases h:i=m
   ·subst h;rw[ai rfl]at e;split at e
    ·cases e;cases xo
    ·cases e
   ·rw[aj h]at e;exact⟨λz=>h z.symm,e⟩
  have R':oI G F σ (ρ.set i .un) H0 H:={
   sub:=R.sub,g0:=R.g0,keep:=R.keep,fr:=R.fr,am:=R.am
   len:=by rw[dH];exact R.len
   sl:=λj t e=>by
    rw[bR]at e;by_cases h:i=j
    ·subst h;rw[ai rfl]at e;split at e
     ·cases e;trivial
     ·cases e
    ·rw[aj h]at e;exact R.sl j t e
   ap:=λj k t u b hjk ej ek tj tk vj vk=>R.ap j k t u b hjk (gen ej tj).2 (gen ek tk).2 tj tk vj vk }
  refine⟨_,rf h1,k a xs _ _ (oB.refl _) R' h2 h3 h4 (λj t ej to z=>?_) h5⟩;obtain⟨nj,ej'⟩:=gen ej to;exact R.ap j i t _ a nj ej' e0 to rfl z h1
 ·cases e
end
def spM(G:Bg)(g:az->az->Option (D×az)):Sp:=λvs H Q _=>∃(a:Addr) (us xs:bA) (H0:Hp) (es ds:az) (d:D) (es':az),vs=.ref a::us/\H a=some (.lst xs)/\H0 a=none/\oB H0 H/\oh G H0 es xs/\oh G H0 ds us/\g es ds=some (d,es')/\
 ∀v xs' H0' H',oB H0 H0'->oB H0' H'->(∀b o,H b=some o->b≠a->H' b=some o)->(∀b o,H0' b=some o->H0 b=some o\/H b=none)->H0' a=none->H' a=some (.lst xs')->oh G H0' es' xs'->Rep G H0' d v->Q v H'
def stM(n:Nat)(es ds:az):aZ:=.pm es::stE (n - 1) ds
def AM(ρ:aZ):Option az:=match ρ with
 |.pm es::_=>some es
 |_=>none
def fnM(np n:Nat)(f:FS):az->az->Option (D×az):=λes ds=>if ds.length=np then match f (stM n es ds)with
 |some (.rt d ρ)=>match AM ρ with
  |some es'=>some (d,es')
  |none=>none
 |some (.rn xs ρ)=>match AM ρ with
  |some es'=>some (.lst xs,es')
  |none=>none
 |_=>none
 else none
theorem Cg(h:AM ρ=some es):ρ[0]?=some (.pm es):=by
 unfold AM at h;split at h
 ·cases h;rfl
 ·cases h
theorem Gm{n:Nat}(h:fnM np n f es ds=some (d,es')):ds.length=np/\((∃ρ,f (stM n es ds)=some (.rt d ρ)/\ρ[0]?=some (.pm es'))\/∃xs ρ,f (stM n es ds)=some (.rn xs ρ)/\ρ[0]?=some (.pm es')/\d=.lst xs):=by
 unfold fnM at h;split at h
 ·rename_i hl;refine⟨hl,?_⟩;split at h
  ·rename_i x ρ e;cases e2:AM ρ with
   |none=>simp only[e2]at h;cases h
   |some q=>simp only[e2]at h;cases h;exact .inl ⟨ρ,e,Cg e2⟩
  ·rename_i x ρ e;cases e2:AM ρ with
   |none=>simp only[e2]at h;cases h
   |some q=>simp only[e2]at h;cases h;exact .inr ⟨x,ρ,e,Cg e2,rfl⟩
  ·cases h
 ·cases h
section
variable{X:Cx}{G:Bg}
theorem PN{N:aB}(hN:np+1<=N.length)(h:spM G (fnM np N.length f) vs H Q E):tFS G f { nx:=λ_ H'=>Q .non H',rt:=Q } (L2.start N vs) H:=by
 obtain⟨a,us,xs,H0,es,ds,d,es',rfl,ha,h0,s,r1,r,e,k⟩:=h;obtain⟨hl,e1⟩:=Gm e;have hul:us.length=np:=by rw[<-oi r];exact hl
 have gets:∀{i:Nat} {t:Sl},(stM N.length es ds)[i]?=some t->(i=0/\t=.pm es)\/t=.un\/∃(j:Nat) (d:D),i=j+1/\ds[j]?=some d/\t=.im d:=λ{i t} e=>by
  cases i with
  |zero=>cases e;exact .inl ⟨rfl,rfl⟩
  |succ j=>
   have e':(stE (N.length - 1) ds)[j]?=some t:=e;rcases BP e' with rfl|⟨d,e1,rfl⟩
   ·exact .inr (.inl rfl)
   ·exact .inr (.inr ⟨j,d,rfl,e1,rfl⟩)
 have R:oI G ⟨H0,H,[a]⟩ (L2.start N (.ref a::us)) (stM N.length es ds) H0 H:={
  sub:=s
  g0:=oB.refl _
  keep:=λb o e _=>e
  fr:=λb o e=>.inl e
  am:=λb hb=>by
   have eb:b=a:=by simpa using hb
   subst eb;exact⟨_,ha⟩
  len:=by unfold L2.start stM stE;simp only[aA,ah,cb,aE];have:=oi r;omega
  sl:=λi t e=>by
   rcases gets e with ⟨rfl,rfl⟩|rfl|⟨j,d,rfl,e1,rfl⟩
   ·exact⟨a,xs,rH rfl,ha,h0,by simp,r1⟩
   ·trivial
   ·obtain⟨v,e2,e3⟩:=qj r e1;exact⟨v,rH (by simpa using e2),e3⟩
  ap:=λi j t u b hij ei ej ht hu=>by
   rcases gets ei with ⟨rfl,rfl⟩|rfl|⟨_,_,_,_,rfl⟩
   ·rcases gets ej with ⟨rfl,rfl⟩|rfl|⟨_,_,_,_,rfl⟩
    ·exact ao rfl hij
    ·cases hu
    ·cases hu
   ·cases ht
   ·cases ht }
 have fin:∀{v:V} {σ':St} {ρ':aZ} {H0' H':Hp},oB H0 H0'->oI G ⟨H0,H,[a]⟩ σ' ρ' H0' H'->ρ'[0]?=some (.pm es')->Rep G H0' d v->Q v H':=λs' R' e2 rv=>by
  obtain⟨a',ys,q1,q2,q3,q4,q5⟩:=R'.sl 0 _ e2;have ea:a'=a:=by simpa using q4
  subst ea;exact k _ ys _ _ s' R'.sub (λb o e n=>R'.keep b o e (by simpa using n)) R'.fr q3 q2 q5 rv
 rcases e1 with ⟨ρ,e1,e2⟩|⟨zs,ρ,e1,e2,rfl⟩
 ·exact⟨_,_,H0,_,R,e1,λv σ' H0' H' s' R' rv=>fin s' R' e2 rv,λ_=>rfl⟩
 ·refine⟨_,_,H0,_,R,e1,λp ys σ' H0' H' s' R' hp hp0 hb ap rs=>?_,λ_=>rfl⟩;exact fin (s'.trans (oF hp0 _)) (R'.freeze hp hp0 hb ap) e2 (uX om (oh.mono (oF hp0 _) _ _ rs))
theorem MF{g:az->az->Option (D×az)}(hg:∀es ds d,g es ds=some d->ds.length=np):∀vs H Q E,spM G g vs H Q E->vs.length=np+1:=λvs H Q E h=>by obtain⟨a,us,xs,H0,es,ds,d,es',rfl,_,_,_,_,r,e,_⟩:=h;rw[aE,<- oi r,hg _ _ _ e]
theorem PQ{n:Nat}:∀es ds d,fnM np n f es ds=some d->ds.length=np:=λ_ _ d h=>(Gm (d:=d.1) (es':=d.2) h).1
theorem oI.call1(R:oI G F σ ρ H0 H){s:Sl}(hi:ρ[i]?=some s)(hs:s.L=some es)(hb:(σ[i]?).join=some (.ref b))
  (s1:oB H0 H0') (s2:oB H0' H') (s3:∀c o,H c=some o->c≠b->H' c=some o) (fr:∀c o,H0' c=some o->H0 c=some o\/H c=none) (h0:H0' b=none) (hz:H' b=some (.lst zs)) (r:oh G H0' es' zs):
  oI G F σ (ρ.set i (s.putL es')) H0' H':=by
 have so:=Sl.L_own hs;obtain⟨b',u,e1,e2,e3,e4⟩:=(R.sl i s hi).at so;rw[hb]at e1;cases e1;exact {
  sub:=s2
  g0:=R.g0.trans s1
  keep:=λc o e n=>by
   refine s3 c o (R.keep c o e n) λz=>?_;subst z;rcases e4 with q|q
   ·rw[q]at e;cases e
   ·exact n q
  fr:=λc o e=>by
   rcases fr c o e with q|q
   ·exact R.fr c o q
   ·exact .inr (R.bNone q)
  am:=λc hc=>by
   by_cases z:c=b
   ·subst z;exact⟨_,hz⟩
   ·obtain⟨o,q⟩:=R.am c hc;exact⟨o,s3 c o q z⟩
  len:=by rw[dH];exact R.len
  sl:=λj t e=>by
   rw[bR]at e;by_cases h:i=j
   ·subst h;rw[ai rfl]at e;split at e
    ·cases e;rw[hb];have ok:=R.sl i s hi;rw[hb]at ok;cases s with
     |ls ds0=>obtain⟨c,xs,h1,h2,h3,h4,h5⟩:=ok;cases h1;exact⟨b,zs,rfl,hz,h0,h4,r⟩
     |pm ds0=>obtain⟨c,xs,h1,h2,h3,h4,h5⟩:=ok;cases h1;exact⟨b,zs,rfl,hz,h0,h4,r⟩
     |_=>cases hs
    ·cases e
   ·rw[aj h]at e;refine(R.sl j t e).grow s1 (λc w z to q=>s3 c w q λy=>?_) λc w z to q q0=>?_
    ·subst y;exact R.ap j i t s c (λy=>h y.symm) e hi to so z hb
    ·cases y:H0' c with
     |none=>rfl
     |some o=>
      rcases fr c o y with x|x
      ·rw[x]at q0;cases q0
      ·rw[x]at q;cases q
  ap:=λj k t u c hjk ej ek tj tk vj vk=>by
   have gen:∀{m:Nat} {x:Sl},(ρ.set i (s.putL es'))[m]?=some x->∃y,ρ[m]?=some y/\(x.own=true->y.own=true):=λ{m x} e=>by
    rw[bR]at e;by_cases h:i=m
    ·subst h;exact⟨s,hi,λ_=>so⟩
    ·rw[aj h]at e;exact⟨x,e,λq=>q⟩
   obtain⟨y,ey,oy⟩:=gen ej;obtain⟨z,ez,oz⟩:=gen ek;exact R.ap j k y z c hjk ey ez (oy tj) (oz tk) vj vk }
def pb(g:az->az->Option (D×az))(i:Nat)(a:FA):FE:=λρ=>match pZ ρ i with
 |some _=>match a ρ with
  |some (ds,ρ1)=>match pZ ρ1 i with
   |some es=>match g es ds with
    |some (d,es')=>some (d,putAt ρ1 i es')
    |none=>none
   |none=>none
  |none=>none
 |none=>none
theorem SY{g:az->az->Option (D×az)}(h:PE X e (xp (spM G g) [] E (B2 (vp i) (tFA G a)))):PE X e (tF G (pb g i a)):=PE.weak h λσ H Q hh=>by
 obtain⟨F,ρ,H0,d,ρ',R,e,k⟩:=hh;unfold pb at e;cases e0:pZ ρ i with
 |none=>simp only[e0]at e;cases e
 |some ds0=>
  simp only[e0]at e;rcases o5 (f:=a) (ρ:=ρ)with e1|⟨ds,ρ1,e1⟩<;>simp only[e1]at e
  ·cases e
  ·cases e2:pZ ρ1 i with
   |none=>simp only[e2]at e;cases e
   |some es=>
    simp only[e2]at e;cases e3:g es ds with
    |none=>simp only[e3]at e;cases e
    |some q=>
     obtain⟨d1,es'⟩:=q;simp only[e3]at e;cases e;obtain⟨b,xs,s1,s2,s3,_⟩:=qw R e0;refine⟨.ref b,s1,F,ρ,H0,ds,ρ1,R,e1,λys H1 H1' s R' rs=>?_⟩;obtain⟨s,es0,es1⟩:=rJ e2;obtain⟨b',xs',t1,t2,t3,t4⟩:=(R'.sl i s es0).lst es1;rw[rf t1]at s1;cases s1;refine⟨b,ys,xs',H1,es,ds,d,es',?_,t2,t3,R'.sub,t4,rs,e3,λv zs H2 H2' u1 u2 u3 fr w0 w1 w2 w3=>?_⟩
     ·show V.ref b::ys++[]=_;rw[bt]
     ·refine k _ _ _ (oB.trans ‹oB H0 H1› u1) ?_ w3;unfold putAt;rw[es0];exact R'.call1 es0 es1 t1 u1 u2 u3 fr w0 w1 w2
def Walk(G:Bg)(J:It)(ds:az)(H0:Hp):Prop:=∀(i:Nat) (H1 H1':Hp),oB H0 H1->oB H1 H1'->
 (∀d,ds[i]?=some d->J.go i H1'/\∀x H2',J.yld i H1' x H2'->∃H2,oB H1 H2/\oB H2 H2'/\oB H1' H2'/\(∀b o,H2 b=some o->H1 b=some o\/H1' b=none)/\Rep G H2 d x)/\(i=ds.length->J.stop i H1')
def tFI(G:Bg)(f:FA):TI:=λσ H R=>∃F ρ H0 ds ρ',oI G F σ ρ H0 H/\f ρ=some (ds,ρ')/\∀J H0' H',oB H0 H0'->oI G F σ ρ' H0' H'->Walk G J ds H0'->R J H'
theorem PI.weak{t:TI}(h:PI X tg e t)(w:∀σ H R,t' σ H R->t σ H R):PI X tg e t':=λpins s σ H R I hq=>h pins s σ H R I (w _ _ _ hq)
theorem Ci(h:SqL G.K H0 a xs)(r:oh G H0 ds xs):Walk G (Itl G.K a) ds H0:=λi H1 H1' s s'=>by have h1:SqL G.K H1' a xs:=(s.trans s').seq h;refine⟨λd e=>?_,λhl=>⟨xs,h1,by rw[<-oi r,hl];exact aG _⟩⟩;obtain⟨v,e1,e2⟩:=qj r e;refine⟨⟨xs,v,h1,e1⟩,λx H2' y=>?_⟩;obtain⟨e3,e4⟩:=y;have e5:=e4 xs h1;rw[e1]at e5;cases e5;subst e3;exact⟨H1,oB.refl _,s',oB.refl _,λb o e=>.inl e,Rep.mono s _ _ e2⟩
theorem MG(h:SqT G.K H0 a xs)(r:oh G H0 ds xs):Walk G (Itt G.K a) ds H0:=λi H1 H1' s s'=>by have h1:SqT G.K H1' a xs:=SqT.mono (s.trans s') h;refine⟨λd e=>?_,λhl=>⟨xs,h1,by rw[<-oi r,hl];exact aG _⟩⟩;obtain⟨v,e1,e2⟩:=qj r e;refine⟨⟨xs,v,h1,e1⟩,λx H2' y=>?_⟩;obtain⟨e3,e4⟩:=y;have e5:=e4 xs h1;rw[e1]at e5;cases e5;subst e3;exact⟨H1,oB.refl _,s',oB.refl _,λb o e=>.inl e,Rep.mono s _ _ e2⟩
def iL(f:FE):FA:=λρ=>match f ρ with
 |some (.lst ds,ρ')=>some (ds,ρ')
 |some (.fzl ds,ρ')=>some (ds,ρ')
 |_=>none
def iT(f:FE):FA:=λρ=>match f ρ with
 |some (.tup ds,ρ')=>some (ds,ρ')
 |_=>none
theorem Gp(h:PI X tg e (LQ G.K (tF G f))):PI X tg e (tFI G (iL f)):=PI.weak h λσ H R hh=>by
 obtain⟨F,ρ,H0,ds,ρ',R,e,k⟩:=hh;unfold iL at e;split at e
 ·rename_i ds' ρ1 e1;cases e;refine⟨F,ρ,H0,_,_,R,e1,λv H1 H1' s R' r=>?_⟩;unfold Rep at r;obtain⟨a,xs,rfl,r1,r2⟩:=r;exact⟨a,rfl,⟨xs,R'.sub.seq (SqL.of r1)⟩,k _ _ _ s R' (Ci (SqL.of r1) r2)⟩
 ·rename_i ds' ρ1 e1;cases e;refine⟨F,ρ,H0,_,_,R,e1,λv H1 H1' s R' r=>?_⟩;unfold Rep at r;obtain⟨a,xs,rfl,r1,r2⟩:=r;exact⟨a,rfl,⟨xs,R'.sub.seq r1⟩,k _ _ _ s R' (Ci r1 r2)⟩
 ·cases e
theorem PR(h:PI X tg e (Sb G.K (tF G f))):PI X tg e (tFI G (iT f)):=PI.weak h λσ H R hh=>by
 obtain⟨F,ρ,H0,ds,ρ',R,e,k⟩:=hh;unfold iT at e;split at e
 ·rename_i ds' ρ1 e1;cases e;refine⟨F,ρ,H0,_,_,R,e1,λv H1 H1' s R' r=>?_⟩;unfold Rep at r;obtain⟨a,xs,rfl,r1,r2⟩:=r;exact⟨a,rfl,⟨xs,SqT.mono R'.sub r1⟩,k _ _ _ s R' (MG r1 r2)⟩
 ·cases e
def Cj(lo:Int)(n:Nat):az:=(bz n).map λ(i:Nat)=>D.int (lo+(i:Int))
theorem MH{lo:Int}{n:Nat}:Walk G (Itr lo n) (Cj lo n) H0:=λi H1 H1' s s'=>by
 refine⟨λd e=>?_,λhl=>by show n<=i;rw[hl];simp[Cj]⟩;unfold Cj at e;rw[bj]at e;by_cases hi:i<n
 ·rw[lL hi]at e;cases e;refine⟨hi,λx H2' y=>?_⟩;obtain⟨e3,rfl⟩:=y;subst e3;exact⟨H1,oB.refl _,s',oB.refl _,λb o e=>.inl e,qT _⟩
 ·rw[fP (by simpa using hi)]at e;cases e
def iR1(f:FE):FA:=λρ=>match f ρ with
 |some (.int n,ρ')=>if -1000000<=n/\n<=1000000 then some (Cj 0 n.toNat,ρ')else none
 |_=>none
theorem Ie(h:PI X tg e (Rj (tFA G (nY f oq)))):PI X tg e (tFI G (iR1 f)):=PI.weak h λσ H R hh=>by
 obtain⟨F,ρ,H0,ds,ρ',R,e,k⟩:=hh;unfold iR1 at e;split at e
 ·rename_i n ρ1 e1;split at e
  ·rename_i hn;cases e;refine⟨F,ρ,H0,[.int n],_,R,by unfold nY;rw[e1];rfl,λxs H1 H1' s R' rs=>?_⟩;unfold oh at rs;obtain⟨v,r0,rfl,rv,rn⟩:=rs;unfold oh at rn;unfold Rep at rv;subst rn rv;exact⟨n,rfl,by omega,by omega,k _ _ _ s R' MH⟩
  ·cases e
 ·cases e
def forL(g:FG)(b:FS):az->FS
 |[],ρ=>some (.nx ρ)
 |d::r,ρ=>match g d ρ with
  |none=>none
  |some ρ1=>match b ρ1 with
   |some (.nx ρ2)=>forL g b r ρ2
   |some (.ct ρ2)=>forL g b r ρ2
   |some (.bk ρ2)=>some (.nx ρ2)
   |some (.rt d ρ2)=>some (.rt d ρ2)
   |some (.rn d ρ2)=>some (.rn d ρ2)
   |none=>none
def sS(s:FA)(g:FG)(b:FS):FS:=λρ=>match s ρ with
 |some (ds,ρ')=>forL g b ds ρ'
 |none=>none
theorem PU{st:Stmt}{n:Nat}{s:FA}{g:FG}(h:PS X st (Se (tFI G s) (tFG G n g) (tFS G b))):PS X st (tFS G (sS s g b)):=PS.weak h λE σ H hh=>by
 obtain⟨F,ρ,H0,o,R,e,k,k2⟩:=hh;unfold sS at e;rcases o5 (f:=s) (ρ:=ρ)with e1|⟨ds,ρ1,e1⟩<;>simp only[e1]at e
 ·cases e
 ·refine⟨F,ρ,H0,ds,ρ1,R,e1,λJ H1 H1' s1 R1 wk=>?_⟩;refine⟨λi m σ H=>m=ds.length - i/\i<=ds.length/\∃ρi Hi,oB H1 Hi/\oI G F σ ρi Hi H/\forL g b (ds.drop i) ρi=some o,⟨_,rfl,cj _,ρ1,H1,oB.refl _,R1,e⟩,?_⟩;rintro i m σi Hi' ⟨rfl,hi,ρi,Hi,si,Ri,ei⟩;by_cases hlt:i<ds.length
  ·have ed:ds.drop i=ds[i]::ds.drop (i+1):=gS hlt;rw[ed]at ei;unfold forL at ei;obtain⟨go,yl⟩:=(wk i Hi Hi' si Ri.sub).1 ds[i] (aL hlt);refine .inr ⟨go,λσ' H'=>∃ρi Hi,oB H1 Hi/\oI G F σ' ρi Hi H'/\forL g b (ds.drop (i+1)) ρi=some o,λσ' H' q=>⟨ds.length - (i+1),by omega,rfl,hlt,q⟩,λx H' y=>?_⟩;obtain⟨H2,t1,t2,t3,t4,t5⟩:=yl x H' y;have R2:=Ri.grow t3 t1 t2 t4;cases e2:g ds[i] ρi with
   |none=>simp only[e2]at ei;cases ei
   |some ρ2=>
    simp only[e2]at ei;refine⟨F,ρi,H2,_,ρ2,R2,t5,e2,λσ3 _ R3=>?_⟩;have kk:=k.back (s1.trans (si.trans t1));cases e3:b ρ2 with
    |none=>simp only[e3]at ei;cases ei
    |some q=>
     refine⟨F,ρ2,H2,q,R3,e3,?_,λ_=>rfl⟩;cases q with
     |nx ρ3=>simp only[e3]at ei;exact λσ' H0' H' s' R'=>⟨ρ3,H0',si.trans (t1.trans s'),R',ei⟩
     |ct ρ3=>simp only[e3]at ei;exact λσ' H0' H' s' R'=>⟨ρ3,H0',si.trans (t1.trans s'),R',ei⟩
     |bk ρ3=>simp only[e3]at ei;cases ei;exact kk
     |rt d ρ3=>simp only[e3]at ei;cases ei;exact kk
     |rn d ρ3=>simp only[e3]at ei;cases ei;exact kk
  ·have ez:ds.drop i=[]:=lq (by omega);rw[ez]at ei;unfold forL at ei;cases ei;exact .inl ⟨(wk i Hi Hi' si Ri.sub).2 (by omega),k _ _ _ (s1.trans si) Ri⟩
def whL(c:FT)(b:FS):Nat->FS
 |0,_=>none
 |n+1,ρ=>match c ρ with
  |some (false,ρ1)=>some (.nx ρ1)
  |some (true,ρ1)=>match b ρ1 with
   |some (.nx ρ2)=>whL c b n ρ2
   |some (.ct ρ2)=>whL c b n ρ2
   |some (.bk ρ2)=>some (.nx ρ2)
   |some (.rt d ρ2)=>some (.rt d ρ2)
   |some (.rn d ρ2)=>some (.rn d ρ2)
   |none=>none
  |none=>none
theorem KZ{st:Stmt}(n:Nat)(h:PS X st (LO (tFT G c) (tFS G b))):PS X st (tFS G (whL c b n)):=PS.weak h λE σ H hh=>by
 obtain⟨F,ρ,H0,o,R,e,k,k2⟩:=hh;refine⟨λm σ H=>∃ρi Hi,oB H0 Hi/\oI G F σ ρi Hi H/\whL c b m ρi=some o,⟨n,ρ,H0,oB.refl _,R,e⟩,?_⟩;rintro m σi Hi' ⟨ρi,Hi,si,Ri,ei⟩;cases m with
 |zero=>cases ei
 |succ m=>
  unfold whL at ei;rcases o5 (f:=c) (ρ:=ρi)with e1|⟨t,ρ1,e1⟩
  ·simp only[e1]at ei;cases ei
  ·refine⟨F,ρi,Hi,t,ρ1,Ri,e1,λH1 H1' s1 R1=>?_⟩;cases t with
   |false=>simp only[e1]at ei;cases ei;exact E5 (k _ _ _ (si.trans s1) R1)
   |true=>
    simp only[e1]at ei;refine E6 ⟨λσ' H'=>∃ρi Hi,oB H0 Hi/\oI G F σ' ρi Hi H'/\whL c b m ρi=some o,λσ' H' q=>⟨m,dE m,q⟩,?_⟩;have kk:=k.back (si.trans s1);cases e3:b ρ1 with
    |none=>simp only[e3]at ei;cases ei
    |some q=>
     refine⟨F,ρ1,H1,q,R1,e3,?_,λ_=>rfl⟩;cases q with
     |nx ρ3=>simp only[e3]at ei;exact λσ' H0' H' s' R'=>⟨ρ3,H0',si.trans (s1.trans s'),R',ei⟩
     |ct ρ3=>simp only[e3]at ei;exact λσ' H0' H' s' R'=>⟨ρ3,H0',si.trans (s1.trans s'),R',ei⟩
     |bk ρ3=>simp only[e3]at ei;cases ei;exact kk
     |rt d ρ3=>simp only[e3]at ei;cases ei;exact kk
     |rn d ρ3=>simp only[e3]at ei;cases ei;exact kk
end
def Sl.cap:Sl->Sl
 |.im d=>.im d
 |.ls ds=>.pm ds
 |.pm ds=>.pm ds
 |_=>.un
def yV(k:Nat)(cap:List Nat)(ρ:aZ):aZ:=dJ k .un++cap.map λj=>((ρ[j]?).getD .un).cap
def rT:List Nat->aZ->aZ->Option aZ
 |[],_,ρ=>some ρ
 |j::cap,t::ts,ρ=>match pZ ρ j with
  |some _=>match t with
   |.pm ds=>rT cap ts (putAt ρ j ds)
   |_=>none
  |none=>rT cap ts ρ
 |_::_,[],_=>none
def sT(k:Nat)(cap:List Nat)(g:FG)(ft:FT)(fe:FE):az->aZ->Option (az×aZ)
 |[],ρ=>some ([],ρ)
 |d::r,ρ=>match g d (yV k cap ρ)with
  |none=>none
  |some ρ1=>match ft ρ1 with
   |some (true,ρ2)=>match fe ρ2 with
    |some (x,ρ3)=>match rT cap (ρ3.drop k) ρ with
     |some ρ'=>match sT k cap g ft fe r ρ' with
      |some (xs,ρ'')=>some (x::xs,ρ'')
      |none=>none
     |none=>none
    |none=>none
   |some (false,ρ2)=>match rT cap (ρ2.drop k) ρ with
    |some ρ'=>sT k cap g ft fe r ρ'
    |none=>none
   |none=>none
def oT(k:Nat)(cap:List Nat)(s:FA)(g:FG)(ft:FT)(fe:FE):FA:=λρ=>match s ρ with
 |some (ds,ρ')=>if ds.length<=1000 then sT k cap g ft fe ds ρ' else none
 |none=>none
def pM:FT:=λρ=>some (true,ρ)
theorem wg:∀{cap:List Nat} {ts ρ ρ':aZ},rT cap ts ρ=some ρ'->ρ'.length=ρ.length/\
  (∀(j:Nat) (s':Sl),ρ'[j]?=some s'->∃s,ρ[j]?=some s/\((s'=s/\(s.L≠none->j∉cap))\/∃(m:Nat) (ds ds0:az),cap[m]?=some j/\ts[m]?=some (Sl.pm ds)/\s.L=some ds0/\s'=s.putL ds))
 |[],ts,ρ,ρ',h=>by cases h;exact⟨rfl,λj s' e=>⟨s',e,.inl ⟨rfl,λ_ z=>by cases z⟩⟩⟩
 |j0::cap,[],ρ,ρ',h=>by cases h
 |j0::cap,t::ts,ρ,ρ',h=>by
  unfold rT at h;cases e0:pZ ρ j0 with
  |none=>
   simp only[e0]at h;obtain⟨h1,h2⟩:=wg h;refine⟨h1,λj s' e=>?_⟩;obtain⟨s,e1,q⟩:=h2 j s' e;refine⟨s,e1,?_⟩;rcases q with ⟨rfl,q⟩|⟨m,ds,ds0,q1,q2,q3,q4⟩
   ·refine .inl ⟨rfl,λz y=>?_⟩;rcases aM.mp y with y|y
    ·subst y;unfold pZ at e0;rw[e1]at e0;exact z e0
    ·exact q z y
   ·exact .inr ⟨m+1,ds,ds0,q1,q2,q3,q4⟩
  |some ds1=>
   simp only[e0]at h;cases t with
   |pm ds=>
    simp only at h;obtain⟨s0,e1,e2⟩:=rJ e0;unfold putAt at h;rw[e1]at h;simp only at h;obtain⟨h1,h2⟩:=wg h;refine⟨by rw[h1,dH],λj s' e=>?_⟩;obtain⟨s,e3,q⟩:=h2 j s' e;by_cases hj:j0=j
    ·subst hj;rw[bR,ai rfl]at e3;split at e3
     ·cases e3;refine⟨s0,e1,.inr ?_⟩;rcases q with ⟨rfl,q⟩|⟨m,ds',ds0,q1,q2,q3,q4⟩
      ·exact⟨0,ds,ds1,rfl,rfl,e2,rfl⟩
      ·refine⟨m+1,ds',ds1,q1,q2,e2,?_⟩;rw[q4];cases s0<;>rfl
     ·cases e3
    ·rw[bR,aj hj]at e3;refine⟨s,e3,?_⟩;rcases q with ⟨rfl,q⟩|⟨m,ds',ds0,q1,q2,q3,q4⟩
     ·refine .inl ⟨rfl,λz y=>?_⟩;rcases aM.mp y with y|y
      ·exact hj y.symm
      ·exact q z y
     ·exact .inr ⟨m+1,ds',ds0,q1,q2,q3,q4⟩
   |_=>cases h
def DM(cap:List Nat)(σ:St)(ρ:aZ):List Addr:=cap.filterMap λj=>match pZ ρ j,(σ[j]?).join with
 |some _,some (.ref a)=>some a
 |_,_=>none
theorem xw{cap:List Nat}:a∈DM cap σ ρ ↔ ∃j∈cap,(∃ds,pZ ρ j=some ds)/\(σ[j]?).join=some (.ref a):=by
 unfold DM;rw[jq];constructor
 ·rintro⟨j,hj,e⟩;refine⟨j,hj,?_⟩;split at e
  ·rename_i ds a' e1 e2;cases e;exact⟨⟨ds,e1⟩,e2⟩
  ·cases e
 ·rintro⟨j,hj,⟨ds,e1⟩,e2⟩;refine⟨j,hj,?_⟩;rw[e1,e2]
section
variable{X:Cx}{G:Bg}{F:Fr}{σ:St}{ρ:aZ}{H0 H:Hp}
theorem Ck{k:Nat}{cap:List Nat}{s:Sl}(h:(yV k cap ρ)[i]?=some s):s=.un\/∃m j,i=k+m/\cap[m]?=some j/\s=((ρ[j]?).getD .un).cap:=by
 unfold yV at h;by_cases hi:i<k
 ·rw[cF (by simpa using hi),eV,ai hi]at h;cases h;exact .inl rfl
 ·rw[cz (by simpa using mx hi),cb,bj]at h;cases e:cap[i - k]? with
  |none=>rw[e]at h;cases h
  |some j=>rw[e]at h;cases h;exact .inr ⟨i - k,j,by omega,e,rfl⟩
theorem zp{k:Nat}{cap:List Nat}(h:cap[m]?=some j):((sy k cap σ)[k+m]?).join=(σ[j]?).join:=by unfold sy;rw[cz (by simp),cb,show k+m - k=m by omega,bj,h];rfl
theorem oI.cap(R:oI G F σ ρ H0 H)(k:Nat)(cap:List Nat)(nd:cap.Nodup):oI G ⟨H0,H,DM cap σ ρ⟩ (sy k cap σ) (yV k cap ρ) H0 H where
 sub:=R.sub
 g0:=oB.refl _
 keep:=λb o e _=>e
 fr:=λb o e=>.inl e
 am:=λa ha=>by obtain⟨j,hj,⟨ds,e1⟩,e2⟩:=xw.mp ha;obtain⟨s,e3,e4⟩:=rJ e1;obtain⟨a',xs,h1,h2,_⟩:=(R.sl j s e3).lst e4;rw[e2]at h1;cases h1;exact⟨_,h2⟩
 len:=by unfold sy yV;rw[aA,aA,cb,cb,ah,ah]
 sl:=λi s e=>by
  rcases Ck e with rfl|⟨m,j,rfl,e1,rfl⟩
  ·trivial
  ·rw[zp e1];cases e2:ρ[j]? with
   |none=>trivial
   |some s=>
    have ok:=R.sl j s e2;have mem:∀{a:Addr} {ds:az},s.L=some ds->(σ[j]?).join=some (.ref a)->a∈DM cap σ ρ:=λh1 h2=>xw.mpr ⟨j,cA e1,⟨_,by unfold pZ;rw[e2];exact h1⟩,h2⟩;cases s with
    |un=>trivial
    |im d=>exact ok
    |ls ds=>obtain⟨a,xs,h1,h2,h3,h4,h5⟩:=ok;exact⟨a,xs,h1,h2,h3,mem rfl h1,h5⟩
    |pm ds=>obtain⟨a,xs,h1,h2,h3,h4,h5⟩:=ok;exact⟨a,xs,h1,h2,h3,mem rfl h1,h5⟩
    |dk ks ds=>trivial
    |ob c ns ds=>trivial
 ap:=λi i' s t a hii e e' so to v v'=>by
  rcases Ck e with rfl|⟨m,j,rfl,e1,rfl⟩
  ·cases so
  rcases Ck e' with rfl|⟨m',j',rfl,e1',rfl⟩
  ·cases to
  rw[zp e1]at v;rw[zp e1']at v';have own:∀{j:Nat},(((ρ[j]?).getD Sl.un).cap).own=true->∃s,ρ[j]?=some s/\s.own=true:=λ{j} h=>by
   cases z:ρ[j]? with
   |none=>rw[z]at h;cases h
   |some s=>rw[z]at h;refine⟨s,rfl,?_⟩;cases s<;>first|rfl|cases h
  obtain⟨s,z,zo⟩:=own so;obtain⟨s',z',zo'⟩:=own to;by_cases hj:j=j'
  ·subst hj;have:m=m':=(List.getElem?_inj (bQ.mp e1).1 nd).mp (e1.trans e1'.symm);exact hii (by rw[this])
  ·exact R.ap j j' s s' a hj z z' zo zo' v v'
theorem oI.uncap(R:oI G F σ ρ H0 H){k:Nat}{cap:List Nat}(R4:oI G ⟨H0,H,DM cap σ ρ⟩ σ4 ρ4 H1 H1')(hd:σ4.drop k=(sy k cap σ).drop k)(hu:rT cap (ρ4.drop k) ρ=some ρ'):oI G F σ ρ' H1 H1':=by
 obtain⟨hl,hc⟩:=wg hu;have at4:∀{m j:Nat},cap[m]?=some j->(σ4[k+m]?).join=(σ[j]?).join:=λ{m j} e=>by
  have q:(σ4.drop k)[m]?=((sy k cap σ).drop k)[m]?:=by rw[hd]
  rw[cW,cW]at q;rw[q];exact zp e
 have nA:∀{j:Nat} {s:Sl} {a:Addr},ρ[j]?=some s->s.own=true->(σ[j]?).join=some (.ref a)->(s.L≠none->j∉cap)->a∉DM cap σ ρ:=λ{j s a} e so z hn ha=>by
  obtain⟨i,hi,⟨ds,e1⟩,e2⟩:=xw.mp ha;obtain⟨t,e3,e4⟩:=rJ e1;by_cases hij:i=j
  ·subst hij;rw[e]at e3;cases e3;exact hn (by rw[e4];simp) hi
  ·exact R.ap i j t s a hij e3 e (Sl.L_own e4) so e2 z
 have hA:∀a∈DM cap σ ρ,F.B a=none\/a∈F.A:=λa ha=>by obtain⟨i,hi,⟨ds,e1⟩,e2⟩:=xw.mp ha;obtain⟨t,e3,e4⟩:=rJ e1;obtain⟨a',u,h1,h2,h3,h4⟩:=(R.sl i t e3).at (Sl.L_own e4);rw[e2]at h1;cases h1;exact h4
 have own':∀{j:Nat} {s':Sl},ρ'[j]?=some s'->s'.own=true->∃s,ρ[j]?=some s/\s.own=true:=λ{j s'} e so=>by
  obtain⟨s,e1,q⟩:=hc j s' e;rcases q with ⟨rfl,q⟩|⟨m,ds,ds0,q1,q2,q3,q4⟩
  ·exact⟨s',e1,so⟩
  ·exact⟨s,e1,Sl.L_own q3⟩
 exact {
  sub:=R4.sub
  g0:=R.g0.trans R4.g0
  keep:=λb o e n=>by
   refine R4.keep b o (R.keep b o e n) λha=>?_;rcases hA b ha with q|q
   ·rw[q]at e;cases e
   ·exact n q
  fr:=λb o e=>by
   rcases R4.fr b o e with q|q
   ·exact R.fr b o q
   ·exact .inr (R.bNone q)
  am:=λa ha=>by
   obtain⟨o,q⟩:=R.am a ha;by_cases z:a∈DM cap σ ρ
   ·exact R4.am a z
   ·exact⟨o,R4.keep a o q z⟩
  len:=by rw[hl];exact R.len
  sl:=λj s' e=>by
   obtain⟨s,e1,q⟩:=hc j s' e;rcases q with ⟨rfl,q⟩|⟨m,ds,ds0,q1,q2,q3,q4⟩
   ·refine(R.sl j s' e1).grow R4.g0 (λa u z so y=>R4.keep a u y (nA e1 so z q)) λa u z so y y0=>?_;cases w:H1 a with
    |none=>rfl
    |some o=>
     rcases R4.fr a o w with x|x
     ·have x':H0 a=some o:=x;rw[x']at y0;cases y0
     ·have x':H a=none:=x;rw[x']at y;cases y
   ·rw[cW]at q2;obtain⟨a,xs,h1,h2,h3,h4,h5⟩:=R4.sl _ _ q2;rw[at4 q1]at h1;have ok:=R.sl j s e1;subst q4;cases s with
    |ls ds1=>obtain⟨a',xs',g1,g2,g3,g4,g5⟩:=ok;rw[h1]at g1;cases g1;exact⟨a,xs,h1,h2,h3,g4,h5⟩
    |pm ds1=>obtain⟨a',xs',g1,g2,g3,g4,g5⟩:=ok;rw[h1]at g1;cases g1;exact⟨a,xs,h1,h2,h3,g4,h5⟩
    |_=>cases q3
  ap:=λi j s t a hij ei ej so to v v'=>by
   obtain⟨s0,z,zo⟩:=own' ei so;obtain⟨t0,y,yo⟩:=own' ej to;exact R.ap i j s0 t0 a hij z y zo yo v v' }
theorem xy{k:Nat}{cap:List Nat}(h:Apart σ ρ p)(hu:rT cap ts ρ=some ρ'):Apart σ ρ' p:=λi s' e so=>by
 obtain⟨s,e1,q⟩:=(wg hu).2 i s' e;rcases q with ⟨rfl,q⟩|⟨m,ds,ds0,q1,q2,q3,q4⟩
 ·exact h i s' e1 so
 ·exact h i s e1 (Sl.L_own q3)
theorem JF{k:Nat}{cap:List Nat}{s:FA}{g:FG}(nd:cap.Nodup):∀σ H Q,tFN G (oT k cap s g ft fe) σ H Q->Ca (tFI G s) (tFG G k g) (tFT G ft) (tF G fe) k cap σ H Q:=λσ H Q hh=>by
 obtain⟨F,ρ,H0,es,ρ',R,e,kk⟩:=hh;unfold oT at e;rcases o5 (f:=s) (ρ:=ρ)with e1|⟨ds,ρ1,e1⟩<;>simp only[e1]at e
 ·cases e
 ·split at e
  ·rename_i hlen;refine⟨F,ρ,H0,ds,ρ1,R,e1,λJ H1 H1' s1 R1 wk p hp=>?_⟩;refine⟨λi m acc H2=>m=ds.length - i/\i<=ds.length/\∃ρi Hi dn rest,oB H1 Hi/\oI G F σ ρi Hi H2/\H2 p=some (.lst acc)/\Hi p=none/\Apart σ ρi p/\oh G Hi dn acc/\dn.length<=i/\sT k cap g ft fe (ds.drop i) ρi=some (rest,ρ')/\es=dn++rest,
    ⟨_,rfl,cj _,ρ1,H1,[],es,oB.refl _,R1.newOwn hp _,om,R1.h0none hp,R1.apart hp,oZ,aG _,e,rfl⟩,?_⟩
   rintro i m acc H2 ⟨rfl,hi,ρi,Hi,dn,rest,si,Ri,hp2,hp0,apt,rs,hdn,ei,rfl⟩;by_cases hlt:i<ds.length
   ·have ed:ds.drop i=ds[i]::ds.drop (i+1):=gS hlt;rw[ed]at ei;unfold sT at ei;obtain⟨go,yl⟩:=(wk i Hi H2 si Ri.sub).1 ds[i] (aL hlt);refine .inr ⟨go,λx H3 y=>?_⟩;obtain⟨Hj,t1,t2,t3,t4,t5⟩:=yl x H3 y;have R2:=Ri.grow t3 t1 t2 t4;have hp3:H3 p=some (.lst acc):=t3 _ _ hp2;have hpj:Hj p=none:=by
     cases w:Hj p with
     |none=>rfl
     |some o=>
      rcases t4 p o w with z|z
      ·rw[hp0]at z;cases z
      ·rw[hp2]at z;cases z
    have RC:=R2.cap k cap nd;have npA:p∉DM cap σ ρi:=λz=>by obtain⟨j,_,⟨ds',q1⟩,q2⟩:=xw.mp z;obtain⟨t,q3,q4⟩:=rJ q1;exact apt j t q3 (Sl.L_own q4) q2
    cases e2:g ds[i] (yV k cap ρi)with
    |none=>simp only[e2]at ei;cases ei
    |some ρ2=>
     simp only[e2]at ei;refine⟨_,_,Hj,ds[i],ρ2,RC,t5,e2,λσ4 hd4 R4=>⟨hd4,?_⟩⟩;rcases o5 (f:=ft) (ρ:=ρ2)with e3|⟨b,ρ3,e3⟩
     ·simp only[e3]at ei;cases ei
     ·refine⟨_,ρ2,Hj,b,ρ3,R4,e3,λH5 H5' s5 R5=>?_⟩;have keepP:∀{σ':St} {ρ'':aZ} {Ha Ha':Hp},oI G ⟨Hj,H3,DM cap σ ρi⟩ σ' ρ'' Ha Ha'->Ha' p=some (.lst acc)/\Ha p=none:=λRz=>by
       refine⟨Rz.keep p _ hp3 npA,?_⟩;refine Option.eq_none_iff_forall_ne_some.mpr λo w2=>?_;rcases Rz.fr p o w2 with z|z
       ·have z':Hj p=some o:=z;rw[hpj]at z';cases z'
       ·have z':H3 p=none:=z;rw[hp3]at z';cases z'
      cases b with
      |false=>
       simp only[e3]at ei;refine E5 ?_;cases e4:rT cap (ρ3.drop k) ρi with
       |none=>simp only[e4]at ei;cases ei
       |some ρn=>simp only[e4]at ei;obtain⟨w1,w2⟩:=keepP R5;exact⟨ds.length - (i+1),by omega,rfl,hlt,ρn,H5,dn,rest,si.trans (t1.trans s5),R2.uncap R5 hd4 e4,w1,w2,xy (k:=k) apt e4,oh.mono (t1.trans s5) _ _ rs,by omega,ei,rfl⟩
      |true=>
       simp only[e3]at ei;refine E6 ?_;rcases o5 (f:=fe) (ρ:=ρ3)with e5|⟨x5,ρ5,e5⟩
       ·simp only[e5]at ei;cases ei
       ·simp only[e5]at ei;refine⟨_,ρ3,H5,x5,ρ5,R5,e5,λv H6 H6' s6 R6 rv=>?_⟩;obtain⟨w1,w2⟩:=keepP R6;cases e4:rT cap (ρ5.drop k) ρi with
        |none=>simp only[e4]at ei;cases ei
        |some ρn=>
         simp only[e4]at ei;cases e6:sT k cap g ft fe (ds.drop (i+1)) ρn with
         |none=>simp only[e6]at ei;cases ei
         |some q=>
          obtain⟨rest',ρz⟩:=q;simp only[e6]at ei;cases ei;have Rn:=R2.uncap R6 hd4 e4;have lacc:acc.length=dn.length:=(oi rs).symm;refine⟨acc,w1,yh (by omega),ds.length - (i+1),by omega,rfl,hlt,ρn,H6,dn++[x5],rest',si.trans (t1.trans (s5.trans s6)),?_,om,w2,xy (k:=k) apt e4,qJ (oh.mono (t1.trans (s5.trans s6)) _ _ rs) (oW rv oZ),by rw[aA,bb];omega,e6,by rw[bB];rfl⟩;exact {
           sub:=λb o e=>by rw[oo (λz=>by rw[z,w2]at e;cases e)];exact Rn.sub b o e
           g0:=Rn.g0
           keep:=λb o e n=>by rw[oo (λz=>by subst z;rw[R1.bNone hp]at e;cases e)];exact Rn.keep b o e n
           fr:=Rn.fr
           am:=λb hb=>by
            by_cases z:b=p
            ·subst z;exact⟨_,om⟩
            ·rw[oo z];exact Rn.am b hb
           len:=Rn.len
           sl:=λj t ej=>(Rn.sl j t ej).grow (oB.refl _) (λb u z to q=>by rw[oo (λy=>xy (k:=k) apt e4 j t ej to (by rw[z,y]))];exact q) λb u _ _ _ q=>q
           ap:=Rn.ap }
   ·have ez:ds.drop i=[]:=lq (by omega);rw[ez]at ei;unfold sT at ei;cases ei;rw[bt]at kk;exact .inl ⟨(wk i Hi H2 si Ri.sub).2 (by omega),kk p acc Hi H2 (s1.trans si) Ri hp2 hp0 (R1.bNone hp) apt rs⟩
  ·cases e
theorem MI{k:Nat}{cap:List Nat}{s:FA}{g:FG}(nd:cap.Nodup)(h:PE X e (Ca (tFI G s) (tFG G k g) (tFT G ft) (tF G fe) k cap)):PE X e (tFN G (oT k cap s g ft fe)):=PE.weak h (JF nd)
theorem MJ:PIf X [] (tFT G pM):=λpins s σ H Q I h=>by obtain⟨F,ρ,H0,b,ρ',R,e,k⟩:=h;cases e;exact O8 pins s σ H Q I (k _ _ (oB.refl _) R)
end
def rg:D->Bool
 |.non=>true|.bl _=>true|.int _=>true|.str _=>true|_=>false
def vD:D->V
 |.non=>.non|.bl b=>.bl b|.int i=>.int i|.str x=>.str x|_=>.non
section
variable{X:Cx}{G:Bg}{H:Hp}
theorem tN{v:V}(h:Rep G H d v)(f:rg d=true):v=vD d:=by cases d<;>first|(unfold Rep at h;exact h)|cases f
theorem zq(f:rg d=true):∀H,Rep G H d (vD d):=λH=>by cases d<;>first|(unfold Rep;rfl)|cases f
theorem Aj:∀{ds:az} {xs:bA},oh G H ds xs->ds.all rg=true->xs=ds.map vD
 |[],xs,h,f=>by unfold oh at h;exact h
 |d::ds,xs,h,f=>by unfold oh at h;obtain⟨v,r,rfl,h1,h2⟩:=h;rw[eZ,bo]at f;rw[ay,tN h1 f.1,Aj h2 f.2]
theorem Gq(f:rg d=true):yB (vD d)=true:=by cases d<;>first|rfl|cases f
theorem Ed:∀{ds:az},ds.all rg=true->(ds.map vD).all yB=true
 |[],_=>rfl
 |d::ds,f=>by rw[eZ,bo]at f;rw[ay,eZ,Gq f.1,Ed f.2];rfl
theorem OpR.or(h:OpR X f r)(h':OpR X f r'):OpR X f (λx y H Q=>r x y H Q\/r' x y H Q):=λpins s σ H x y v u Q I rx ry q=>q.elim (h pins s σ H x y v u Q I rx ry) (h' pins s σ H x y v u Q I rx ry)
theorem OpD.or{g:D->D->Option D}(h:OpD G r g)(h':OpD G r' g'):OpD G (λx y H Q=>r x y H Q\/r' x y H Q) (λx y=>match g x y with|some z=>some z|none=>g' x y):=λx y z H0 H v u Q e s rx ry k=>by
 cases e1:g x y with
 |some w=>simp only[e1]at e;cases e;exact .inl (h x y _ H0 H v u Q e1 s rx ry k)
 |none=>simp only[e1]at e;exact .inr (h' x y z H0 H v u Q e s rx ry k)
def dI(C:Int->Int->Bool)(g:Int->Int->D):D->D->Option D
 |.int a,.int b=>if C a b=true then some (g a b)else none
 |_,_=>none
theorem JG{g:Int->Int->D}(hC:∀a b,C a b=true->C' a b)(hf:∀a b,rg (g a b)=true/\vD (g a b)=g' a b):OpD G (rI C' g') (dI C g):=λx y z H0 H v u Q e s rx ry k=>by
 unfold dI at e;split at e
 ·rename_i a b;split at e
  ·rename_i hc;cases e;unfold Rep at rx ry;exact⟨a,b,rx,ry,hC _ _ hc,by rw[<-(hf a b).2];exact k _ λH0' _=>zq (hf a b).1 H0'⟩
  ·cases e
 ·cases e
theorem Al{g:Int->Int->D}(hf:∀a b,rg (g a b)=true/\vD (g a b)=g' a b):OpD G (rI0 g') (dI (λ_ _=>true) g):=λx y z H0 H v u Q e s rx ry k=>by
 unfold dI at e;split at e
 ·rename_i a b;split at e
  ·cases e;unfold Rep at rx ry;exact⟨a,b,rx,ry,by rw[<-(hf a b).2];exact k _ λH0' _=>zq (hf a b).1 H0'⟩
  ·cases e
 ·cases e
def pE:=dI (λ_ _=>true) λa b=>.int (a+b)
def Gr:=dI (λ_ _=>true) λa b=>.int (a - b)
def yW(a:Int):Bool:=decide (-(2 ^ 64)<a)&&decide (a<2 ^ 64)
def tP:=dI (λa b=>yW a||yW b) λa b=>.int (a * b)
def rh:=dI (λ_ b=>decide (0<b)) λa b=>.int (a % b)
def yE:=dI (λ_ b=>decide (0<b)&&decide (b<1073741824)) λa b=>.int (a / b)
def AN:=dI (λa b=>decide (0<=b)&&decide (b<=1000000)&&decide (a.natAbs<2 ^ 64)) λa b=>.int (a ^ b.toNat)
def yy:=dI (λ_ _=>true) λa b=>.bl (decide (a<b))
def uT:=dI (λ_ _=>true) λa b=>.bl (decide (a<=b))
def Cn:=dI (λ_ _=>true) λa b=>.bl (decide (b<a))
def SZ:=dI (λ_ _=>true) λa b=>.bl (decide (b<=a))
theorem S0:OpD G (rI0 λi j=>.int (i+j)) pE:=Al λ_ _=>⟨rfl,rfl⟩
theorem S4:OpD G (rI0 λi j=>.int (i - j)) Gr:=Al λ_ _=>⟨rfl,rfl⟩
theorem S5:OpD G (rI ON λi j=>.int (i * j)) tP:=JG (λa b h=>by
 unfold yW at h;simp only[jE,bo,bG]at h;exact h) λ_ _=>⟨rfl,rfl⟩
theorem S6:OpD G (rI (λ_ j=>0<j) λi j=>.int (i % j)) rh:=JG (λa b h=>by simpa using h) λ_ _=>⟨rfl,rfl⟩
theorem S7:OpD G (rI Sg λi j=>.int (i / j)) yE:=JG (λa b h=>by unfold Sg;simpa using h) λ_ _=>⟨rfl,rfl⟩
theorem S8:OpD G (rI Wf λi j=>.int (i ^ j.toNat)) AN:=JG (λa b h=>by
 simp only[bo,bG]at h;exact⟨h.1.1,h.1.2,h.2⟩) λ_ _=>⟨rfl,rfl⟩
theorem WJ:OpD G (rI0 λi j=>.bl (decide (i<j))) yy:=Al λ_ _=>⟨rfl,rfl⟩
theorem WK:OpD G (rI0 λi j=>.bl (decide (i<=j))) uT:=Al λ_ _=>⟨rfl,rfl⟩
theorem WL:OpD G (rI0 λi j=>.bl (decide (j<i))) Cn:=Al λ_ _=>⟨rfl,rfl⟩
theorem WM:OpD G (rI0 λi j=>.bl (decide (j<=i))) SZ:=Al λ_ _=>⟨rfl,rfl⟩
def X0:D->D->Option D
 |.str a,.str b=>if a.length+b.length<=100000 then some (.str (a++b))else none
 |_,_=>none
theorem Gs{n:Nat}(h:n<=100000):n<=sizeLine:=bL h (by rw[bJ];decide)
def MK:D->D->Option D
 |.str a,.str b=>some (.bl (!decide (b.cps.toList<a.cps.toList)))
 |_,_=>none
theorem S9:OpD G (λx y H Q=>∃i j,x=.str i/\y=.str j/\Q (.bl (!decide (j.cps.toList<i.cps.toList))) H) MK:=λx y z H0 H v u Q e s rx ry k=>by
 unfold MK at e;split at e
 ·rename_i a b;cases e;unfold Rep at rx ry;exact⟨a,b,rx,ry,k _ λ_ _=>rb _⟩
 ·cases e
def wj:D->D->Option D
 |.non,.non=>some (.bl true)
 |_,.non=>some (.bl false)
 |_,_=>none
def uY:D->D->Option D
 |.non,.non=>some (.bl false)
 |_,.non=>some (.bl true)
 |_,_=>none
theorem JH{v:V}(h:Rep G H d v):decide (v=.non)=(match d with|.non=>true|_=>false):=by
 cases d<;>unfold Rep at h
 ·subst h;rfl
 ·subst h;rfl
 ·subst h;rfl
 ·subst h;rfl
 ·obtain⟨a,xs,rfl,_⟩:=h;rfl
 ·obtain⟨a,xs,rfl,_⟩:=h;rfl
 ·obtain⟨a,xs,rfl,_⟩:=h;rfl
 ·obtain⟨a,dx,xs,rfl,_⟩:=h;rfl
 ·obtain⟨a,ob,xs,rfl,_⟩:=h;rfl
theorem Ta:OpD G (λx y H Q=>y=.non/\Q (.bl (decide (x=.non))) H) wj:=λx y z H0 H v u Q e s rx ry k=>by
 have e0:=JH rx;cases y<;>first|(cases x<;>cases e)|skip
 all_goals (unfold Rep at ry;refine⟨ry,?_⟩;rw[e0];exact k _ λ_ _=>rb _)
theorem PV:OpD G (λx y H Q=>y=.non/\Q (.bl (!decide (x=.non))) H) uY:=λx y z H0 H v u Q e s rx ry k=>by
 have e0:=JH rx;cases y<;>first|(cases x<;>cases e)|skip
 all_goals (unfold Rep at ry;refine⟨ry,?_⟩;rw[e0];exact k _ λ_ _=>rb _)
def XH:D->D->Option D
 |.bl a,.bl b=>some (.bl (a != b))
 |_,_=>none
mutual
def toD:D->Option L3.Dq
 |.non=>some .non
 |.bl b=>some (.bl b)
 |.int i=>some (.int i)
 |.str x=>some (.str x)
 |.tup ds=>match yz ds with
  |some l=>some (.tup l)
  |none=>none
 |.lst ds=>match yz ds with
  |some l=>some (.lst l)
  |none=>none
 |.fzl _=>none
 |.obj _ _ _=>none
 |.dic _ _=>none
def yz:az->Option (List L3.Dq)
 |[]=>some []
 |d::ds=>match toD d with
  |some x=>match yz ds with
   |some l=>some (x::l)
   |none=>none
  |none=>none
end
mutual
theorem E9:∀(d:D) (v:V) (x:L3.Dq),Rep G H d v->toD d=some x->L3.Rep G.K H x v
 |.non,v,x,h,e=>by unfold toD at e;cases e;unfold Rep at h;unfold L3.Rep;exact h
 |.bl b,v,x,h,e=>by unfold toD at e;cases e;unfold Rep at h;unfold L3.Rep;exact h
 |.int b,v,x,h,e=>by unfold toD at e;cases e;unfold Rep at h;unfold L3.Rep;exact h
 |.str b,v,x,h,e=>by unfold toD at e;cases e;unfold Rep at h;unfold L3.Rep;exact h
 |.tup ds,v,x,h,e=>by
  unfold toD at e;cases e1:yz ds with
  |none=>simp only[e1]at e;cases e
  |some l=>simp only[e1]at e;cases e;unfold Rep at h;obtain⟨a,xs,rfl,h1,h2⟩:=h;unfold L3.Rep;exact⟨a,xs,rfl,h1,Cp ds xs l h2 e1⟩
 |.lst ds,v,x,h,e=>by
  unfold toD at e;cases e1:yz ds with
  |none=>simp only[e1]at e;cases e
  |some l=>simp only[e1]at e;cases e;unfold Rep at h;obtain⟨a,xs,rfl,h1,h2⟩:=h;unfold L3.Rep;exact⟨a,xs,rfl,SqL.of h1,Cp ds xs l h2 e1⟩
 |.fzl _,v,x,h,e=>by unfold toD at e;cases e
 |.obj _ _ _,v,x,h,e=>by unfold toD at e;cases e
 |.dic _ _,v,x,h,e=>by unfold toD at e;cases e
theorem Cp:∀(ds:az) (xs:bA) (l:List L3.Dq),oh G H ds xs->yz ds=some l->L3.oh G.K H l xs
 |[],xs,l,h,e=>by unfold yz at e;cases e;unfold oh at h;unfold L3.oh;exact h
 |d::ds,xs,l,h,e=>by
  unfold yz at e;cases e1:toD d with
  |none=>simp only[e1]at e;cases e
  |some x=>
   simp only[e1]at e;cases e2:yz ds with
   |none=>simp only[e2]at e;cases e
   |some l'=>simp only[e2]at e;cases e;unfold oh at h;obtain⟨v,r,rfl,h1,h2⟩:=h;unfold L3.oh;exact⟨v,r,rfl,E9 d v x h1 e1,Cp ds r l' h2 e2⟩
end
def BG(neg:Bool):D->D->Option D:=λx y=>match rg x&&rg y&&LV (vD x) (vD y)with
 |true=>some (.bl (if neg then !decide (vD x=vD y)else decide (vD x=vD y)))
 |false=>none
def Cq(neg:Bool):D->D->Option D:=λx y=>match toD x,toD y with
 |some a,some b=>if D7 a b&&decide (dpt a<=20)&&decide (dpt b<=20)then some (.bl (if neg then !eqD a b else eqD a b))else none
 |_,_=>none
def dEq(neg:Bool):D->D->Option D:=λx y=>match BG neg x y with
 |some z=>some z
 |none=>Cq neg x y
theorem Tb:OpD G rEq (BG false):=λx y z H0 H v u Q e s rx ry k=>by
 unfold BG at e;cases e1:rg x&&rg y&&LV (vD x) (vD y)with
 |false=>simp only[e1]at e;cases e
 |true=>simp only[e1]at e;cases e;simp only[bo]at e1;rw[tN rx e1.1.1,tN ry e1.1.2];exact⟨e1.2,k _ λ_ _=>rb _⟩
theorem Tc:OpD G rNe (BG true):=λx y z H0 H v u Q e s rx ry k=>by
 unfold BG at e;cases e1:rg x&&rg y&&LV (vD x) (vD y)with
 |false=>simp only[e1]at e;cases e
 |true=>simp only[e1]at e;cases e;simp only[bo]at e1;rw[tN rx e1.1.1,tN ry e1.1.2];exact⟨e1.2,k _ λ_ _=>rb _⟩
theorem ML:OpD G (HZ G.K neg) (Cq neg):=λx y z H0 H v u Q e s rx ry k=>by
 unfold Cq at e;cases e1:toD x with
 |none=>simp only[e1]at e;cases e
 |some a=>
  cases e2:toD y with
  |none=>simp only[e1,e2]at e;cases e
  |some b=>
   simp only[e1,e2]at e;split at e
   ·rename_i hc;cases e;simp only[bo,bG]at hc;exact⟨a,b,E9 x v a (Rep.mono s _ _ rx) e1,E9 y u b (Rep.mono s _ _ ry) e2,hc.1.1,hc.1.2,hc.2,k _ λ_ _=>rb _⟩
   ·cases e
theorem Te(hu:X.A.units+64<cLine)(hK:X.K=G.K:=by rfl):OpR X (compareOp .Eq) (λx y H Q=>rEq x y H Q\/HZ G.K false x y H Q):=by rw[<-hK];exact OpR.or Wg (SG hu)
theorem Tf(hu:X.A.units+64<cLine)(hK:X.K=G.K:=by rfl):OpR X (compareOp .NotEq) (λx y H Q=>rNe x y H Q\/HZ G.K true x y H Q):=by rw[<-hK];exact OpR.or Wh (SH hu)
theorem WN:OpD G (λx y H Q=>rEq x y H Q\/HZ G.K false x y H Q) (dEq false):=OpD.or Tb ML
theorem WO:OpD G (λx y H Q=>rNe x y H Q\/HZ G.K true x y H Q) (dEq true):=OpD.or Tc ML
def MM:D->Option az
 |.tup ds=>some ds
 |.lst ds=>some ds
 |.fzl ds=>some ds
 |_=>none
theorem JI{v:V}(h:Rep G H d v)(e:MM d=some ds):∃p xs,v=.ref p/\(SqL G.K H p xs\/SqT G.K H p xs)/\oh G H ds xs:=by
 cases d with
 |tup l=>cases e;unfold Rep at h;obtain⟨a,xs,rfl,h1,h2⟩:=h;exact⟨a,xs,rfl,.inr h1,h2⟩
 |lst l=>cases e;unfold Rep at h;obtain⟨a,xs,rfl,h1,h2⟩:=h;exact⟨a,xs,rfl,.inl (SqL.of h1),h2⟩
 |fzl l=>cases e;unfold Rep at h;obtain⟨a,xs,rfl,h1,h2⟩:=h;exact⟨a,xs,rfl,.inl h1,h2⟩
 |_=>cases e
def dIn(neg:Bool):D->D->Option D:=λx y=>match MM y with
 |some ds=>if rg x&&ds.all rg then some (.bl (if neg then !inV (vD x) (ds.map vD)else inV (vD x) (ds.map vD)))else none
 |none=>none
theorem JJ{K:aw}(s:oB H H')(h:SqL K H p xs\/SqT K H p xs):SqL K H' p xs\/SqT K H' p xs:=h.imp s.seq (SqT.mono s)
theorem Rr:OpD G (rIn G.K neg) (dIn neg):=λx y z H0 H v u Q e s rx ry k=>by
 unfold dIn at e;cases e1:MM y with
 |none=>simp only[e1]at e;cases e
 |some ds=>
  simp only[e1]at e;split at e
  ·rename_i hc;cases e;simp only[bo]at hc;obtain⟨p,xs,rfl,h1,h2⟩:=JI ry e1;refine⟨p,xs,rfl,JJ s h1,?_,?_,?_⟩
   ·rw[tN rx hc.1];exact Gq hc.1
   ·rw[Aj h2 hc.2];exact Ed hc.2
   ·rw[tN rx hc.1,Aj h2 hc.2];exact k _ λ_ _=>rb _
  ·cases e
theorem Tg(hK:X.K=G.K:=by rfl):OpR X (compareOp .In) (rIn G.K false):=by rw[<-hK];exact KG
theorem K0(hK:X.K=G.K:=by rfl):OpR X (compareOp .NotIn) (rIn G.K true):=by rw[<-hK];exact EX
def dIx:D->D->Option D
 |.tup ds,.int i=>atI ds i
 |.lst ds,.int i=>atI ds i
 |.fzl ds,.int i=>atI ds i
 |.str x,.int i=>if x.length<=100000 then (atI x.cps.toList i).map λc=>.str ⟨#[c]⟩else none
 |_,_=>none
theorem WQ:OpD G (rIx G.K) dIx:=λx y z H0 H v u Q e s rx ry k=>by
 cases y with
 |int i=>
  unfold Rep at ry;subst ry;cases x with
  |tup ds=>unfold Rep at rx;obtain⟨a,xs,rfl,h1,h2⟩:=rx;obtain⟨w,w1,w2⟩:=zm h2 (show atI ds i=some z from e);exact .inr (.inl ⟨a,xs,i,w,rfl,rfl,SqT.mono s h1,w1,k _ λH0' s'=>Rep.mono s' _ _ w2⟩)
  |lst ds=>unfold Rep at rx;obtain⟨a,xs,rfl,h1,h2⟩:=rx;obtain⟨w,w1,w2⟩:=zm h2 (show atI ds i=some z from e);exact .inl ⟨a,xs,i,w,rfl,rfl,s.seq (SqL.of h1),w1,k _ λH0' s'=>Rep.mono s' _ _ w2⟩
  |fzl ds=>unfold Rep at rx;obtain⟨a,xs,rfl,h1,h2⟩:=rx;obtain⟨w,w1,w2⟩:=zm h2 (show atI ds i=some z from e);exact .inl ⟨a,xs,i,w,rfl,rfl,s.seq h1,w1,k _ λH0' s'=>Rep.mono s' _ _ w2⟩
  |str t=>
   unfold Rep at rx;subst rx;unfold dIx at e;simp only at e;split at e
   ·rename_i hl;cases e1:atI t.cps.toList i with
    |none=>rw[e1]at e;cases e
    |some c=>rw[e1]at e;cases e;exact .inr (.inr ⟨t,i,c,rfl,rfl,Gs hl,e1,k _ λ_ _=>wc _⟩)
   ·cases e
  |_=>cases e
 |_=>cases x<;>cases e
theorem XX(hK:X.K=G.K:=by rfl):IxR X (rIx G.K):=by rw[<-hK];exact Sv
def Ee(G:Bg)(r:bA->Hp->VK->Prop)(g:D->Option D):Prop:=∀x z H0 H v (Q:VK),g x=some z->oB H0 H->Rep G H0 x v->(∀w,(∀H0',oB H0 H0'->Rep G H0' z w)->Q w H)->r [v] H Q
theorem Rt{g:D->Option D}(hr:Ee G r g)(h:PE X e (tCB r (tFA G (nY f oq)))):PE X e (tF G (c1 g f)):=PE.weak h λσ H Q hh=>by obtain⟨F,ρ,H0,d,ρ',R,e,k⟩:=hh;obtain⟨x,e1,e2⟩:=BO e;refine⟨F,ρ,H0,[x],ρ',R,by unfold nY;rw[e1];rfl,λys H1 H1' s R' rs=>?_⟩;unfold oh at rs;obtain⟨v,r0,rfl,rv,rn⟩:=rs;unfold oh at rn;subst rn;exact hr x d H1 H1' v Q e2 R'.sub rv λw hw=>k _ _ _ s R' (hw _ (oB.refl _))
theorem qr.or(h:qr X f r)(h':qr X f r'):qr X f (λx H Q=>r x H Q\/r' x H Q):=λpins s σ H xs us Q I rv q=>q.elim (h pins s σ H xs us Q I rv) (h' pins s σ H xs us Q I rv)
def p9:D->Option D
 |.tup ds=>some (.int ds.length)
 |.lst ds=>some (.int ds.length)
 |.fzl ds=>some (.int ds.length)
 |.str x=>if x.length<=100000 then some (.int x.length)else none
 |.dic ks ds=>some (.int ks.length)
 |_=>none
theorem K1:qr X (.builtin "len") (λxs H Q=>∃a kvs,xs=[V.ref a]/\Rd H a (.dK kvs)/\Q (.int kvs.length) H):=by intro pins s σ H xs us Q I r h;obtain⟨a,kvs,rfl,ha,q⟩:=h;obtain⟨u,rfl,ru⟩:=vals1 r;cases ru;exact Wu I ha λt s' I'=>⟨.int kvs.length,H,I',⟨t,rfl⟩,q⟩
def Ru(K:aw):bA->Hp->VK->Prop:=λxs H Q=>(∃p ys,xs=[.ref p]/\(SqL K H p ys\/SqT K H p ys)/\Q (.int ys.length) H)\/((∃z,xs=[.str z]/\z.length<=sizeLine/\Q (.int z.length) H)\/(∃a kvs,xs=[V.ref a]/\Rd H a (.dK kvs)/\Q (.int kvs.length) H))
theorem K2(hK:X.K=G.K:=by rfl):qr X (.builtin "len") (Ru G.K):=by rw[<-hK];exact qr.or EY (qr.or EZ K1)
theorem Ti:Ee G (Ru G.K) p9:=λx z H0 H v Q e s rx k=>by
 cases x with
 |tup ds=>cases e;unfold Rep at rx;obtain⟨a,xs,rfl,h1,h2⟩:=rx;refine .inl ⟨a,xs,rfl,.inr (SqT.mono s h1),?_⟩;rw[<-oi h2];exact k _ λ_ _=>qT _
 |lst ds=>cases e;unfold Rep at rx;obtain⟨a,xs,rfl,h1,h2⟩:=rx;refine .inl ⟨a,xs,rfl,.inl (s.seq (SqL.of h1)),?_⟩;rw[<-oi h2];exact k _ λ_ _=>qT _
 |fzl ds=>cases e;unfold Rep at rx;obtain⟨a,xs,rfl,h1,h2⟩:=rx;refine .inl ⟨a,xs,rfl,.inl (s.seq h1),?_⟩;rw[<-oi h2];exact k _ λ_ _=>qT _
 |str t=>
  unfold p9 at e;simp only at e;split at e
  ·rename_i hl;cases e;unfold Rep at rx;exact .inr (.inl ⟨t,by rw[rx],Gs hl,k _ λ_ _=>qT _⟩)
  ·cases e
 |dic ks ds=>cases e;unfold Rep at rx;obtain⟨a,o,xs,rfl,h1,h2,h3⟩:=rx;refine .inr (.inr ⟨a,_,rfl,.inr ⟨o,s _ _ h1⟩,?_⟩);rw[eD,<- h2,dM];exact k _ λ_ _=>qT _
 |_=>cases e
def Gu:D->Option D
 |.int i=>some (.int i)
 |.bl b=>some (.int (if b then 1 else 0))
 |_=>none
theorem Tj:Ee G (λxs H Q=>(∃i,xs=[.int i]/\Q (.int i) H)\/∃k,xs=[.bl k]/\Q (.int (if k then 1 else 0)) H) Gu:=λx z H0 H v Q e s rx k=>by
 cases x with
 |int i=>cases e;unfold Rep at rx;subst rx;exact .inl ⟨i,rfl,k _ λ_ _=>qT _⟩
 |bl b=>cases e;unfold Rep at rx;subst rx;exact .inr ⟨b,rfl,k _ λ_ _=>qT _⟩
 |_=>cases e
def DN:az->Option (List Bool)
 |[]=>some []
 |.bl b::r=>(DN r).map (b::·)
 |_=>none
theorem Cr:∀{ds:az} {xs:bA} {bs:List Bool},oh G H ds xs->DN ds=some bs->xs=bs.map V.bl
 |[],xs,bs,h,e=>by cases e;unfold oh at h;exact h
 |.bl b::r,xs,bs,h,e=>by
  unfold oh at h;obtain⟨v,q,rfl,h1,h2⟩:=h;unfold DN at e;cases e1:DN r with
  |none=>rw[e1]at e;cases e
  |some l=>rw[e1]at e;cases e;unfold Rep at h1;subst h1;rw[Cr h2 e1];rfl
 |.non::r,xs,bs,h,e=>by cases e
 |.int _::r,xs,bs,h,e=>by cases e
 |.str _::r,xs,bs,h,e=>by cases e
 |.tup _::r,xs,bs,h,e=>by cases e
 |.lst _::r,xs,bs,h,e=>by cases e
 |.fzl _::r,xs,bs,h,e=>by cases e
 |.obj _ _ _::r,xs,bs,h,e=>by cases e
 |.dic _ _::r,xs,bs,h,e=>by cases e
def uU:D->Option D
 |.lst ds=>(DN ds).map λbs=>.bl (bs.all id)
 |_=>none
theorem To:Ee G (λxs H Q=>∃(p:Addr) (bs:List Bool),xs=[.ref p]/\SqL G.K H p (bs.map V.bl)/\Q (.bl (bs.all id)) H) uU:=λx z H0 H v Q e s rx k=>by
 cases x with
 |lst ds=>
  unfold uU at e;simp only at e;cases e1:DN ds with
  |none=>rw[e1]at e;cases e
  |some bs=>rw[e1]at e;cases e;unfold Rep at rx;obtain⟨a,xs,rfl,h1,h2⟩:=rx;rw[Cr h2 e1]at h1;exact⟨a,bs,rfl,s.seq (SqL.of h1),k _ λ_ _=>rb _⟩
 |_=>cases e
theorem K4(hc:X.calm=true)(hK:X.K=G.K:=by rfl):qr X (.builtin "all") (λxs H Q=>∃(p:Addr) (bs:List Bool),xs=[.ref p]/\SqL G.K H p (bs.map V.bl)/\Q (.bl (bs.all id)) H):=by rw[<-hK];exact Mj hc
inductive Ty where
 |b (n:String)|c (k:Nat)
def Ty.val(G:Bg):Ty->ae
 |.b n=>.type n
 |.c k=>.ref (G.ca k)
def Ty.v(G:Bg):Ty->V
 |.b n=>.ty n
 |.c k=>.ref (G.ca k)
def tyD:D->Ty
 |.non=>.b "NoneType" |.bl _=>.b "bool" |.int _=>.b "int" |.str _=>.b "str" |.tup _=>.b "tuple" |.lst _=>.b "list" |.fzl _=>.b "list" |.dic _ _=>.b "dict" |.obj c _ _=>.c c
structure K5(K:aw)(C:Addr):Prop where
 cl:Cls K C
 ha:cv K (.ref C) "__class__" = some (some (.builtin "object.__class__"))
 hn:W.specialIn K (.builtin "object.__class__") "__get__" = some (some (.builtin "getset_descriptor.__get__"))
 htk:W.takesIn K (.builtin "object.__class__")=some true
 hm:W.mroIn K C (.type "object")=some true
theorem MN{s:af}{v:V}(I:Inv X pins σ H s)(hK:X.K=G.K)(hd:Rep G H d v)(rv:RelV v u)(hc:∀k ns ds,d=.obj k ns ds->K5 X.K (G.ca k))
  (e:cH X.K ((tyD d).val G) c=some b) (h:∀tk,Q (.bool b) { s with toks:=tk }):wpAny (model X.prog X.w) A (call (.builtin "isinstance") [u,c]) Q E s:=by
 cases d with
 |non=>unfold Rep at hd;subst hd;exact ur I rv .non e h
 |bl x=>unfold Rep at hd;subst hd;exact ur I rv (.bl x) e h
 |int x=>unfold Rep at hd;subst hd;exact ur I rv (.int x) e h
 |str x=>unfold Rep at hd;subst hd;exact ur I rv (.str x) e h
 |tup ds=>unfold Rep at hd;obtain⟨a,xs,rfl,h1,h2⟩:=hd;cases rv;rw[<-hK]at h1;obtain⟨its,_,p,_⟩:=I.tuple h1;obtain⟨o,q1,q2,_⟩:=p;exact cu W.kitx_tuple I.kIn ⟨o,q1,q2⟩ e (λz=>nomatch z) h
 |lst ds=>unfold Rep at hd;obtain⟨a,xs,rfl,h1,h2⟩:=hd;exact ur I rv (.lst h1) e h
 |fzl ds=>unfold Rep at hd;obtain⟨a,xs,rfl,h1,h2⟩:=hd;cases rv;rw[<-hK]at h1;obtain⟨its,_,p,_⟩:=I.list h1;obtain⟨o,n,q1,q2,_⟩:=p;exact cu j5 I.kIn ⟨o,q1,q2⟩ e (λz=>nomatch z) h
 |dic ks ds=>unfold Rep at hd;obtain⟨a,o,xs,rfl,h1,h2,h3⟩:=hd;cases rv;obtain⟨q0,_,_,vs,_,ob,es,ep,q1,q2,_⟩:=(show pI X.prog X.w H s.heap a (.frz o (.dK (ks.zip xs))) from I.hok a _ h1);exact cu j6 I.kIn ⟨ob,q1,q2.1⟩ e (λz=>nomatch z) h
 |obj k ns ds=>have ci:=hc k ns ds rfl;unfold Rep at hd;obtain⟨a,dx,xs,rfl,h1,h2,h3⟩:=hd;exact ur I rv (.ins h1 ci.cl ci.ha ci.hn ci.htk ci.hm) e h
def pQ(t:Ty->Option Bool):D->Option D:=λd=>(t (tyD d)).map .bl
theorem Ef(c:Ty){t:Ty->Option Bool}(ht:∀y b,t y=some b->cH X.K (y.val G) (c.val G)=some b)(hc:∀k b,t (.c k)=some b->K5 X.K (G.ca k))(hK:X.K=G.K:=by rfl):
  qr X (.builtin "isinstance") (λxs H Q=>∃d x b,xs=[x,c.v G]/\Rep G H d x/\t (tyD d)=some b/\Q (.bl b) H):=by
 intro pins s σ H xs us Q I r h;obtain⟨d,x,b,rfl,hd,e,q⟩:=h;obtain⟨u,w',rfl,ru,rw'⟩:=vals2 r;have ew:w'=c.val G:=by cases c<;>exact rw'
 subst ew;exact MN I hK hd ru (λk ns ds z=>by subst z;exact hc k b e) (ht _ _ e) λtk=>⟨.bl b,H,I.tok _,rfl,q⟩
theorem JK{c:Ty}{t:Ty->Option Bool}(h:PE X e (tCB (λxs H Q=>∃d x b,xs=[x,c.v G]/\Rep G H d x/\t (tyD d)=some b/\Q (.bl b) H) (B2 (tF G f) (B2 (tC (c.v G)) FZ)))):PE X e (tF G (c1 (pQ t) f)):=PE.weak h λσ H Q hh=>by
 obtain⟨F,ρ,H0,d,ρ',R,e,k⟩:=hh;obtain⟨x,e1,e2⟩:=BO e;unfold pQ at e2;cases e3:t (tyD x)with
 |none=>rw[e3]at e2;cases e2
 |some b=>rw[e3]at e2;cases e2;exact⟨F,ρ,H0,x,ρ',R,e1,λv H1 H1' s R' r=>⟨x,v,b,rfl,Rep.mono R'.sub _ _ r,e3,k _ _ _ s R' (rb b)⟩⟩
def qz(f g:FE):FA:=λρ=>match f ρ with
 |some (.lst xs,ρ1)=>match g ρ1 with
  |some (.lst ys,ρ2)=>if xs.length+ys.length<=1000 then some (xs++ys,ρ2)else none
  |_=>none
 |_=>none
theorem PX{g:FE}(ha:PE X a (tF G f))(hb:PE X b (tF G g)):PE X (.BinOp a .Add b pos) (tFN G (qz f g)):=PE.weak (LU Sx ha hb) λσ H Q hh=>by
 obtain⟨F,ρ,H0,d,ρ',R,e,k⟩:=hh;unfold qz at e;split at e
 ·rename_i xs ρ1 e1;split at e
  ·rename_i ys ρ2 e2;split at e
   ·rename_i hl;cases e;refine⟨F,ρ,H0,_,ρ1,R,e1,λv H1 H1' s R' r=>⟨F,ρ1,H1,_,_,R',e2,λu H2 H2' s2 R2 r2=>?_⟩⟩;have r':=Rep.mono s2 _ _ r;unfold Rep at r' r2;obtain⟨a1,xs1,rfl,h1,h2⟩:=r';obtain⟨a2,xs2,rfl,h3,h4⟩:=r2;refine⟨a1,a2,xs1,xs2,rfl,rfl,R2.sub _ _ h1,R2.sub _ _ h3,by rw[<-oi h2,<- oi h4];exact uB hl,λp hp=>?_⟩;exact k p _ _ _ (s.trans s2) (R2.newOwn hp _) om (R2.h0none hp) (R2.bNone hp) (R2.apart hp) (qJ h2 h4)
   ·cases e
  ·cases e
 ·cases e
def xA(f:FE):FA:=λρ=>match f ρ with
 |some (d,ρ1)=>match MM d with
  |some ds=>some (ds,ρ1)
  |none=>none
 |none=>none
theorem MO(h:PE X e (tCB (λxs H Q=>∃p ys,xs=[.ref p]/\(SqL G.K H p ys\/SqT G.K H p ys)/\∀l,H l=none->Q (.ref l) (upd H l (.lst ys))) (tFA G (nY f oq)))):PE X e (tFN G (xA f)):=PE.weak h λσ H Q hh=>by
 obtain⟨F,ρ,H0,ds,ρ',R,e,k⟩:=hh;unfold xA at e;rcases o5 (f:=f) (ρ:=ρ)with e1|⟨d,ρ1,e1⟩<;>simp only[e1]at e
 ·cases e
 ·cases e2:MM d with
  |none=>simp only[e2]at e;cases e
  |some ds'=>simp only[e2]at e;cases e;refine⟨F,ρ,H0,[d],_,R,by unfold nY;rw[e1];rfl,λys H1 H1' s R' rs=>?_⟩;unfold oh at rs;obtain⟨v,r0,rfl,rv,rn⟩:=rs;unfold oh at rn;subst rn;obtain⟨p,xs,rfl,h1,h2⟩:=JI rv e2;exact⟨p,xs,rfl,JJ R'.sub h1,λl hl=>k l _ _ _ s (R'.newOwn hl _) om (R'.h0none hl) (R'.bNone hl) (R'.apart hl) h2⟩
theorem Ig(hK:X.K=G.K:=by rfl):qr X (.type "list") (λxs H Q=>∃p ys,xs=[.ref p]/\(SqL G.K H p ys\/SqT G.K H p ys)/\∀l,H l=none->Q (.ref l) (upd H l (.lst ys))):=by rw[<-hK];exact E1
def AO(f:FE):FE:=λρ=>match f ρ with
 |some (.lst ds,ρ1)=>some (.tup ds,ρ1)
 |some (.tup ds,ρ1)=>some (.tup ds,ρ1)
 |_=>none
theorem MP(h:PE X e (tCB (λxs H Q=>∃p ys,xs=[.ref p]/\((SqL G.K H p ys/\∀l,H l=none->Q (.ref l) (upd H l (.tup ys)))\/(SqT G.K H p ys/\Q (.ref p) H))) (tFA G (nY f oq)))):PE X e (tF G (AO f)):=PE.weak h λσ H Q hh=>by
 obtain⟨F,ρ,H0,ds,ρ',R,e,k⟩:=hh;unfold AO at e;split at e
 ·rename_i xs ρ1 e1;cases e;refine⟨F,ρ,H0,[_],_,R,by unfold nY;rw[e1];rfl,λys H1 H1' s R' rs=>?_⟩;unfold oh at rs;obtain⟨v,r0,rfl,rv,rn⟩:=rs;unfold oh at rn;subst rn;unfold Rep at rv;obtain⟨p,zs,rfl,h1,h2⟩:=rv;refine⟨p,zs,rfl,.inl ⟨SqL.of (R'.sub _ _ h1),λl hl=>?_⟩⟩;exact k _ _ _ (s.trans (oF (R'.h0none hl) _)) (R'.newIm hl _) (yj (SqT.of om) (oh.mono (oF (R'.h0none hl) _) _ _ h2))
 ·rename_i xs ρ1 e1;cases e;refine⟨F,ρ,H0,[_],_,R,by unfold nY;rw[e1];rfl,λys H1 H1' s R' rs=>?_⟩;unfold oh at rs;obtain⟨v,r0,rfl,rv,rn⟩:=rs;unfold oh at rn;subst rn;have rv0:=rv;unfold Rep at rv;obtain⟨p,zs,rfl,h1,h2⟩:=rv;exact⟨p,zs,rfl,.inr ⟨SqT.mono R'.sub h1,k _ _ _ s R' rv0⟩⟩
 ·cases e
theorem K6(hK:X.K=G.K:=by rfl):qr X (.type "tuple") (λxs H Q=>∃p ys,xs=[.ref p]/\((SqL G.K H p ys/\∀l,H l=none->Q (.ref l) (upd H l (.tup ys)))\/(SqT G.K H p ys/\Q (.ref p) H))):=by rw[<-hK];exact DJ
def cutD(xs:az)(lo hi:Option Int):az:=(xs.drop (HT.sIx xs.length 0 lo)).take (HT.sIx xs.length xs.length hi - HT.sIx xs.length 0 lo)
theorem Gv{lo:Option Int}(r:oh G H0 ds xs):oh G H0 (cutD ds lo hi) (KE xs lo hi):=by unfold cutD KE;rw[<-oi r];exact Ea _ (D9 _ r)
def cSl(f:FE)(lo hi:Option Int):FA:=λρ=>match f ρ with
 |some (.lst ds,ρ1)=>some (cutD ds lo hi,ρ1)
 |some (.fzl ds,ρ1)=>some (cutD ds lo hi,ρ1)
 |_=>none
def tO(o:Option Int):TO:=λ_ H Q=>Q o H
theorem K7{lo:Option Int}(h:PE X e (tSl (KF G.K) (tF G f) (tO lo) (tO hi))):PE X e (tFN G (cSl f lo hi)):=PE.weak h λσ H Q hh=>by
 obtain⟨F,ρ,H0,ds,ρ',R,e,k⟩:=hh;have gen:∀{a:Addr} {xs:bA} {ds':az} {H1 H1':Hp},oB H0 H1->oI G F σ ρ' H1 H1'->SqL G.K H1 a xs->oh G H1 ds' xs->ds=cutD ds' lo hi->KF G.K (.ref a) lo hi H1' Q:=λ{a xs ds' H1 H1'} s R' h1 h2 e=>by subst e;exact⟨a,xs,rfl,R'.sub.seq h1,λp hp=>k p _ _ _ s (R'.newOwn hp _) om (R'.h0none hp) (R'.bNone hp) (R'.apart hp) (Gv h2)⟩
 unfold cSl at e;split at e
 ·rename_i xs ρ1 e1;cases e;refine⟨F,ρ,H0,_,_,R,e1,λv H1 H1' s R' r=>?_⟩;unfold Rep at r;obtain⟨a,ys,rfl,h1,h2⟩:=r;exact gen s R' (SqL.of h1) h2 rfl
 ·rename_i xs ρ1 e1;cases e;refine⟨F,ρ,H0,_,_,R,e1,λv H1 H1' s R' r=>?_⟩;unfold Rep at r;obtain⟨a,ys,rfl,h1,h2⟩:=r;exact gen s R' h1 h2 rfl
 ·cases e
theorem MQ{n:Int}{j pos}:PO X (some (.Constant (.int n) j pos)) (tO (some n)):=λpins s σ H Q I h=>Ju HH pins s σ H Q I ⟨n,rfl,h⟩
theorem WR:PO X none (tO none):=Jt
theorem WS(hK:X.K=G.K:=by rfl):SlR X (KF G.K):=by rw[<-hK];exact O0
end
def Sl.bor:Sl->Sl
 |.un=>.un
 |.im d=>.im d
 |.ls ds=>.im (.lst ds)
 |.pm ds=>.im (.lst ds)
 |.dk _ _=>.un
 |.ob c ns ds=>.im (.obj c ns ds)
section
variable{X:Cx}{G:Bg}
theorem oI.bor(R:oI G F σ ρ H0 H):oI G ⟨H,H,[]⟩ σ (ρ.map Sl.bor) H H where
 sub:=oB.refl _
 g0:=oB.refl _
 keep:=λb o e _=>e
 fr:=λb o e=>.inl e
 am:=λa h=>by cases h
 len:=by rw[ah];exact R.len
 sl:=λi s e=>by
  rw[bj]at e;cases e1:ρ[i]? with
  |none=>rw[e1]at e;cases e
  |some t=>
   rw[e1]at e;cases e;have ok:=R.sl i t e1;cases t with
   |un=>trivial
   |im d=>obtain⟨v,h1,h2⟩:=ok;exact⟨v,h1,Rep.mono R.sub _ _ h2⟩
   |ls ds=>obtain⟨a,xs,h1,h2,h3,h4,h5⟩:=ok;exact⟨_,h1,uX h2 (oh.mono R.sub _ _ h5)⟩
   |pm ds=>obtain⟨a,xs,h1,h2,h3,h4,h5⟩:=ok;exact⟨_,h1,uX h2 (oh.mono R.sub _ _ h5)⟩
   |dk ks ds=>trivial
   |ob c ns ds=>obtain⟨a,dx,xs,h1,h2,h3,h4,h5,h6⟩:=ok;exact⟨_,h1,by unfold Rep;exact⟨a,dx,xs,rfl,h2,h5,oh.mono R.sub _ _ h6⟩⟩
 ap:=λi j s t a _ e _ so=>by
  rw[bj]at e;cases e1:ρ[i]? with
  |none=>rw[e1]at e;cases e
  |some t=>rw[e1]at e;cases e;cases t<;>cases so
theorem oI.unbor(R:oI G F σ ρ H0 H)(R':oI G ⟨H,H,[]⟩ σ' ρ' H1 H1'):oI G F σ ρ H0 H1':=
 R.grow (λb o e=>R'.keep b o e (by simp)) (oB.refl _) (λb o e=>R'.keep b o (R.sub _ _ e) (by simp)) λb o e=>.inl e
def zr(f:FE):FE:=λρ=>match f (ρ.map Sl.bor)with
 |some (d,_)=>if rg d=true then some (d,ρ)else none
 |none=>none
def yF(f:FT):FT:=λρ=>match f (ρ.map Sl.bor)with
 |some (d,_)=>some (d,ρ)
 |none=>none
theorem Tp(h:PE X e (tF G f)):PE X e (tF G (zr f)):=PE.weak h λσ H Q hh=>by
 obtain⟨F,ρ,H0,d,ρ',R,e,k⟩:=hh;unfold zr at e;rcases o5 (f:=f) (ρ:=ρ.map Sl.bor)with e1|⟨x,ρ1,e1⟩<;>simp only[e1]at e
 ·cases e
 ·split at e
  ·rename_i hf;cases e;refine⟨_,_,H,d,ρ1,R.bor,e1,λv H1 H1' s R' r=>?_⟩;rw[tN r hf];exact k _ _ _ (oB.refl _) (R.unbor R') (zq hf _)
  ·cases e
theorem PY(h:PT X e (tFT G f)):PT X e (tFT G (yF f)):=PT.weak h λσ H Q hh=>by
 obtain⟨F,ρ,H0,d,ρ',R,e,k⟩:=hh;unfold yF at e;rcases o5 (f:=f) (ρ:=ρ.map Sl.bor)with e1|⟨x,ρ1,e1⟩<;>simp only[e1]at e
 ·cases e
 ·cases e;exact⟨_,_,H,d,ρ1,R.bor,e1,λH1 H1' s R'=>k _ _ (oB.refl _) (R.unbor R')⟩
def rW(g g':D->D->Option D)(fa fb fc:FE):FE:=λρ=>match fa ρ with
 |some (x,ρ1)=>match fb ρ1 with
  |some (y,ρ2)=>match g x y with
   |some (.bl true)=>match fc ρ2 with
    |some (z,ρ3)=>match g' y z with
     |some w=>some (w,ρ3)
     |none=>none
    |none=>none
   |some (.bl false)=>some (.bl false,ρ2)
   |_=>none
  |none=>none
 |none=>none
theorem Gw{g:D->D->Option D}(ho:OpD G r g)(ho':OpD G r' g'):∀σ H Q,tF G (rW g g' fa fb fc) σ H Q->HL r r' (tF G fa) (tF G fb) (tF G fc) σ H Q:=λσ H Q hh=>by
 obtain⟨F,ρ,H0,d,ρ',R,e,k⟩:=hh;unfold rW at e;rcases o5 (f:=fa) (ρ:=ρ)with e1|⟨x,ρ1,e1⟩<;>simp only[e1]at e
 ·cases e
 rcases o5 (f:=fb) (ρ:=ρ1)with e2|⟨y,ρ2,e2⟩<;>simp only[e2]at e
 ·cases e
 refine⟨F,ρ,H0,x,ρ1,R,e1,λv H1 H1' s1 R1 r1=>⟨F,ρ1,H1,y,ρ2,R1,e2,λu H2 H2' s2 R2 r2=>?_⟩⟩;split at e
 ·rename_i e3;refine ho x y _ H2 H2' v u _ e3 R2.sub (Rep.mono s2 _ _ r1) r2 λw hw=>?_;have hw':=hw H2 (oB.refl _);unfold Rep at hw';refine⟨true,hw',E6 ?_⟩;rcases o5 (f:=fc) (ρ:=ρ2)with e4|⟨z,ρ3,e4⟩<;>simp only[e4]at e
  ·cases e
  cases e5:g' y z with
  |none=>simp only[e5]at e;cases e
  |some q=>simp only[e5]at e;cases e;refine⟨F,ρ2,H2,z,_,R2,e4,λt H3 H3' s3 R3 r3=>?_⟩;exact ho' y z _ H3 H3' u t Q e5 R3.sub (Rep.mono s3 _ _ r2) r3 λw hw=>k w H3 H3' (s1.trans (s2.trans s3)) R3 (hw _ (oB.refl _))
 ·rename_i e3;cases e;refine ho x y _ H2 H2' v u _ e3 R2.sub (Rep.mono s2 _ _ r1) r2 λw hw=>?_;have hw':=hw H2 (oB.refl _);unfold Rep at hw';exact⟨false,hw',E5 (k _ _ _ (s1.trans s2) R2 (rb false))⟩
 ·cases e
theorem MR{op:cI}{g:D->D->Option D}(hr:OpR X (compareOp op) r)(hr':OpR X (compareOp op') r')(ho:OpD G r g)(ho':OpD G r' g')(ha:PE X a (tF G fa))(hb:PE X b (tF G fb))(hc:PE X c (tF G fc))
  (hm:lastMarks [op,op'] [b,c]=false:=by with_unfolding_all rfl):PE X (.Compare a [op,op'] [b,c] pos) (tF G (rW g g' fa fb fc)):=PE.weak (LY hr hr' ha hb hc hm) (Gw ho ho')
theorem K8{op:cI}{g:D->D->Option D}(hr:OpR X (compareOp op) r)(hr':OpR X (compareOp op') r')(ho:OpD G r g)(ho':OpD G r' g')(ha:PE X a (tF G fa))(hb:PE X b (tF G fb))(hc:PE X c (tF G fc))
  (hm:lastMarks [op,op'] [b,c]=false:=by with_unfolding_all rfl):PT X (.Compare a [op,op'] [b,c] pos) (tFT G (cT (rW g g' fa fb fc))):=PT.weak (LZ hr hr' ha hb hc hm) λσ H Q hh=>by
 obtain⟨F,ρ,H0,d,ρ',R,e,k⟩:=JA σ H Q hh;exact Gw ho ho' σ H _ ⟨F,ρ,H0,d,ρ',R,e,k⟩
end
def vO(P:aS)(w:aI)(K:aw)(mg:Str->Option ae)(base:Heap)(k:Nat)(x:Str)(ps:aB)(sp:Sp):Prop:=
 ∃(f:Addr) (fd:bW),mg x=some (.ref f)/\c7 K (.ref f)=true/\Binds K fd ps []/\su P w K mg base CX0 k f fd ps sp
def Fb(G:Bg)(P:aS)(w:aI)(mg:Str->Option ae)(base:Heap)(k:Nat)(x:Str)(c:Nat)(ps:aB)(dvs:bA)(g:az->Option (aB×az)):Prop:=
 ∃(f:Addr) (fd:bW) (ds:List ae),Mk G.K (G.ca c) f/\mg x=some (.ref (G.ca c))/\Binds G.K fd ps ds/\Vals dvs ds/\su P w G.K mg base CX0 k f fd ps (spI G c g)
def wm(G:Bg)(P:aS)(w:aI)(mg:Str->Option ae)(base:Heap)(k:Nat)(m:Str)(c:Nat)(h:az->Option D):Prop:=
 ∃(f:Addr) (fd:bW) (ps:aB),Cls G.K (G.ca c)/\Meth G.K (G.ca c) m f/\Binds G.K fd ps []/\su P w G.K mg base CX0 k f fd ps (spF G h)
section
variable{X:Cx}{G:Bg}{k:Nat}{x m:Str}{p pos apos:Pos}{e o:Expr}{es:List Expr}{a:FA}{ps:aB}
theorem AQ{α:Type}(g:az->α):(λds=>g (ds++[]))=g:=funext λds=>by rw[bt]
theorem Tq{g:az->Option D}(D:vO X.prog X.w X.K X.mg X.base k x ps (spF G g))(hr:qa k X.A)(ha:PA X (e::es) (tFA G a))(hg:Gl X x:=by rfl)(hdb:(x==("__debug__" : Str))=false:=by decide)(he:starEach (e::es) X.env=(false,eval e X.env)::starEach es X.env:=by rfl)(hpl:(backTo pos (starEach es X.env)).any (·.1)=false:=by rfl):
  PE X (.Call (.Name x p) (e::es) [] pos) (tF G (oa g a)):=by
 obtain⟨f,fd,h1,h2,h3,h4⟩:=D;have q:=PF (dvs:=[]) (dds:=[]) (λ_=>oZ) (zh (p:=p) (pos:=pos) h4 hr hg h1 h2 h3 .nil AL ha hdb he hpl);rw[AQ]at q;exact q
theorem PZ{g:az->Option az}(D:vO X.prog X.w X.K X.mg X.base k x ps (spN G g))(hr:qa k X.A)(ha:PA X (e::es) (tFA G a))(hg:Gl X x:=by rfl)(hdb:(x==("__debug__" : Str))=false:=by decide)(he:starEach (e::es) X.env=(false,eval e X.env)::starEach es X.env:=by rfl)(hpl:(backTo pos (starEach es X.env)).any (·.1)=false:=by rfl):
  PE X (.Call (.Name x p) (e::es) [] pos) (tFN G (pe g a)):=by
 obtain⟨f,fd,h1,h2,h3,h4⟩:=D;have q:=MA (dvs:=[]) (dds:=[]) (λ_=>oZ) (zh (p:=p) (pos:=pos) h4 hr hg h1 h2 h3 .nil AL ha hdb he hpl);rw[AQ]at q;exact q
theorem MS{g:az->Option az}(D:vO X.prog X.w X.K X.mg X.base k x ps (spN G g))(hr:qa k X.A)(hg:Gl X x:=by rfl)(hdb:(x==("__debug__" : Str))=false:=by decide):PE X (.Call (.Name x p) [] [] pos) (tFN G (pe g oq)):=by obtain⟨f,fd,h1,h2,h3,h4⟩:=D;exact KQ (L7 h4 hr hg h1 h2 h3 .nil AL hdb)
theorem P3{g:az->az->Option (D×az)}(D:vO X.prog X.w X.K X.mg X.base k x ps (spM G g))(hr:qa k X.A)(hv:PE X e (vp i))(ha:PA X es (tFA G a))(hg:Gl X x:=by rfl)(hdb:(x==("__debug__" : Str))=false:=by decide)(he:starEach (e::es) X.env=(false,eval e X.env)::starEach es X.env:=by rfl)(hpl:(backTo pos (starEach es X.env)).any (·.1)=false:=by rfl):
  PE X (.Call (.Name x p) (e::es) [] pos) (tF G (pb g i a)):=by
 obtain⟨f,fd,h1,h2,h3,h4⟩:=D;exact SY (zh (p:=p) (pos:=pos) h4 hr hg h1 h2 h3 .nil AL (qg hv ha he) hdb he hpl)
theorem P4{g:az->Option (aB×az)}(M:Fb G X.prog X.w X.mg X.base k x c ps dvs g)(hd:∀H,oh G H dds dvs)(hr:qa (k+1) X.A)(ha:PA X (e::es) (tFA G a))(hK:X.K=G.K:=by rfl)(hg:Gl X x:=by rfl)(hdb:(x==("__debug__" : Str))=false:=by decide)
  (he:starEach (e::es) X.env=(false,eval e X.env)::starEach es X.env:=by rfl) (hpl:(backTo pos (starEach es X.env)).any (·.1)=false:=by rfl):
  PE X (.Call (.Name x p) (e::es) [] pos) (tF G (o7 c (λds=>g (ds++dds)) a)):=by
 obtain⟨f,fd,ds,h1,h2,h3,h4,h5⟩:=M;rw[<-hK]at h1 h3 h5;exact PJ hd (OU (p:=p) (pos:=pos) h1 h5 hr hg h2 h3 h4 AL ha hdb he hpl)
theorem Rv{g:Nat->Option (az->Option D)}(M:∀c h,g c=some h->wm G X.prog X.w X.mg X.base k m c h)(hr:qa k X.A)(hK:X.K=G.K):∀C sp,MT G g C sp->MOk X C m sp [] E0:=λC sp h=>by obtain⟨c,h,e,rfl,rfl⟩:=h;obtain⟨f,fd,ps,q1,q2,q3,q4⟩:=M c h e;rw[<-hK]at q1 q2 q3 q4;exact⟨k,f,fd,ps,[],q1,q2,q4,hr,q3,.nil,AL⟩
theorem K9{g:Nat->Option (az->Option D)}{pl:Sem Bool}(M:∀c h,g c=some h->wm G X.prog X.w X.mg X.base k m c h)(hr:qa k X.A)(ho:PE X o (tF G f))(ha:PA X (e::es) (tFA G a))(hK:X.K=G.K:=by rfl)
  (hst:starEach (e::es) X.env=(false,eval e X.env)::starEach es X.env:=by rfl) (hpl:(backTo pos (starEach es X.env)).any (·.1)=false:=by rfl)
  (ht:eval (.Call (.Attribute o m apos) (e::es) [] pos) X.env=(do
   let ov<-eval o X.env
   standAt apos.atName
   let (f,first)<-holding [ov] (getMethod ov m pl)
   callWith pos f first (backTo pos (starEach (e::es) X.env)) (backToKw pos (keywordEach [] X.env))):=by rfl):
  PE X (.Call (.Attribute o m apos) (e::es) [] pos) (tF G (o6 g m f a)):=PH (E:=E0) (MC (dvs:=[]) (MT G g) (Rv M hr hK) ho ha hst hpl ht)
theorem Ih{g:Nat->Option (az->Option D)}{pl:Sem Bool}(M:∀c h,g c=some h->wm G X.prog X.w X.mg X.base k m c h)(hr:qa k X.A)(ho:PE X o (tF G f))(hK:X.K=G.K:=by rfl)
  (ht:eval (.Call (.Attribute o m apos) [] [] pos) X.env=(do
   let ov<-eval o X.env
   standAt apos.atName
   let (f,first)<-holding [ov] (getMethod ov m pl)
   callWith pos f first (backTo pos (starEach [] X.env)) (backToKw pos (keywordEach [] X.env))):=by rfl):
  PE X (.Call (.Attribute o m apos) [] [] pos) (tF G (o6 g m f oq)):=ME (E:=E0) (KU (dvs:=[]) (MT G g) (Rv M hr hK) ho ht)
end
section
variable{P:aS}{w:aI}{K:aw}{mg:Str->Option ae}{base:Heap}{x qual:Str}{st:Stmt}{f T:Addr}{fd:bW}{N ps:aB}{k:Nat}{G:Bg}
abbrev yG(P:aS)(w:aI)(K:aw)(mg:Str->Option ae)(base:Heap)(N:aB)(qual:Str)(st:Stmt)(f:Addr)(cdv:ae)(A:aQ)(outer:List Env)(s:af)(H:Hp)(E:XK):Cx:=(F0 CX0 P w K mg base N qual (oJ st) f cdv A outer s H E).nox
theorem MU{n:Nat}{g:az->Option D}(hg:g=fnD np n b)(hp:ps.length=np)(hN:N.length=n)(F:Fun K x qual st f fd)(S:p5 N ps (oJ st))(body:∀(cdv:ae) (A:aQ) (outer:List Env) (s:af) (H:Hp) (E:XK),qa k (A.deeper (envOfC qual (oJ st) s.heap.objs.size f cdv))->PSs (yG P w K mg base N qual st f cdv A outer s H E) (pf st) (tFS G b)):
  su P w K mg base CX0 (k+1) f fd ps (spF G g):=by
 subst hg hp hN;exact F.ok S (WG Py) λcdv A outer s H vs Q E hr h=>⟨_,body cdv A outer s H E hr,Pw (by have:=aR bT S.pre;rw[br]at this;omega) h⟩
theorem WT{n:Nat}{g:az->Option az}(hg:g=fnN np n b)(hp:ps.length=np)(hN:N.length=n)(F:Fun K x qual st f fd)(S:p5 N ps (oJ st))(body:∀(cdv:ae) (A:aQ) (outer:List Env) (s:af) (H:Hp) (E:XK),qa k (A.deeper (envOfC qual (oJ st) s.heap.objs.size f cdv))->PSs (yG P w K mg base N qual st f cdv A outer s H E) (pf st) (tFS G b)):
  su P w K mg base CX0 (k+1) f fd ps (spN G g):=by
 subst hg hp hN;exact F.ok S (WH Pz) λcdv A outer s H vs Q E hr h=>⟨_,body cdv A outer s H E hr,Px (by have:=aR bT S.pre;rw[br]at this;omega) h⟩
theorem WU{n:Nat}{g:az->az->Option (D×az)}{ps:aB}(hg:g=fnM np n b)(hp:ps.length=np)(hN:N.length=n)(F:Fun K x qual st f fd)(S:p5 N (p::ps) (oJ st))(body:∀(cdv:ae) (A:aQ) (outer:List Env) (s:af) (H:Hp) (E:XK),qa k (A.deeper (envOfC qual (oJ st) s.heap.objs.size f cdv))->PSs (yG P w K mg base N qual st f cdv A outer s H E) (pf st) (tFS G b)):
  su P w K mg base CX0 (k+1) f fd (p::ps) (spM G g):=by
 subst hg hp hN;exact F.ok S (MF PQ) λcdv A outer s H vs Q E hr h=>⟨_,body cdv A outer s H E hr,PN (by have:=aR bT S.pre;rw[br,aE]at this;omega) h⟩
theorem Rx{g:az->Option (aB×az)}(hg:∀ds q,g ds=some q->ds.length=np):∀vs H Q E,spI G c g vs H Q E->vs.length=np+1:=λvs H Q E h=>by obtain⟨p,dx,us,H0,ds,ns,es,rfl,_,_,_,r,e,_⟩:=h;rw[aE,<- oi r,hg _ _ e]
theorem WV{n:Nat}{g:az->Option (aB×az)}{ps:aB}(hg:g=fnI c np n b)(hp:ps.length=np)(hN:N.length=n)(F:Fun K x qual st f fd)(S:p5 N (p::ps) (oJ st))(body:∀(cdv:ae) (A:aQ) (outer:List Env) (s:af) (H:Hp) (E:XK),qa k (A.deeper (envOfC qual (oJ st) s.heap.objs.size f cdv))->PSs (yG P w K mg base N qual st f cdv A outer s H E) (pf st) (tFS G b)):
  su P w K mg base CX0 (k+1) f fd (p::ps) (spI G c g):=by
 subst hg hp hN;exact F.ok S (Rx λds q h=>(Cf h).1) λcdv A outer s H vs Q E hr h=>⟨_,body cdv A outer s H E hr,JD (by have:=aR bT S.pre;rw[br,aE]at this;omega) h⟩
theorem Tr{n:Nat}{g:az->Option (aB×az)}{ps:aB}(hg:g=fnI c np n b)(hp:ps.length=np)(hN:N.length=n)(F:KO K x qual st f fd T)(S:p5 N (p::ps) (oJ st))(body:∀(cdv:ae) (A:aQ) (outer:List Env) (s:af) (H:Hp) (E:XK),qa k (A.deeper (envOfC qual (oJ st) s.heap.objs.size f cdv))->PSs (yG P w K mg base N qual st f cdv A outer s H E) (pf st) (tFS G b)):
  su P w K mg base CX0 (k+1) f fd (p::ps) (spI G c g):=by
 subst hg hp hN;exact F.ok S (Rx λds q h=>(Cf h).1) λcdv A outer s H vs Q E hr h=>⟨_,body cdv A outer s H E hr,JD (by have:=aR bT S.pre;rw[br,aE]at this;omega) h⟩
end
section
variable{X:Cx}{G:Bg}
def yk(G:Bg)(mg:Str->Option ae)(x:Str)(d:D):Prop:=∃(v:V) (u:ae),mg x=some u/\RelV v u/\∀H,Rep G H d v
theorem MV(h:yk G X.mg x d)(hg:Gl X x:=by rfl)(hd:(x==("__debug__" : Str))=false:=by decide):PE X (.Name x pos) (tF G (cC d)):=by obtain⟨v,u,h1,h2,h3⟩:=h;exact Pe (Jm hg h1 h2 hd) h3
def MW:FS:=λ_=>none
def qU(T:String):Ty->Option Bool
 |.b n=>if n="NoneType" then some false else if n="bool" then some (T=="bool" ||T=="int")else if n="int" then some (T=="int")else if n="str" then some (T=="str")else if n="tuple" then some (T=="tuple")else if n="list" then some (T=="list")else if n="dict" then some (T=="dict")else none
 |.c _=>none
theorem MX:∀k b,qU T (.c k)=some b->K5 X.K (G.ca k):=λk b h=>by cases h
theorem MY:∀y b,qU "list" y=some b->cH X.K (y.val G) (.type "list")=some b:=λy b h=>by
 cases y with
 |c k=>cases h
 |b n=>
  unfold qU at h;simp only at h
  iterate 7 (split at h;· rename_i e;subst e;cases h;first|rfl|kernel_rfl)
  cases h
theorem P5:∀y b,qU "str" y=some b->cH X.K (y.val G) (.type "str")=some b:=λy b h=>by
 cases y with
 |c k=>cases h
 |b n=>
  unfold qU at h;simp only at h
  iterate 7 (split at h;· rename_i e;subst e;cases h;first|rfl|kernel_rfl)
  cases h
end
end L4
namespace L3
open PySem PySem.Spec PyProof.Rows L2
theorem P6{X:Cx}{spos:Pos}{k:Nat}{cap:List Nat}{g:TG}
  (hc:X.calm=true) (hN:X.N.Nodup) (hy:X.N[i]?=some y) (hyl:Loc X.env.scope y) (hi:PI X tg iter wi)
  (body:∀(cl:List (Str×Addr)) (C:Addr) (fp:List Addr) (s:af) (H:Hp),PG (qb X N' scope cl C fp s H) tg g/\PIf (qb X N' scope cl C fp s H) ifs tt/\PE (qb X N' scope cl C fp s H) elt te)
  (hkind:scope.kind=.function:=by rfl) (hcell:(scope.names.all λy=>y.2 != .cell)=true:=by rfl)
  (hloc:(scope.names.all λy=>y.2 != .local||scope.names.lookup y.1==some .local)=true:=by rfl)
  (hfree:(scope.names.all λy=>y.2 != .free||(X.env.kindOf y.1==some .cell||X.env.kindOf y.1==some .free))=true:=by rfl)
  (hlen:N'.length=k+cap.length:=by rfl) (hcap:(N'.drop k).map some=cap.map λj=>X.N[j]?:=by rfl)
  (hcf:((N'.drop k).all λx=>scope.names.lookup x==some .free)=true:=by rfl)
  (hs:∀x,foldedSetIterable iter X.env x=pure x:=by intro _;rfl)
  (hsw:swapsWith (.ListComp elt [⟨tg,iter,ifs,0⟩] scope pos) (some (.Name y py)) spos.line X.env=pure true:=by rfl)
  (hfy:X.fn y=true\/X.env.scope.names.lookup y=some .local:=by first|exact .inl rfl|exact .inr rfl|assumption):
  PS X (.Assign [.Name y py] (.ListComp elt [⟨tg,iter,ifs,0⟩] scope pos) spos) (Ab (Ca wi g tt te k cap) (vK i)):=by
 intro pins s σ H D I h;rw[exec_Assign_Name_used _ _ _ _ hsw];refine au (wpAny_standAt (au ?_));show wpAny _ X.A (do let _<-comprehension (.ListComp elt [⟨tg,iter,ifs,0⟩] scope pos) scope X.env _ (newList []) false (eval iter X.env) (some (assign (.Name y py) X.env))) _ _ s;refine au (bU (D6 (P:=λ_ s'=>SP X pins D .next s') hc hi body hkind hcell hloc hfree hlen hcap hcf hs I h λa C m u s4 H3 hn back fpC qn=>?_) (λ_ s' hq=>aD (aD hq)) λ_ _ e=>e);obtain⟨oC,esC,nC,gC,dC,rC⟩:=id hn;have I7:=back.pinned (fp:=[C]) (λb hb=>aO.mp hb▸fpC) (λb hb=>aO.mp hb▸⟨oC,gC,λv z=>by rw[dC]at z;cases z⟩);show wpAny _ X.A (assign (.Name y py) X.env (.ref a)) _ _ s4;refine thn (Jo (pos:=py) hN hy hyl hfy _ s4 σ H3 (.ref a) (.ref a) (λσ' H'=>D.nx σ' H') I7 rfl qn) λ_ s6 zz=>?_;obtain⟨σ6,H6,I8,q6⟩:=zz;obtain⟨p1,p2,_⟩:=I8.pin (C,oC) (bH _ (bH _ (ux (by simp) gC)));exact⟨m,⟨oC,esC,nC,p1,dC,rC⟩,λh' hs'=>⟨σ6,H6,I8.unpinned.turned (t':=s6.toks) (λb o hb e=>(hs'.2 b hb).trans e) p2 fpC.2.1 fpC.2.2.2.1 fpC.2.2.2.2.1 fpC.2.2.2.2.2,q6⟩⟩
end L3
namespace L4
open PySem PySem.Spec PyProof.Rows L2 L3
section
variable{X:Cx}{G:Bg}
theorem Gx{st:Stmt}{g:TG}(h:PS X st (Ab te g))(w:∀σ H Q,te' σ H Q->te σ H Q):PS X st (Ab te' g):=PS.weak h λE σ H hh=>w _ _ _ hh
theorem MZ{st:Stmt}{k:Nat}{cap:List Nat}{s:FA}{g:FG}(nd:cap.Nodup)(h:PS X st (Ab (Ca (tFI G s) (tFG G k g) (tFT G ft) (tF G fe) k cap) (vK i))):PS X st (tFS G (oP i (cL (oT k cap s g ft fe)))):=JC (Gx (Gx h (JF nd)) WE)
end
section
variable{f g h:FS}{c:FT}{e e' e2:FE}{a a':FA}{ρ ρ' ρ1 ρ2 ρ3:aZ}{d x y z:D}{o:Out}{ds xs ys:az}
theorem n4(h:f ρ=some (.nx ρ')):oe f g ρ=g ρ':=by unfold oe;rw[h]
theorem oO(h:f ρ=some (.rt d ρ')):oe f g ρ=some (.rt d ρ'):=by unfold oe;rw[h]
theorem oV(h:c ρ=some (true,ρ')):sIf c f g ρ=f ρ':=by unfold sIf;rw[h]
theorem oM(h:c ρ=some (false,ρ')):sIf c f g ρ=g ρ':=by unfold sIf;rw[h]
theorem oH(h:e ρ=some (d,ρ')):oP i e ρ=some (.nx (ρ'.set i (.im d))):=by unfold oP;rw[h]
theorem wo(h:a ρ=some (ds,ρ')):rS i a ρ=some (.nx (ρ'.set i (.ls ds))):=by unfold rS;rw[h]
theorem ou(h:e ρ=some (d,ρ')):oj e ρ=some (.rt d ρ'):=by unfold oj;rw[h]
theorem ym(h:a ρ=some (ds,ρ')):qK a ρ=some (.rn ds ρ'):=by unfold qK;rw[h]
theorem pU(h:e ρ=some (d,ρ')):o9 e ρ=some (.nx ρ'):=by unfold o9;rw[h]
theorem og{g:D->D->Option D}(h1:e ρ=some (x,ρ1))(h2:e' ρ1=some (y,ρ2))(h3:g x y=some z):c2 g e e' ρ=some (z,ρ2):=by unfold c2;rw[h1];simp only[h2,h3]
theorem pC{g:D->Option D}(h1:e ρ=some (x,ρ1))(h3:g x=some z):c1 g e ρ=some (z,ρ1):=by unfold c1;rw[h1];simp only[h3]
theorem M0(h1:e (ρ.map Sl.bor)=some (d,ρ1))(hf:rg d=true):zr e ρ=some (d,ρ):=by unfold zr;rw[h1];simp only[hf,if_true]
theorem Fc(h1:c (ρ.map Sl.bor)=some (b,ρ1)):yF c ρ=some (b,ρ):=by unfold yF;rw[h1]
theorem ph(h1:e ρ=some (.bl b,ρ1)):cT e ρ=some (b,ρ1):=by unfold cT;rw[h1]
theorem sC(h1:c ρ=some (b,ρ1)):qu c ρ=some (!b,ρ1):=by unfold qu;rw[h1]
theorem rQ(h1:c ρ=some (false,ρ1))(h2:c' ρ1=some (b,ρ2)):rG c c' ρ=some (b,ρ2):=by unfold rG;rw[h1];exact h2
theorem nZ(h1:e ρ=some (d,ρ1))(h2:a ρ1=some (ds,ρ2)):nY e a ρ=some (d::ds,ρ2):=by unfold nY;rw[h1];simp only[h2]
theorem n9{α:Type}{g:az->Option α}{r:α}(h1:a ρ=some (ds,ρ1))(h2:g ds=some r):Ah g a ρ=some (r,ρ1):=by unfold Ah;rw[h1];simp only[h2]
theorem pD(h1:a ρ=some (ds,ρ1)):cL a ρ=some (.lst ds,ρ1):=by unfold cL;rw[h1]
theorem wq(h1:a ρ=some (ds,ρ1))(hl:ds.length<=1000):oG a ρ=some (ds,ρ1):=by unfold oG;rw[h1];simp only[hl,if_true]
theorem qA(h1:a ρ=some (ds,ρ1))(hl:ds.length<=1000):pd a ρ=some (.tup ds,ρ1):=by unfold pd;rw[h1];simp only[hl,if_true]
theorem rX(h1:e ρ=some (.lst xs,ρ1))(h2:e' ρ1=some (.lst ys,ρ2))(hl:xs.length+ys.length<=1000):qz e e' ρ=some (xs++ys,ρ2):=by unfold qz;rw[h1];simp only[h2,hl,if_true]
theorem rj{g:az->az->Option (D×az)}(h0:pZ ρ i=some es0)(h1:a ρ=some (ds,ρ1))(h2:pZ ρ1 i=some es)(h3:g es ds=some (d,es')):pb g i a ρ=some (d,putAt ρ1 i es'):=by unfold pb;rw[h0];simp only[h1,h2,h3]
theorem yX(h0:pZ ρ i=some es0)(h1:e ρ=some (d,ρ1))(h2:pZ ρ1 i=some es)(hl:es.length<1000):uC i e ρ=some (.non,putAt ρ1 i (es++[d])):=by unfold uC;rw[h0];simp only[h1,h2,hl,if_true]
theorem qp{s:FA}{g:FG}(h1:s ρ=some (ds,ρ1)):sS s g f ρ=forL g f ds ρ1:=by unfold sS;rw[h1]
theorem wt{k:Nat}{cap:List Nat}{s:FA}{g:FG}(h1:s ρ=some (ds,ρ1))(hl:ds.length<=1000):oT k cap s g ft fe ρ=sT k cap g ft fe ds ρ1:=by unfold oT;rw[h1];simp only[hl,if_true]
theorem Ts{n:Nat}(hl:ds.length=np)(h:b (L4.stM n es ds)=some (.rt d ρ))(h0:AM ρ=some es'):fnM np n b es ds=some (d,es'):=by unfold fnM;rw[ai hl,h];simp only[h0]
theorem Tt{n:Nat}(hl:ds.length=np)(h:b (L4.stM n es ds)=some (.rn xs ρ))(h0:AM ρ=some es'):fnM np n b es ds=some (.lst xs,es'):=by unfold fnM;rw[ai hl,h];simp only[h0]
theorem yY{n:Nat}(hl:ds.length=np)(h:b (L4.stE n ds)=some (.rn xs ρ)):fnN np n b ds=some xs:=by unfold fnN;rw[ai hl,h]
theorem ox{n:Nat}(hl:ds.length=np)(h:b (L4.stE n ds)=some (.rt d ρ)):fnD np n b ds=some d:=by unfold fnD;rw[ai hl,h]
end
theorem uu(h:yW a=true\/yW b=true):tP (.int a) (.int b)=some (.int (a * b)):=by unfold tP dI;simp only;rw[ai (by simpa using h)]
theorem ub(h:0<b):rh (.int a) (.int b)=some (.int (a % b)):=by unfold rh dI;simp only;rw[ai (by simpa using h)]
theorem div_pos(h:0<b)(h':b<1073741824):yE (.int a) (.int b)=some (.int (a / b)):=by unfold yE dI;simp only;rw[ai (by simp[h,h'])]
theorem Gy(h:0<=a)(h':a<2147483647):yW a=true:=by unfold yW;simp only[bo,bG];omega
def Am:D->Option Key
 |.int i=>some (.inl i)
 |.str x=>some (.inr x)
 |_=>none
def sU:List Key->az->Key->Option D
 |k::ks,d::ds,j=>if k=j then some d else sU ks ds j
 |_,_,_=>none
def P7(ks:List Key)(ds:az)(k:Key)(d:D):az:=c4 (λk' d'=>if k'=k then d else d') ks ds
def Cs(ks:List Key)(k:Key):Bool:=ks.any λk'=>decide (k'=k)
section
variable{X:Cx}{G:Bg}{H:Hp}
theorem zt{v:V}{k:Key}(h:Rep G H d v)(e:Am d=some k):v=kV k:=by
 cases d<;>first|cases e|skip
 all_goals (unfold Rep at h;exact h)
theorem Ct:∀{ks:List Key} {ds:az} {xs:bA} (j:Key),oh G H ds xs->ks.length=xs.length->match sU ks ds j with
  |some d=>∃v,sW (ks.zip xs) j=some v/\Rep G H d v
  |none=>sW (ks.zip xs) j=none
 |[],ds,xs,j,r,l=>by cases ds<;>rfl
 |k::ks,ds,[],j,r,l=>by cases l
 |k::ks,[],x::xs,j,r,l=>by unfold oh at r;cases r
 |k::ks,d::ds,x::xs,j,r,l=>by
  unfold oh at r;obtain⟨v,q,e,h1,h2⟩:=r;cases e;unfold sU;by_cases hk:k=j
  ·rw[ai hk];exact⟨x,zj (p:=(k,x)) hk,h1⟩
  ·rw[aj hk];have ih:=Ct (ks:=ks) (ds:=ds) (xs:=xs) j h2 (by simpa using l);have e1:sW ((k::ks).zip (x::xs)) j=sW (ks.zip xs) j:=zk (p:=(k,x)) hk;rw[e1];exact ih
theorem Fd{k:Key}:∀{ks:List Key} {xs:bA},ks.length=xs.length->((ks.zip xs).any λkv=>decide (kv.1=k))=Cs ks k
 |[],xs,_=>by cases xs<;>rfl
 |k'::ks,[],l=>by cases l
 |k'::ks,x::xs,l=>by unfold Cs;rw[df,eF,eF,Fd (by simpa using l)];rfl
theorem JL{k:Key}{v:V}:∀{ks:List Key} {xs:bA},ks.length=xs.length->(ks.zip xs).map (λkv=>if kv.1=k then (kv.1,v)else kv)=ks.zip (c4 (λk' x=>if k'=k then v else x) ks xs)
 |[],xs,_=>by cases xs<;>rfl
 |k'::ks,[],l=>by cases l
 |k'::ks,x::xs,l=>by
  rw[df,ay,JL (by simpa using l),dY,df];congr 1;by_cases hk:k'=k
  ·rw[ai hk,ai hk]
  ·rw[aj hk,aj hk]
theorem GA{k:Key}{v:V}(hd:Rep G H d v):∀{ks:List Key} {ds:az} {xs:bA},oh G H ds xs->ks.length=xs.length->oh G H (P7 ks ds k d) (c4 (λk' x=>if k'=k then v else x) ks xs)
 |[],ds,xs,r,l=>by unfold P7;cases ds<;>cases xs<;>exact oZ
 |k'::ks,ds,[],r,l=>by cases l
 |k'::ks,[],x::xs,r,l=>by unfold oh at r;cases r
 |k'::ks,d'::ds,x::xs,r,l=>by
  unfold oh at r;obtain⟨w,q,e,h1,h2⟩:=r;cases e;unfold P7;rw[dY,dY];refine oW ?_ (GA hd h2 (by simpa using l));by_cases hk:k'=k
  ·rw[ai hk,ai hk];exact hd
  ·rw[aj hk,aj hk];exact h1
theorem _root_.L2.DGet.kf{k:Key}(e:H a=some (.frz o (.dK kvs))):DGet H a (kV k) (sW kvs k):=.inl ⟨kvs,k,.inr ⟨o,e⟩,rfl,rfl⟩
def qt:D->D->Option D:=λx y=>match x,Am y with
 |.dic ks ds,some k=>sU ks ds k
 |_,_=>none
theorem P8(hu:X.A.units+1<cLine)(ha:PE X a (tF G f))(hb:PE X b (tF G f'))(hs:Sy b:=by exact λ_ _=>rfl):PE X (.Subscript a b pos) (tF G (c2 qt f f')):=PE.weak (O3 hu ha hb hs) λσ H Q hh=>by
 obtain⟨F,ρ,H0,d,ρ',R,e,k⟩:=hh;obtain⟨x,y,ρ1,e1,e2,e3⟩:=E8 e;refine⟨F,ρ,H0,x,ρ1,R,e1,λv H1 H1' s1 R1 r1=>⟨F,ρ1,H1,y,ρ',R1,e2,λu H2 H2' s2 R2 r2=>?_⟩⟩;have r1':=Rep.mono s2 _ _ r1;cases x with
 |dic ks ds=>
  unfold qt at e3;cases ek:Am y with
  |none=>simp only[ek]at e3;cases e3
  |some j=>simp only[ek]at e3;unfold Rep at r1';obtain⟨p,ob,xs,rfl,h1,h2,h3⟩:=r1';have lv:=Ct (ks:=ks) j h3 h2;rw[e3]at lv;obtain⟨w,w1,w2⟩:=lv;refine⟨p,w,rfl,?_,k w H2 H2' (s1.trans s2) R2 w2⟩;rw[zt r2 ek,<- w1];exact DGet.kf (R2.sub _ _ h1)
 |_=>unfold qt at e3;cases e3
def Cu:D->D->Option D:=λx y=>match x,Am y with
 |.dic ks ds,some k=>some ((sU ks ds k).getD .non)
 |_,_=>none
theorem M4(hu:X.A.units+1<cLine)(ha:PE X a (tF G f))(hb:PE X b (tF G f'))(m:M1 X a "get" apos b cpos):PE X (.Call (.Attribute a "get" apos) [b] [] cpos) (tF G (c2 Cu f f')):=PE.weak (Mg hu ha hb m) λσ H Q hh=>by
 obtain⟨F,ρ,H0,d,ρ',R,e,k⟩:=hh;obtain⟨x,y,ρ1,e1,e2,e3⟩:=E8 e;cases x with
 |dic ks ds=>
  refine⟨F,ρ,H0,_,ρ1,R,e1,λv H1 H1' s1 R1 r1=>?_⟩;have r1':=r1;unfold Rep at r1';obtain⟨p,ob,xs,rfl,h1,h2,h3⟩:=r1';refine⟨p,rfl,.inl ⟨_,.inr ⟨_,R1.sub _ _ h1⟩⟩,F,ρ1,H1,y,ρ',R1,e2,λu H2 H2' s2 R2 r2=>?_⟩;unfold Cu at e3;cases ek:Am y with
  |none=>simp only[ek]at e3;cases e3
  |some j=>
   simp only[ek]at e3;cases e3;have lv:=Ct (ks:=ks) j (oh.mono s2 _ _ h3) h2;refine⟨sW (ks.zip xs) j,?_,?_⟩
   ·rw[zt r2 ek];exact DGet.kf (R2.sub _ _ (s2 _ _ h1))
   ·cases el:sU ks ds j with
    |none=>rw[el]at lv k;rw[lv];exact k _ H2 H2' (s1.trans s2) R2 zl
    |some z=>rw[el]at lv k;obtain⟨w,w1,w2⟩:=lv;rw[w1];exact k _ H2 H2' (s1.trans s2) R2 w2
 |_=>unfold Cu at e3;cases e3
def zu(i:Nat):FS:=λρ=>some (.nx (ρ.set i (.dk [] [])))
theorem M5{st:Stmt}(h:PS X st (Ab HW (vK i))):PS X st (tFS G (zu i)):=PS.weak h λE σ H hh=>by obtain⟨F,ρ,H0,o,R,e,k,k2⟩:=hh;cases e;intro p hp;have R1:=R.newOwn hp (.dK []);refine k _ _ _ (oB.refl _) (R1.set (s:=.dk [] []) ⟨p,[],rfl,om,R.h0none hp,R.bNone hp,rfl,oZ⟩ λ_ a ea j t _ ej to=>?_);cases ea;exact R.apart hp j t ej to
def pF(i:Nat)(fk fv:FE):FS:=λρ=>match fv ρ with
 |some (d,ρ1)=>match ρ1[i]? with
  |some (.dk _ _)=>match fk ρ1 with
   |some (y,ρ2)=>match Am y with
    |some k=>match ρ2[i]? with
     |some (.dk ks ds)=>if ks.length<1000 then if ds.length=ks.length then some (.nx (ρ2.set i (if Cs ks k=true then .dk ks (P7 ks ds k d)else .dk (ks++[k]) (ds++[d]))))else none else none
     |_=>none
    |none=>none
   |none=>none
  |_=>none
 |none=>none
theorem M6{st:Stmt}(h:PS X st (Rp (vp i) (tF G fk) (tF G fv))):PS X st (tFS G (pF i fk fv)):=PS.weak h λE σ H hh=>by
 obtain⟨F,ρ,H0,o,R,e,k,k2⟩:=hh;unfold pF at e;rcases o5 (f:=fv) (ρ:=ρ)with e1|⟨d,ρ1,e1⟩<;>simp only[e1]at e
 ·cases e
 split at e
 ·rename_i ks0 ds0 ei;rcases o5 (f:=fk) (ρ:=ρ1)with e2|⟨y,ρ2,e2⟩<;>simp only[e2]at e
  ·cases e
  cases ek:Am y with
  |none=>simp only[ek]at e;cases e
  |some j=>
   simp only[ek]at e;split at e
   ·rename_i ks ds ei2;split at e
    ·rename_i hl;split at e
     ·rename_i hl2;cases e;refine⟨F,ρ,H0,d,ρ1,R,e1,λv H1 H1' s1 R1 r1=>?_⟩;obtain⟨a0,xs0,a1,_⟩:=R1.sl i _ ei;refine⟨_,rf a1,F,ρ1,H1,y,ρ2,R1,e2,λu H2 H2' s2 R2 r2=>?_⟩;obtain⟨a,xs,b1,b2,b3,b4,b5,b6⟩:=R2.sl i _ ei2;rw[a1]at b1;cases b1;refine⟨a0,upd H2' a0 (.dK (putK (ks.zip xs) j v)),rfl,?_,?_⟩
      ·rw[zt r2 ek];exact Mc.k b2 (by rw[eD];exact jv (Nat.min_le_left _ _) (yh (by omega)))
      ·have rv:=Rep.mono s2 _ _ r1;refine k _ _ _ (s1.trans s2) (R2.mut ei2 rfl a1 (λH' hH=>?_) ?_)
       ·by_cases hk:Cs ks j=true
        ·rw[ai hk];refine⟨a0,c4 (λk' x=>if k'=j then v else x) ks xs,rfl,?_,b3,b4,by rw[jl,b5,dM],GA rv b6 b5⟩;rw[hH];unfold putK;rw[Fd b5,ai hk,JL b5]
        ·rw[aj hk];refine⟨a0,xs++[v],rfl,?_,b3,b4,by rw[aA,aA,b5];rfl,qJ b6 (oW rv oZ)⟩;rw[hH];unfold putK;rw[Fd b5,aj hk,mF b5];rfl
       ·split<;>rfl
     ·cases e
    ·cases e
   ·cases e
 ·cases e
def BH:D->Option D
 |.lst ds=>(DN ds).map λbs=>.bl (bs.any id)
 |_=>none
theorem La(hc:X.calm=true)(hK:X.K=G.K:=by rfl):qr X (.builtin "any") (λxs H Q=>∃(p:Addr) (bs:List Bool),xs=[.ref p]/\SqL G.K H p (bs.map V.bl)/\Q (.bl (bs.any id)) H):=by
 rw[<-hK];intro pins s σ H xs us Q I r h;obtain⟨p,bs,rfl,hq,q⟩:=h;obtain⟨u,rfl,ru⟩:=vals1 r;cases ru;obtain⟨its,rv,pl,hz⟩:=I.list hq;have hlt:p<s.heap.objs.size:=by obtain⟨o,ho,_⟩:=pl.isList;exact aN ho
 have hl:bs.length=its.length:=by have:=rv.length;rw[ah]at this;exact this
 refine call_any_walk (fT pl.isList ⟨s.heap.objs.size,_,_,_,_,_,λi=>(bs[i]?).getD false,rfl,iy (show X.A.in1.handled=none from I.ok.hd hc) _ p (aX hlt) its.toArray,⟨⟨_,bu _ rfl,rfl,rfl⟩,?_⟩,?_,λh' tk hk=>?_⟩)
 ·exact pl.isList.at λo e=>aK _ e
 ·intro i v s' Q' E' hv hQ';have hv':its[i]?=some v:=by simpa using hv
  have hi:i<its.length:=(bQ.mp hv').1;have hb:(bs.map V.bl)[i]?=some (.bl (bs[i]'(by omega))):=by simp[show i<bs.length by omega]
  obtain⟨u,hu,ru⟩:=rv.get hb;rw[hv']at hu;cases hu;cases ru;refine cK ?_;have e:(bs[i]?).getD false=bs[i]'(by omega):=by simp[show i<bs.length by omega]
  rw[<-e];exact hQ'
 ·refine⟨.bl (bs.any id),H,?_,?_,q⟩
  ·exact I.kept (t':=tk) λb o e=>hk b o (by simp;exact aX (aN e)) (aK _ e)
  ·show Value.bool _=Value.bool _;congr 1;rw[bf,<- hl];rw[cM];simp only[eY,cq,id];constructor
   ·rintro⟨i,hi,h⟩;exact⟨bs[i],cZ hi,by simpa [hi]using h⟩
   ·rintro⟨b,hb,h⟩;obtain⟨i,hi,rfl⟩:=jh.mp hb;exact⟨i,hi,by simpa [hi]using h⟩
theorem Tu:Ee G (λxs H Q=>∃(p:Addr) (bs:List Bool),xs=[.ref p]/\SqL G.K H p (bs.map V.bl)/\Q (.bl (bs.any id)) H) BH:=λx z H0 H v Q e s rx k=>by
 cases x with
 |lst ds=>
  unfold BH at e;simp only at e;cases e1:DN ds with
  |none=>rw[e1]at e;cases e
  |some bs=>rw[e1]at e;cases e;unfold Rep at rx;obtain⟨a,xs,rfl,h1,h2⟩:=rx;rw[Cr h2 e1]at h1;exact⟨a,bs,rfl,s.seq (SqL.of h1),k _ λ_ _=>rb _⟩
 |_=>cases e
def iS(f:FE):FA:=λρ=>match f ρ with
 |some (.str x,ρ')=>some (x.cps.toList.map λc=>D.str ⟨#[c]⟩,ρ')
 |_=>none
theorem P9(h:PI X tg e (Ww (tF G f))):PI X tg e (tFI G (iS f)):=PI.weak h λσ H R hh=>by
 obtain⟨F,ρ,H0,ds,ρ',R,e,k⟩:=hh;unfold iS at e;split at e
 ·rename_i x ρ1 e1;cases e;refine⟨F,ρ,H0,_,_,R,e1,λv H1 H1' s R' r=>?_⟩;unfold Rep at r;refine⟨x,r,k _ _ _ s R' λi H2 H2' t t'=>⟨λd ed=>?_,λhl=>?_⟩⟩
  ·rw[bj]at ed;cases ec:x.cps.toList[i]? with
   |none=>rw[ec]at ed;cases ed
   |some c=>
    rw[ec]at ed;cases ed;have ec':x.cps[i]?=some c:=by simpa using ec
    refine⟨(Array.getElem?_eq_some_iff.mp ec').1,λz H3 y=>?_⟩;obtain⟨e3,c',hc',rfl⟩:=y;rw[ec']at hc';cases hc';subst e3;exact⟨H2,oB.refl _,t',oB.refl _,λb o e=>.inl e,wc _⟩
  ·show i=x.cps.size;rw[hl,ah];simp
 ·cases e
def AR(f g:FE):FE:=λρ=>match f ρ with
 |some (.tup (x::xs),ρ1)=>match g ρ1 with
  |some (.tup ys,ρ2)=>if xs.length+ys.length<=900 then some (.tup (x::xs++ys),ρ2)else none
  |_=>none
 |_=>none
theorem Qa{g:FE}(ha:PE X a (tF G f))(hb:PE X b (tF G g))(hK:X.K=G.K:=by rfl):PE X (.BinOp a .Add b pos) (tF G (AR f g)):=PE.weak (LU OX ha hb) λσ H Q hh=>by
 rw[hK];obtain⟨F,ρ,H0,d,ρ',R,e,k⟩:=hh;unfold AR at e;split at e
 ·rename_i x xs ρ1 e1;split at e
  ·rename_i ys ρ2 e2;split at e
   ·rename_i hl;cases e;refine⟨F,ρ,H0,_,ρ1,R,e1,λv H1 H1' s R' r=>⟨F,ρ1,H1,_,_,R',e2,λu H2 H2' s2 R2 r2=>?_⟩⟩;have r':=Rep.mono s2 _ _ r;have r0:=r';unfold Rep at r' r2;obtain⟨a1,xs1,rfl,h1,h2⟩:=r';obtain⟨a2,xs2,rfl,h3,h4⟩:=r2;have l1:=oi h2;have l2:=oi h4;rw[aE]at l1;refine⟨a1,a2,xs1,xs2,rfl,rfl,SqT.mono R2.sub h1,SqT.mono R2.sub h3,(λz=>by rw[z]at l1;cases l1),by rw[<-l1,<- l2];exact uB (by omega),λz=>?_,λ_ p hp=>?_⟩
    ·have ey:ys=[]:=by rw[z]at l2;exact ll.mp l2
     subst ey;rw[bt]at k;exact k _ _ _ (s.trans s2) R2 r0
    ·exact k _ _ _ ((s.trans s2).trans (oF (R2.h0none hp) _)) (R2.newIm hp _) (yj (SqT.of om) (oh.mono (oF (R2.h0none hp) _) _ _ (qJ h2 h4)))
   ·cases e
  ·cases e
 ·cases e
end
section
variable{X:Cx}{G:Bg}
abbrev FO:=aZ->Option (Option Int×aZ)
def tFO(G:Bg)(f:FO):TO:=λσ H Q=>∃F ρ H0 d ρ',oI G F σ ρ H0 H/\f ρ=some (d,ρ')/\∀H0' H',oB H0 H0'->oI G F σ ρ' H0' H'->Q d H'
def oNo:FO:=λρ=>some (none,ρ)
def oAt(f:FE):FO:=λρ=>match f ρ with
 |some (.int i,ρ')=>some (some i,ρ')
 |_=>none
theorem PO.weak{t:TO}(h:PO X e t)(w:∀σ H Q,t' σ H Q->t σ H Q):PO X e t':=λpins s σ H Q I hq=>h pins s σ H Q I (w _ _ _ hq)
theorem Tv:PO X none (tFO G oNo):=PO.weak Jt λσ H Q hh=>by obtain⟨F,ρ,H0,d,ρ',R,e,k⟩:=hh;cases e;exact k _ _ (oB.refl _) R
theorem Tw(h:PE X e (tF G f)):PO X (some e) (tFO G (oAt f)):=PO.weak (Ju h) λσ H Q hh=>by
 obtain⟨F,ρ,H0,d,ρ',R,e,k⟩:=hh;unfold oAt at e;split at e
 ·rename_i i ρ1 e1;cases e;refine⟨F,ρ,H0,_,_,R,e1,λv H1 H1' s R' r=>?_⟩;unfold Rep at r;exact⟨i,r,k _ _ s R'⟩
 ·cases e
def vq(f:FE)(lo hi:FO):FA:=λρ=>match f ρ with
 |some (d,ρ1)=>match d with
  |.lst ds=>match lo ρ1 with
   |some (l,ρ2)=>match hi ρ2 with
    |some (h,ρ3)=>some (cutD ds l h,ρ3)
    |none=>none
   |none=>none
  |.fzl ds=>match lo ρ1 with
   |some (l,ρ2)=>match hi ρ2 with
    |some (h,ρ3)=>some (cutD ds l h,ρ3)
    |none=>none
   |none=>none
  |_=>none
 |none=>none
theorem Ii{lo:FO}(h:PE X e (tSl (KF G.K) (tF G f) (tFO G lo) (tFO G hi))):PE X e (tFN G (vq f lo hi)):=PE.weak h λσ H Q hh=>by
 obtain⟨F,ρ,H0,ds,ρ',R,e,k⟩:=hh;unfold vq at e;rcases o5 (f:=f) (ρ:=ρ)with e1|⟨d,ρ1,e1⟩<;>simp only[e1]at e
 ·cases e
 have gen:∀(xs:az),(∀{H1:Hp} {v:V},Rep G H1 d v->∃a ys,v=.ref a/\SqL G.K H1 a ys/\oh G H1 xs ys)->(match lo ρ1 with
   |some (l,ρ2)=>match hi ρ2 with
    |some (h,ρ3)=>some (cutD xs l h,ρ3)
    |none=>none
   |none=>none)=some (ds,ρ')->tSl (KF G.K) (tF G f) (tFO G lo) (tFO G hi) σ H Q:=λxs rd e=>by
  rcases o5 (f:=lo) (ρ:=ρ1)with e2|⟨l,ρ2,e2⟩<;>simp only[e2]at e
  ·cases e
  rcases o5 (f:=hi) (ρ:=ρ2)with e3|⟨u,ρ3,e3⟩<;>simp only[e3]at e
  ·cases e
  cases e;refine⟨F,ρ,H0,d,ρ1,R,e1,λv H1 H1' s1 R1 r1=>⟨F,ρ1,H1,l,ρ2,R1,e2,λH2 H2' s2 R2=>⟨F,ρ2,H2,u,_,R2,e3,λH3 H3' s3 R3=>?_⟩⟩⟩;obtain⟨a,ys,rfl,q1,q2⟩:=rd (Rep.mono (s2.trans s3) _ _ r1);exact⟨a,ys,rfl,R3.sub.seq q1,λp hp=>k p _ _ _ (s1.trans (s2.trans s3)) (R3.newOwn hp _) om (R3.h0none hp) (R3.bNone hp) (R3.apart hp) (Gv q2)⟩
 cases d with
 |lst xs=>exact gen xs (λr=>by unfold Rep at r;obtain⟨a,ys,rfl,q1,q2⟩:=r;exact⟨a,ys,rfl,SqL.of q1,q2⟩) e
 |fzl xs=>exact gen xs (λr=>by unfold Rep at r;exact r) e
 |_=>cases e
def GB:D->D->Option D
 |.str x,.int n=>if 0<=n/\n<=1000/\x.length<=100 then some (.str (gq x n))else none
 |_,_=>none
end
section
variable{X:Cx}{G:Bg}
def Cv:FE:=λ_=>none
theorem M7:PE X e (tF G Cv):=λpins s σ H Q I h=>by obtain⟨F,ρ,H0,d,ρ',R,e,_⟩:=h;cases e
def Ik(G:Bg)(c:Nat)(t:Ty->Option Bool):Prop:=(∀y b,t y=some b->cH G.K (y.val G) (.ref (G.ca c))=some b)/\∀j b,t (.c j)=some b->K5 G.K (G.ca j)
theorem Il{t:Ty->Option Bool}(h:Ik G c t)(hK:X.K=G.K:=by rfl):qr X (.builtin "isinstance") (λxs H Q=>∃d x b,xs=[x,(Ty.c c).v G]/\Rep G H d x/\t (tyD d)=some b/\Q (.bl b) H):=
 Ef (X:=X) (.c c) (by rw[hK];exact h.1) (by rw[hK];exact h.2) hK
end
def ddp(acc:List Key)(k:Key):List Key:=if acc.any (λz=>decide (z=k))then acc else acc++[k]
def uV(ks:List Key):List Key:=ks.foldl ddp []
theorem Qb(acc:List Key)(k j:Key):(ddp acc k).any (λz=>decide (z=j))=(acc.any (λz=>decide (z=j))||decide (j=k)):=by
 unfold ddp;by_cases h:acc.any (λz=>decide (z=k))=true
 ·rw[ai h];by_cases e:j=k
  ·subst e;rw[h];simp
  ·simp[e]
 ·rw[aj h,List.any_append];by_cases e:j=k
  ·subst e;simp
  ·have hb:¬k=j:=λz=>e z.symm;simp[hb,e]
theorem JM(acc:List Key)(k:Key):(ddp acc k).length=if acc.any (λz=>decide (z=k))=true then acc.length else acc.length+1:=by unfold ddp;split<;>simp
theorem Eg(ks:List Key)(i:Nat)(h:i<ks.length):uV (ks.take (i+1))=ddp (uV (ks.take i)) ks[i]:=by unfold uV;rw[List.take_add_one,aL h,List.foldl_append];rfl
theorem M8(ks:List Key):(uV ks).length<=ks.length:=by
 have gen:∀(l:List Key) (acc:List Key),(l.foldl ddp acc).length<=acc.length+l.length:=by
  intro l
  induction l with
  |nil=>intro acc;simp
  |cons k l ih=>
   intro acc;rw[mG,aE];have h1:=ih (ddp acc k);have h2:(ddp acc k).length<=acc.length+1:=by rw[JM];split<;>omega
   omega
 have:=gen ks [];simpa [uV]using this
theorem set_same{h:Heap}{n:Nat}(hS:h.SetOf (oQ prog w) a S n)(e:∀k,S k=S' k)(en:n=n'):h.SetOf (oQ prog w) a S' n':=by obtain rfl:S=S':=funext e;subst en;exact hS
section
variable{prog:aS}{w:aI}{A:aQ}{R:fD->af->Prop}{I:Addr}{fp wr:List Addr}{GG:Array gj->Array gj->Prop}{n:Nat}{PP:Nat->ae->Prop}{SS:Nat->af->Prop}
theorem M9(W:WalksS prog w A.in1 I fp wr GG n PP SS)(S:Addr)(hSf:S∉fp)(ks:List Key)(hn:ks.length=n)
  (hval:∀i v (h:i<ks.length),PP i v->(oQ prog w).is ks[i] v=true/\v.scannable=true) (hb:n+1<scanBound):∀(k i:Nat) (s:af),n - i=k->i<=n->SS i s->
   s.heap.SetOf (oQ prog w) S (λj=>(uV (ks.take i)).any (λz=>decide (z=j))) (uV (ks.take i)).length->
   (∀s',Moved (S::wr) GG s s'->s'.heap.SetOf (oQ prog w) S (λj=>(uV ks).any (λz=>decide (z=j))) (uV ks).length->R (.ok (.ret .none)) s')->
   codeAny (model prog w) A (.builtin "set.update.loop" ⟨[.ref S,.ref I],[]⟩) R s:=by
 have hSw:S∉wr:=λz=>hSf (W.sub _ z);have up:∀b∈wr,b∈S::wr:=λb z=>bh _ z;intro k
 induction k with
 |zero=>
  intro i s hk hi hst hS hR;obtain rfl:i=n:=by omega
  refine dg fN ?_;rw[dB dA _];show wpAny _ A.in1 (pyNext (.ref I)>>=_) _ _ s;refine au (W.done s _ _ hst λs' hm=>?_);show wpAny _ A.in1 (ret Value.none) _ _ s';rw[lr (by omega)]at hS;refine aD (hR s' (hm.mono up) ?_);obtain⟨o,es,ep,t,ho,more⟩:=hS;exact⟨o,es,ep,t,hm.heap S _ hSw ho,more⟩
 |succ k ih=>
  intro i s hk hi hst hS hR;have hlt:i<n:=by omega
  have hlk:i<ks.length:=by omega
  refine dg fN ?_;rw[dB dA _];show wpAny _ A.in1 (pyNext (.ref I)>>=_) _ _ s;refine au (W.item i s _ _ hlt hst λv s' hP hst' hm=>?_);obtain⟨kv,sc⟩:=hval i v hlk hP;have hS':s'.heap.SetOf (oQ prog w) S (λj=>(uV (ks.take i)).any (λz=>decide (z=j))) (uV (ks.take i)).length:=by obtain⟨o,es,ep,t,ho,more⟩:=hS;exact⟨o,es,ep,t,hm.heap S _ hSw ho,more⟩
  show wpAny _ A.in1 (holding [v] (setAdd S v)>>=_) _ _ s';refine au (cG ?_);unfold setAdd;refine cG ?_;refine au ((oQ prog w).pyHash (k:=ks[i]) kv ?_);have room:(uV (ks.take i)).length+1<scanBound:=by have:=M8 (ks.take i);rw[br]at this;omega
  refine wpAny_setAddHashed_of (knd:=oQ prog w) (s:={ s' with toks:=s'.toks+1 }) kv sc hS' room λh' hsb hS2=>?_;have hSi:h'.SetOf (oQ prog w) S (λj=>(uV (ks.take (i+1))).any (λz=>decide (z=j))) (uV (ks.take (i+1))).length:=
   set_same hS2 (λj=>by rw[Eg ks i hlk,Qb]) (by rw[Eg ks i hlk,JM])
  refine aD ⟨fg dA _,ih (i+1) _ (by omega) hlt (W.frame _ s' _ _ hst' (gf _) λb z o e=>?_) hSi λs'' hm'' hS''=>?_⟩
  ·rw[hsb.2 b (λy:b=S=>hSf (by rw[<-y];exact z))];exact e
  ·refine hR s'' (j8 W.gtrans ((hm.mono up).then_heap (gf _) λb o z e=>?_) hm'') hS'';rw[hsb.2 b (λy:b=S=>z (by rw[y];exact ba))];exact e
end
theorem Qc(l:Addr)(us:Array ae)(m:Nat)(b:Addr)(o:Obj)(ws:Array ae)(m2:Nat)(hc:o.cls=.type "tuple")(hd:o.data=.seq ws m2)(z0:¬(!us.isEmpty&&fM (us.size+ws.size))=true)(z1:us.size<=sizeLine)(z2:us.size+ws.size<=sizeLine+1):
  Meets (dP.«list.extend» ⟨[.ref l,.ref b],[]⟩) (λ_ R s=>s.heap.get? l=some { cls:=.type "list", data:=.seq us m }/\s.heap.get? b=some o/\R (.ok (.ret Value.none)) { s with heap:=s.heap.update l (cP λx=>x++ws),toks:=s.toks }):=by
 obtain⟨c,dd,data,sl⟩:=o;cases hc;cases hd;refine .of_wp λprog w A R s h=>?_;obtain⟨hp,g,d,tk,os⟩:=s;obtain⟨hl,hb,h⟩:=h;have f2:=lg;have f3:=AutoSeq1.sub_list_list;have f4:=AutoSeq1.sub_tuple_list;have f5:=AutoSeq1.sub_list_tuple;have z3:(us++ws).size<=sizeLine+1:=Array.size_append (xs:=us) (ys:=ws)▸z2
 wp_walk using (jF hl rfl (hz:=z1) (_hz':=z3)),lh hl,lh hb
 exact⟨_,rfl,h⟩
section
variable{X:Cx}{G:Bg}
def GE(K:aw):V->bA->Hp->VK->Prop:=λx vs H Q=>∃l b xs zs,x=.ref l/\vs=[.ref b]/\H l=some (.lst xs)/\SqT K H b zs/\xs.length+zs.length<=sizeLine/\Q .non (upd H l (.lst (xs++zs)))
theorem Im:MtM X "list.extend" (GE X.K):=by
 intro pins s σ H x vs v us Q I rx rv h;obtain⟨l,b,xs,zs,rfl,rfl,hH,hB,hz,q⟩:=h;cases rx;obtain⟨u,rfl,ru⟩:=rv.one;cases ru;obtain⟨z,its,n,r,hl,e⟩:=I.lstM hH;obtain⟨its2,r2,⟨o,e2,hc,n2,hd⟩,hz2⟩:=I.tuple hB;have hl2:=r2.length;have hsz:its.toArray.size+its2.toArray.size<=sizeLine:=by rw[bf,bf];omega
 have hlong:¬(!its.toArray.isEmpty&&fM (its.toArray.size+its2.toArray.size))=true:=by rw[F5 hsz,mM];exact bp
 refine iw jt ⟨_,e,rfl⟩ lK (lF _ _)
  (Qc l its.toArray n b o its2.toArray n2 hc hd hlong (by rw[bf];omega) (by omega)) ⟨e,e2,?_⟩
 refine⟨.non,_,I.lset (its':=its++its2) hH e (by simp) (r.append r2) ?_,rfl,q⟩;rw[aA];omega
def AS(i:Nat)(f:FE):FE:=λρ=>match pZ ρ i with
 |some _=>match f ρ with
  |some (.tup es,ρ1)=>match pZ ρ1 i with
   |some ds=>if ds.length+es.length<=1000 then some (.non,putAt ρ1 i (ds++es))else none
   |none=>none
  |_=>none
 |none=>none
theorem Io(h:PE X e (tBM G.K "list" (GE G.K) (vp i) (B2 (tF G f) FZ))):PE X e (tF G (AS i f)):=PE.weak h λσ H Q hh=>by
 obtain⟨F,ρ,H0,d,ρ',R,e,k⟩:=hh;unfold AS at e;cases e0:pZ ρ i with
 |none=>simp only[e0]at e;cases e
 |some ds0=>
  simp only[e0]at e;rcases o5 (f:=f) (ρ:=ρ)with e1|⟨x,ρ1,e1⟩<;>simp only[e1]at e
  ·cases e
  ·cases x with
   |tup es=>
    cases e2:pZ ρ1 i with
    |none=>simp only[e2]at e;cases e
    |some ds=>
     simp only[e2]at e;split at e
     ·rename_i hl;cases e;obtain⟨a,xs,s1,s2,s3,_⟩:=qw R e0;refine⟨.ref a,s1,.inl ⟨rfl,xs,SqL.of s2⟩,F,ρ,H0,_,ρ1,R,e1,λv H1 H1' s R' rs=>?_⟩;unfold Rep at rs;obtain⟨p,ys,rfl,hp,rs⟩:=rs;obtain⟨a',xs',t1,t2,t3,t4⟩:=qw R' e2;rw[s1]at t1;cases t1;refine⟨a,p,xs',ys,rfl,rfl,t2,SqT.mono R'.sub hp,?_,k _ _ _ s (t4 _ _ (qJ t3 rs)) zl⟩;rw[<-oi t3,<- oi rs];exact uB hl
     ·cases e
   |_=>cases e
end
abbrev one(j:Nat)(led pl:Bool):iE:=⟨7,#[j],#[],0,led,0,pl⟩
abbrev prb(i q:Nat):ic:=⟨i,0,i,q,none⟩
section
variable{j i q:Nat}{led pl:Bool}{h h1:Int}
theorem vP(i:Nat):(one j led pl).slot i=if j=i then .live 0 else .empty:=by
 by_cases z:j<i
 ·have:j≠i:=by omega
  simp[mR,f7,fU,gb,z,this]
 ·simp[mR,f7,fU,gb,z]
theorem WW(i:Nat):jG 7 i - i=0:=by unfold jG;split<;>omega
theorem JN:(one j led pl).advance (prb i q)=prb ((i * 5+1+q / 32) % 8) (q / 32):=by unfold SetTable.advance SetTable.leap;simp[WW]
theorem WX(e:F 0=h1):∀(f:Nat) (p:ic),cY (one j led pl) F h f p=cY (one j led pl) (λ_=>h1) h f p
 |0,p=>rfl
 |f+1,p=>by
  unfold cY;rw[vP];by_cases z:j=p.j
  ·rw[ai z];dsimp only;rw[e,WX e f]
  ·rw[aj z]
theorem JO(hh:h1≠h):∀(n f i q:Nat),q<32 ^ n->n+2<=f->∃j',j'≠j/\cY (one j led pl) (λ_=>h1) h f (prb i q)=some (.empty j' none)
 |n,0,i,q,_,hf=>ao hf (by omega)
 |n,f+1,i,q,hq,hf=>by
  unfold cY;rw[vP];by_cases z:j=i
  ·rw[ai z];dsimp only;rw[aj (by simpa using hh),JN];cases n with
   |zero=>
    obtain⟨f,rfl⟩:∃g,f=g+1:=⟨f - 1,by omega⟩;unfold cY;rw[vP];have q0:q=0:=by simpa using hq
    have:¬j=(i * 5+1+q / 32) % 8:=by subst z q0;omega
    rw[aj this];exact⟨_,λe=>this e.symm,rfl⟩
   |succ n=>exact JO hh n f _ _ (by rw[Nat.pow_succ]at hq;omega) (by omega)
  ·rw[aj z];exact⟨_,λe=>z e.symm,rfl⟩
theorem Lb{n:Nat}(hn:n<=13)(hq:q<32 ^ n):(∃j',j'≠j/\(one j led pl).probe (λ_=>h1) h (prb i q)=some (.empty j' none))\/(h1=h/\j=i/\(one j led pl).probe (λ_=>h1) h (prb i q)=some (.candidate j 0 (prb ((i * 5+1+q / 32) % 8) (q / 32)))):=by
 by_cases hh:h1=h
 ·by_cases z:j=i
  ·right;refine⟨hh,z,?_⟩;subst z hh;show cY _ _ _ (219+1) _=_;unfold cY;rw[vP,ai rfl];dsimp only;rw[ai (by simp),JN]
  ·left;refine⟨i,λe=>z e.symm,?_⟩;show cY _ _ _ (219+1) _=_;unfold cY;rw[vP,aj z]
 ·exact .inl (JO hh n 220 i q hq (by omega))
end
section
variable{prog:aS}{w:aI}{A:aQ}{E:ae->af->Prop}{s:af}
abbrev TK(prog:aS)(w:aI):=IsTupleKey (oQ prog w)
theorem cls_val(n:Nat){v:ae}(h:carriedByValue v=true):ofAClassStatement n v=pure false:=by
 cases v with
 |ref a=>simp[carriedByValue]at h
 |_=>first|rfl|simp[ofAClassStatement]|(unfold ofAClassStatement;rfl)
theorem JP(hk:TK prog w s.heap ks a)(h:Q false s):wpAny (model prog w) A (ofAClassStatement 8 (.ref a)) Q E s:=by
 have hT:=hk.typeIs;obtain⟨o,items,n,ho,_,hd,hi⟩:=hk;unfold ofAClassStatement;refine au (jY hT ?_);show wpAny _ _ (pure true>>=_) _ _ s;refine au (aD ?_);simp only[Bool.not_true,dZ,if_false];refine au (wpAny_seqItems ho hd ?_);refine au ?_;show wpAny _ _ (forIn items _ _) _ _ s;rw[<-lZ];refine hU _ (λrest r s'=>r.1=none/\s'=s/\∀v∈rest,carriedByValue v=true) _ ?_ ?_ _ _ ⟨rfl,rfl,hi.byValue⟩
 ·rintro v rest r s' ⟨hr,rfl,hall⟩;rw[cls_val _ (hall v ba)];refine au (aD ?_);simp only[dZ,if_false];exact aD ⟨rfl,rfl,λu hu'=>hall u (bh _ hu')⟩
 ·rintro⟨r1,r2⟩ s' ⟨hr,rfl,_⟩;simp only at hr;subst hr;exact aD h
theorem Qd(n:Nat){v:ae}(h:carriedByValue v=true):∃b,hashByValue n v=pure b:=by
 cases v with
 |ref a=>simp[carriedByValue]at h
 |_=>cases n<;>first|exact⟨_,rfl⟩|(unfold hashByValue;exact⟨_,rfl⟩)
theorem Qe(hk:TK prog w s.heap ks a)(h:∀b,Q b s):wpAny (model prog w) A (hashByValue 8 (.ref a)) Q E s:=by
 have hT:=hk.typeIs;obtain⟨o,items,n,ho,_,hd,hi⟩:=hk;unfold hashByValue;refine au (jC hT F.slot_tuple_hash.lookup ?_);show wpAny _ _ (seqItems? (.ref a)>>=_) _ _ s;refine au (wpAny_seqItems ho hd ?_);refine au ?_;show wpAny _ _ (forIn items _ _) _ _ s;rw[<-lZ];refine hU _ (λrest r s'=>s'=s/\∀v∈rest,carriedByValue v=true) _ ?_ ?_ _ _ ⟨rfl,hi.byValue⟩
 ·rintro v rest r s' ⟨rfl,hall⟩;obtain⟨b,hb⟩:=Qd 7 (hall v ba);rw[hb];refine au (aD ?_);cases b
  ·exact aD (aD (h _))
  ·exact aD ⟨rfl,λu hu'=>hall u (bh _ hu')⟩
 ·rintro⟨r1,r2⟩ s' ⟨rfl,_⟩;cases r1 with
  |none=>exact aD (h _)
  |some b=>exact aD (h _)
theorem Qf{a1:Addr}(h1:TK prog w s.heap k1 a1)(h2:TK prog w s.heap k2 a2)(h:Q false s):wpAny (model prog w) A (searchCouldBeSeen (.ref a2) [.ref a1]) Q E s:=by
 unfold searchCouldBeSeen;refine au ?_;show wpAny _ _ (forIn [Value.ref a1] _ _) _ _ s;refine hU _ (λrest r s'=>r=(none,())/\s'=s/\∀v∈rest,v=.ref a1) _ ?_ ?_ _ _ ⟨rfl,rfl,λv hv=>by simpa using hv⟩
 ·rintro v rest r s' ⟨rfl,rfl,hall⟩;obtain rfl:=hall v ba;have go:∀v∈rest,v=Value.ref a1:=λu hu'=>hall u (bh _ hu');dsimp only;split
  ·exact aD ⟨rfl,rfl,go⟩
  ·refine au (lC h2 ?_);refine au (lC h1 ?_);refine au (JP h2 ?_);refine au (JP h1 ?_);exact aD ⟨rfl,rfl,go⟩
 ·rintro r s' ⟨rfl,rfl,_⟩;exact aD h
theorem yZ{a1:Addr}{pl:Bool}(hu:A.units<cLine)(t1:TK prog w s.heap k1 a1)(t2:TK prog w s.heap k2 a2)(ne:k1≠k2)
  (ho:s.heap.get? S=some o) (hd:o.data=.set #[(h1,.ref a1)] ep (one j led pl)) (hQ:∀j',j'≠j->Q (.free j' false) s):∀(fuel n i q:Nat) (st:Option ic),n<=13->1<=fuel->(i=j->n+2<=fuel)->q<32 ^ n->st.getD ((one j led pl).probeStart h)=prb i q->wpAny (model prog w) A (setSearchFrom S (.ref a2) h true fuel st) Q E s
 |0,n,i,q,st,_,hf,_,_,_=>ao hf (by omega)
 |fuel+1,n,i,q,st,hn,_,hf,hq,hst=>by
  unfold setSearchFrom;refine au (fV ho hd rfl ?_);dsimp only;rw[aj (by simp[mB])];have P:=Lb (led:=led) (pl:=pl) (j:=j) (i:=i) (h:=h) (h1:=h1) hn hq;unfold SetTable.probe at P ⊢;rw[hst,WX (h1:=h1) rfl];rcases P with ⟨j',hj,e⟩|⟨e1,e2,e⟩
  ·rw[e];exact aD (hQ j' hj)
  ·rw[e];dsimp only;rw[show List.map (λx:Int×ae=>x.snd) (Array.filter (λx=>x.fst==h) #[(h1,Value.ref a1)]).toList=[.ref a1] by simp[e1]];have hf2:=hf e2.symm;have si:∀led,(one j led pl).sameMemory 0 7=some true:=λ_=>rfl;cases led;refine au (Qf t1 t2 ?_)
   all_goals
    refine au (cG (wpAny_eqBool_tuple hu t1 t2 ?_));refine au (fV ho hd rfl ?_);rw[aH ne];dsimp only;rw[aj (by decide),si];dsimp only;rw[ai rfl,vP,ai rfl];refine au (wpAny_isSame_ref_self ?_);refine au (aD ?_);cases n with
    |zero=>
     have q0:q=0:=by simpa using hq
     exact yZ hu t1 t2 ne ho hd hQ fuel 0 _ _ _ hn (by omega) (λe=>ao e (by subst e2 q0;omega)) (by rw[q0];decide) rfl
    |succ n=>exact yZ hu t1 t2 ne ho hd hQ fuel n _ _ _ (by omega) (by omega) (λ_=>by omega) (by rw[Nat.pow_succ]at hq;omega) rfl
theorem JQ{S a2:Addr}{ks:List Key}{o:Obj}{es:Array (Int×ae)}{ep:Nat}{t:iE}{h:Int}{P:Nat->Prop}{Q:Bool->af->Prop}(ho:s.heap.get? S=some o)(hd:o.data=.set es ep t)(hf:t.fits es.size=true)(t2:TK prog w s.heap ks a2)
  (hs:∀Q:SetFound->af->Prop,(∀j',P j'->Q (.free j' false) s)->wpAny (model prog w) A (setSearch S (.ref a2) h true) Q E s) (hT:∀j',P j'->(t.put j').1.tooFull=false) (hz:∀j',P j'->(ef es (t.put j').2 (h,Value.ref a2)).size<=sizeLine)
  (hQ:∀j' pl,P j'->Q true { s with heap:=s.heap.update S (kl (ef es (t.put j').2 (h,.ref a2)) { (t.put j').1 with plain:=pl }) }):wpAny (model prog w) A (setAddHashed S (.ref a2) h) Q E s:=by
 unfold setAddHashed setAddHashedIn;refine cG (au (fV ho hd hf ?_));dsimp only;rw[aj (by simp[byScan,Value.scannable])];refine au (hs _ λj' hj=>?_);dsimp only;refine au (fV ho hd hf ?_);dsimp only;have fin:∀b:Bool,wpAny (model prog w) A (do
   storeSet S (ef es (t.put j').2 (h,.ref a2)) (if b=true then (t.put j').1 else { (t.put j').1 with plain:=false })
   if (!false&&(if b=true then (t.put j').1 else { (t.put j').1 with plain:=false }).tooFull)=true then do setRelay S (SetTable.grown (es.size+1));pure true else pure true) Q E s:=λb=>by
  refine au (wpAny_storeSet_of ho hd ?_ (hz j' hj));have e:(if b=true then (t.put j').1 else { (t.put j').1 with plain:=false })={ (t.put j').1 with plain:=if b=true then (t.put j').1.plain else false }:=by cases b<;>rfl
  rw[e,aj (by have:=hT j' hj;unfold mC jN at this ⊢;rw[this];decide)];exact aD (hQ _ _ hj)
 split
 ·exact au (Qe t2 λb=>fin b)
 ·exact au (aD (fin true))
end
section
variable{j i q:Nat}{led pl:Bool}{h h1:Int}
theorem Cw(i:Nat):(ie 0 0 led).put i=(one i led true,0):=by simp[jZ,ie,f7,fU,gb,ef]
theorem BQ{α:Type}(x y:α):((one j led pl).put i).1.place.size=2/\((one j led pl).put i).1.dummies=#[]/\((one j led pl).put i).1.mask=7/\(ef #[x] ((one j led pl).put i).2 y).size=2:=by
 by_cases z:j<i
 ·simp[jZ,f7,fU,gb,ef,z]
 ·simp[jZ,f7,fU,gb,ef,z]
end
section
variable{prog:aS}{w:aI}{A:aQ}{E:ae->af->Prop}{s:af}
theorem Na{hp:Heap}{t:iE}(ho:hp.get? S=some o)(hd:o.data=.set es ep t):(hp.update S (kl es' t')).get? S=some { o with data:=.set es' (ep+1) t' }:=by have:=jc (kl es' t') ho (by rw[putSet_of es' t' hd];rfl);rw[putSet_of es' t' hd]at this;exact this
theorem Lc{S a:Addr}{ks:List Key}{o:Obj}{ep:Nat}{led:Bool}{h:Int}{Q:Bool->af->Prop}(ho:s.heap.get? S=some o)(hd:o.data=.set #[] ep (.fresh 0 0 led))(t2:TK prog w s.heap ks a)
  (hQ:∀h' j pl,fo S s.heap h'->h'.get? S=some { o with data:=.set #[(h,.ref a)] (ep+1) (one j led pl) }->Q true { s with heap:=h' }):wpAny (model prog w) A (setAddHashed S (.ref a) h) Q E s:=by
 refine JQ (P:=λ_=>True) ho hd rfl t2 (λQ hq=>?_) (λj' _=>by rw[Cw];rfl) (λj' _=>by rw[Cw,bJ];exact fm (by decide:1<_)) λj' pl _=>hQ _ j' pl (lM ..) ?_
 ·unfold setSearch setSearchFrom;refine au (fV ho hd rfl ?_);dsimp only;rw[aj (by simp[mB,ie]),show ∀F p,(ie 0 0 led).probe F h p=some (.empty p.j p.dummy) from λ_ _=>rfl];exact aD (hq _ trivial)
 ·rw[Na ho hd,Cw];rfl
theorem Ip{a1:Addr}{pl:Bool}(hu:A.units<cLine)(t1:TK prog w s.heap k1 a1)(t2:TK prog w s.heap k2 a2)(ne:k1≠k2)
  (ho:s.heap.get? S=some o) (hd:o.data=.set #[(h1,.ref a1)] ep (one j led pl))
  (hQ:∀h' es t,fo S s.heap h'->h'.get? S=some { o with data:=.set es (ep+1) t }->es.size=2->t.fits 2=true->Q true { s with heap:=h' }):wpAny (model prog w) A (setAddHashed S (.ref a2) h) Q E s:=by
 refine JQ (P:=λj'=>j'≠j) ho hd rfl t2 (λQ hq=>?_) (λj' _=>?_) (λj' _=>by rw[(BQ _ _).2.2.2,bJ];decide) λj' pl' _=>hQ _ _ _ (lM ..) (Na ho hd) (BQ _ _).2.2.2 ?_
 ·have hb:ig h<32 ^ 13:=by unfold ig;omega
  exact yZ hu t1 t2 ne ho hd hq 100000 13 (ig h % 8) (ig h) none (by omega) (by omega) (λ_=>by omega) hb (by show SetTable.Probe.mk _ _ _ _ _=_;rw[WW])
 ·obtain⟨a,b,c,_⟩:=BQ (j:=j) (i:=j') (led:=led) (pl:=pl) 0 0;unfold mC jN;rw[a,b,c];rfl
 ·obtain⟨a,b,c,_⟩:=BQ (j:=j) (i:=j') (led:=led) (pl:=pl) 0 0;unfold SetTable.fits jN;dsimp only;rw[a,b,c];rfl
end
section
variable{prog:aS}{w:aI}{A:aQ}{R:fD->af->Prop}{I:Addr}{fp wr:List Addr}{GG:Array gj->Array gj->Prop}{PP:Nat->ae->Prop}{SS:Nat->af->Prop}
theorem TK.kept{h':Heap}(t:TK prog w h ks a)(e:∀o,h.get? a=some o->h'.get? a=some o):TK prog w h' ks a:=by obtain⟨o,its,n,ho,m⟩:=t;exact⟨o,its,n,e o ho,m⟩
def Tx(h:Heap)(S:Addr)(n:Nat):Prop:=∃o es ep t,h.get? S=some o/\o.ExactSet/\o.data=.set es ep t/\es.size<scanBound/\t.fits es.size=true/\es.size=n
theorem Ld(W:WalksS prog w A.in1 I fp wr GG 2 PP SS){a1:Addr}{s:af}(hSf:S∉fp)(ne:k1≠k2)(n1:a1∉S::wr)(n2:a2∉S::wr)(p1:∀v,PP 0 v->v=.ref a1)(p2:∀v,PP 1 v->v=.ref a2)(hu:A.in1.units<cLine)
  (hst:SS 0 s) (t1:TK prog w s.heap k1 a1) (t2:TK prog w s.heap k2 a2) (ho:s.heap.get? S=some o) (hx:o.ExactSet) (hd:o.data=.set #[] ep (.fresh 0 0 led)) (hR:∀s',Moved (S::wr) GG s s'->Tx s'.heap S 2->R (.ok (.ret .none)) s'):
   codeAny (model prog w) A (.builtin "set.update.loop" ⟨[.ref S,.ref I],[]⟩) R s:=by
 have hSw:S∉wr:=λz=>hSf (W.sub _ z);have up:∀b∈wr,b∈S::wr:=λb z=>bh _ z;have q1:a1∉wr:=λz=>n1 (up _ z);have q2:a2∉wr:=λz=>n2 (up _ z);have e1:a1≠S:=λz=>n1 (by rw[z];exact ba);have e2:a2≠S:=λz=>n2 (by rw[z];exact ba);refine dg fN ?_;rw[dB dA _];show wpAny _ A.in1 (pyNext (.ref I)>>=_) _ _ s;refine au (W.item 0 s _ _ (by decide) hst λv s1 hP st1 m1=>?_);obtain rfl:=p1 v hP;show wpAny _ A.in1 (holding _ (setAdd S _)>>=_) _ _ s1;refine au (cG ?_);unfold setAdd;refine cG ?_;have u1:TK prog w s1.heap k1 a1:=t1.kept λo=>m1.heap a1 o q1;have u2:TK prog w s1.heap k2 a2:=t2.kept λo=>m1.heap a2 o q2;refine au (l3 hu u1 ?_);refine Lc (m1.heap S _ hSw ho) hd u1 λh' j pl hb hg=>?_;refine aD ⟨fg dA _,?_⟩;have st1':=W.frame (0+1) s1 h' _ st1 (fY _ (k1.length+1)) λb z o e=>by rw[hb.2 b (λy:b=S=>hSf (by rw[<-y];exact z))];exact e
 have m1':Moved (S::wr) GG s { s1 with heap:=h',toks:=s1.toks+(k1.length+1) }:=(m1.mono up).then_heap (fY _ _) λb o z e=>by rw[hb.2 b (λy:b=S=>z (by rw[y];exact ba))];exact e
 have v1:TK prog w h' k1 a1:=u1.kept λo e=>by rw[hb.2 a1 e1];exact e
 have v2:TK prog w h' k2 a2:=u2.kept λo e=>by rw[hb.2 a2 e2];exact e
 refine dg fN ?_;rw[dB dA _];show wpAny _ A.in1 (pyNext (.ref I)>>=_) _ _ _;refine au (W.item 1 _ _ _ (by decide) st1' λv s2 hP st2 m2=>?_);obtain rfl:=p2 v hP;show wpAny _ A.in1 (holding _ (setAdd S _)>>=_) _ _ s2;refine au (cG ?_);unfold setAdd;refine cG ?_;have w1:TK prog w s2.heap k1 a1:=v1.kept λo=>m2.heap a1 o q1;have w2:TK prog w s2.heap k2 a2:=v2.kept λo=>m2.heap a2 o q2;refine au (l3 hu w2 ?_);refine Ip hu w1 w2 ne (m2.heap S _ hSw hg) rfl λh2 es t hb2 hg2 z2 f2=>?_;refine aD ⟨fg dA _,?_⟩;have st2':=W.frame (1+1) s2 h2 _ st2 (fY _ (k2.length+1)) λb z o e=>by rw[hb2.2 b (λy:b=S=>hSf (by rw[<-y];exact z))];exact e
 have m2':=j8 W.gtrans m1' ((m2.mono up).then_heap (tk:=s2.toks+(k2.length+1)) (fY _ _) λb o z e=>by rw[hb2.2 b (λy:b=S=>z (by rw[y];exact ba))];exact e);refine dg fN ?_;rw[dB dA _];show wpAny _ A.in1 (pyNext (.ref I)>>=_) _ _ _;refine au (W.done _ _ _ st2' λs3 m3=>?_);show wpAny _ A.in1 (ret Value.none) _ _ s3;refine aD (hR s3 (j8 W.gtrans m2' (m3.mono up)) ?_);exact⟨_,es,_,t,m3.heap S _ hSw hg2,hx,rfl,by rw[z2];decide,by rw[z2];exact f2,z2⟩
end
theorem sub_tuple_set:isSubtype (.type "tuple") (.type "set")=pure false:=by rw[jI];kernel_rfl
theorem sub_tuple_frozenset:isSubtype (.type "tuple") (.type "frozenset")=pure false:=by rw[jI];kernel_rfl
section
variable{prog:aS}{w:aI}{A:aQ}{E:ae->af->Prop}{s:af}{Q:ae->af->Prop}
abbrev xn(led:Bool):Obj:={ cls:=.type "set", dict:=none,data:=.set #[] 0 (.fresh 0 0 led) }
abbrev inK(ks:List Key):Key->Bool:=λj=>(uV ks).any (λz=>decide (z=j))
structure WY(prog:aS)(w:aI)(h:Heap)(a:Addr)(items:Array ae)(ks:List Key):Prop where
 len:ks.length=items.size
 key:∀i v (hi:i<ks.length),items[i]?=some v->(oQ prog w).is ks[i] v=true/\v.scannable=true
 bnd:items.size+1<scanBound
def Qg(s:af)(PS:Heap->Prop)(E:ae->af->Prop):fD->af->Prop:=
 wants (λr s2=>r=.none/\∃h2 k2,s2={ s with heap:=h2,toks:=k2 }/\PS h2/\∀b o,b<s.heap.objs.size->s.heap.get? b=some o->h2.get? b=some o) E
theorem GF(K:WY prog w s.heap ax items ks)(hlt:ax<s.heap.objs.size)
  (W:Walks prog w A.in1 (s.heap.objs.size+1) [s.heap.objs.size+1,ax] [s.heap.objs.size+1] items.size (λi v=>items[i]?=some v) SS) (st:SS 0 ((s.heap.push (xn led)).push itO))
  (hR:∀h2 k2,h2.SetOf (oQ prog w) s.heap.objs.size (inK ks) (uV ks).length->(∀b o,b<s.heap.objs.size->s.heap.get? b=some o->h2.get? b=some o)->R (.ok (.ret .none)) { s with heap:=h2,toks:=k2 }) (tk:Nat):
  codeAny (model prog w) A (.builtin "set.update.loop" ⟨[.ref s.heap.objs.size,.ref (s.heap.objs.size+1)],[]⟩) R { s with heap:=(s.heap.push (xn led)).push itO,toks:=tk }:=by
 have notin:s.heap.objs.size∉[s.heap.objs.size+1,ax]:=by
  intro z;rcases aM.mp z with z|z
  ·exact ao z (aX (dE _))
  ·exact ao (aO.mp z) (fq hlt)
 have e0:((s.heap.push (xn led)).push itO).get? s.heap.objs.size=some (xn led):=aK _ (bu _ rfl);refine M9 W.toS s.heap.objs.size notin ks K.len (λi v hi hv=>K.key i v hi hv) K.bnd (items.size - 0) 0 _ (by omega) (cj _) st ?_ λs2 mv S2=>?_
 ·exact⟨_,#[],0,_,e0,⟨rfl,rfl,rfl⟩,rfl,λe he=>by simp at he,λk=>by simp[uV],by unfold scanBound;decide,by rfl,rfl⟩
 ·obtain⟨h2,g2,d2,k2,o2⟩:=s2;have eg:g2=s.gens:=mv.gens;have ed:d2=s.drawn:=mv.drawn;have eo:o2=s.os:=mv.os;subst eg ed eo;refine hR h2 k2 S2 λb o hb e=>mv.heap b o (λz=>?_) (aK _ (aK _ e));rcases aM.mp z with z|z
  ·exact ao z (aX hb)
  ·exact ao (aO.mp z) (aX (cX hb))
theorem Iq(a:ae)(h:Q₁ (.ref s.heap.objs.size) { s with heap:=s.heap.push (xn (!w.params.followText "set-order")) }):
  codeAny (model prog w) A (.call (.builtin "set.__new__") ⟨[.type "set", a],[]⟩) (wants Q₁ E) s:=by
 refine codeAny_of_tree ?_;show wpAny _ A.in1 (do checkBuiltinCall "set.__new__" ⟨[.type "set", a],[]⟩;again (.builtin "set.__new__" ⟨[.type "set", a],[]⟩)) _ _ s;refine au (wpAny_of_eq (F.newCall_set_1 a) (aD ⟨fg mH _,dg F.entry_set_new ?_⟩));rw[dB mH _];unfold dP.«set.__new__» nS;have hsub:=sub_set_self;obtain⟨hp,g,d,tk,os⟩:=s;dsimp only
 wp_walk
 refine wpAny_askSetting (aD ?_);dsimp only;simp only[newObj];refine au (wpAny_alloc (aD ?_));exact aD h
theorem Cy{PS:Heap->Prop}(ho:s.heap.get? ax=some o)(hc:o.cls=.type T)
  (u1:isSubtype (.type T) (.type "set")=pure false) (u2:isSubtype (.type T) (.type "frozenset")=pure false) (u3:(Value.type T==Value.type "dict")=false)
  (itr:∀(A:aQ) (Q:ae->af->Prop) (E:ae->af->Prop) (s1:af),s1.heap.get? ax=some o->Q (.ref s1.heap.objs.size) { s1 with heap:=s1.heap.push itO }->wpAny (model prog w) A (pyIter (.ref ax)) Q E s1)
  (fil:∀tk (R:fD->af->Prop),(∀h2 k2,PS h2->(∀b o,b<s.heap.objs.size->s.heap.get? b=some o->h2.get? b=some o)->R (.ok (.ret .none)) { s with heap:=h2,toks:=k2 })->
   codeAny (model prog w) A.in1.in1 (.builtin "set.update.loop" ⟨[.ref s.heap.objs.size,.ref (s.heap.objs.size+1)],[]⟩) R { s with heap:=(s.heap.push (xn (!w.params.followText "set-order"))).push itO,toks:=tk })
  (h:∀h2 k2,PS h2->(∀b o,b<s.heap.objs.size->s.heap.get? b=some o->h2.get? b=some o)->Q (.ref s.heap.objs.size) { s with heap:=h2,toks:=k2 }):
  wpAny (model prog w) A (call (.type "set") [.ref ax]) Q E s:=by
 have hlt:ax<s.heap.objs.size:=aN ho;obtain⟨c,tl,hmro⟩:=dN.mro;have made:=dN.made;have subs:=dN.sub;refine ir (codeAny_of_tree ?_);show wpAny _ _ (callAny (.type "set") _) _ _ _;refine aD ⟨Code.quiet_builtin _ (by decide +kernel),dg F.entry_type_call ?_⟩;rw[Around.under_plain (weight_type_call_type "set" [.ref ax] []) rfl];have n1:=dN.notType;have n2:=dN.canCreate;have n3:=F.typeCall_set_1 (.ref ax)
 repeat (any_goals (first|assumption|wp_step))
 let led:Bool:=!w.params.followText "set-order";refine fw (Iq (.ref ax) (E:=E) (Q₁:=λv s1=>v=.ref s.heap.objs.size/\s1={ s with heap:=s.heap.push (xn led) }) ⟨rfl,rfl⟩) λr s1 hr=>?_;cases r with
 |error e=>exact hr
 |ok fl=>
  cases fl with
  |ret v=>
   obtain⟨rfl,rfl⟩:=hr;have e0:(s.heap.push (xn led)).get? s.heap.objs.size=some (xn led):=bu _ rfl;have ty0:jO { s with heap:=s.heap.push (xn led) } (.ref s.heap.objs.size) "set" := ⟨_,e0,rfl⟩;have l1:=dN.init.lookup;have l2:=dN.init.bind (.ref s.heap.objs.size)
   repeat (any_goals (first|assumption|wp_step))
   refine fw (lG (R:=Qg s PS E) dN.init.plain F.entry_set_init (check_set_init_1 ty0 ?_)) λr2 s2 hr2=>?_
   ·obtain⟨oc,od,oda,osl⟩:=o;cases hc;have e1:(s.heap.push (xn led)).get? ax=some { cls:=.type T,dict:=od,data:=oda,slots:=osl }:=aK _ ho;unfold dP.«set.__init__» noKeywords nR;generalize gP:pyIter=PP
    wp_walk
    subst gP;refine itr _ _ _ _ e1 ?_;refine au (wpAny_runValue ?_);have ez:(s.heap.push (xn led)).objs.size=s.heap.objs.size+1:=dh _ _;show codeAny _ _ (.builtin "set.update.loop" ⟨[.ref s.heap.objs.size,.ref (s.heap.push (xn led)).objs.size],[]⟩) _ _;rw[ez];refine fil _ _ λh2 k2 S2 kk=>?_;show wpAny _ _ _ _ _ _;refine aD ?_;show wpAny _ _ (ret Value.none) _ _ _;exact aD ⟨rfl,h2,k2,rfl,S2,kk⟩
   ·cases r2 with
    |error e=>exact hr2
    |ok fl2=>
     cases fl2 with
     |ret r=>
      obtain⟨rfl,h2,k2,rfl,S2,kk⟩:=hr2
      repeat (any_goals (first|assumption|wp_step))
      exact h _ _ S2 kk
     |_=>exact hr2.elim
  |_=>exact hr.elim
end
section
variable{X:Cx}{G:Bg}{H:Hp}{pins:cy}{σ:St}{s:af}
theorem Nc{k:Key}{v:ae}(h:(oQ P w).is k v=true):v.scannable=true:=by rcases pP h with ⟨i,t,_,rfl⟩|⟨x,t,_,rfl⟩<;>rfl
theorem Nd{ks:List Key}(r:Vals (ks.map kV) its)(hb:ks.length+1<scanBound):WY X.prog X.w s.heap a its.toArray ks:=by
 have hl:ks.length=its.length:=by have:=r.length;rw[ah]at this;exact this
 refine⟨by rw[bf];exact hl,λi v hi hv=>?_,by rw[bf];omega⟩;have e:(ks.map kV)[i]?=some (kV ks[i]):=by rw[bj,aL hi];rfl
 obtain⟨u,hu,ru⟩:=r.get e;have eu:v=u:=by rw[List.getElem?_toArray]at hv;rw[hv]at hu;exact cf hu
 subst eu;have:=AK (P:=X.prog) (w:=X.w) ru;exact⟨this,Nc this⟩
theorem RA{ks:List Key}(I:Inv X pins σ H s)(h:SqT X.K H a (ks.map kV)):TK X.prog X.w s.heap ks a:=by
 obtain⟨its,r,p,_⟩:=I.tuple h;obtain⟨o,ho,hc,n,hd⟩:=p;refine⟨o,_,n,ho,hc,hd,?_⟩;have gen:∀(ks:List Key) (its:List ae),Vals (ks.map kV) its->PySem.ItemsAre (oQ X.prog X.w) ks its:=λks=>by
  induction ks with
  |nil=>intro its r;cases r;exact .nil
  |cons k ks ih=>intro its r;cases r with|cons h1 h2=>exact .cons (AK h1) (ih _ h2)
 exact gen ks its r
def TB(K:aw)(H:Hp)(a:Addr)(n:Nat):Prop:=∃ks,(SqL K H a (ks.map kV)\/SqT K H a (ks.map kV))/\ks.length+1<scanBound/\n=(uV ks).length
def TC(K:aw)(H:Hp)(a:Addr)(n:Nat):Prop:=TB K H a n\/
 ∃(p q:Addr) (k1 k2:List Key),SqL K H a [.ref p,.ref q]/\SqT K H p (k1.map kV)/\SqT K H q (k2.map kV)/\k1≠k2/\n=2
def TF(X:Cx)(S:aw->Hp->Addr->Nat->Prop):Prop:=∀{pins:cy} {σ:St} {H:Hp} {s:af} {A:aQ} {E:ae->af->Prop} {Q:ae->af->Prop} {a:Addr} {n:Nat},Inv X pins σ H s->A.handled=none->A.units+8<cLine->S X.K H a n->
 (∀h2 k2,Tx h2 s.heap.objs.size n->(∀b o,b<s.heap.objs.size->s.heap.get? b=some o->h2.get? b=some o)->Q (.ref s.heap.objs.size) { s with heap:=h2,toks:=k2 })->wpAny (model X.prog X.w) A (call (.type "set") [.ref a]) Q E s
theorem WZ:TF X (TB):=by
 intro pins σ H s A E Q a n I hh hu hq h;have h3:A.in1.in1.in1.handled=none:=by simp[hh]
 have gt:∀{h2:Heap} {ks:List Key},h2.SetOf (oQ X.prog X.w) s.heap.objs.size (inK ks) (uV ks).length->Tx h2 s.heap.objs.size (uV ks).length:=λS=>by obtain⟨o,es,ep,t,ho,hex,hd,_,_,hz,hf,hn⟩:=S;exact⟨o,es,ep,t,ho,hex,hd,hz,hf,hn⟩
 have it:∀{o:Obj} {led:Bool},o.isFreed=false->((s.heap.push (xn led)).push o).get? (s.heap.objs.size+1)=some o:=λ{o led} z=>by rw[show s.heap.objs.size+1=(s.heap.push (xn led)).objs.size from(dh _ _).symm];exact bu _ z
 obtain⟨ks,hq|hq,hb,rfl⟩:=hq
 ·obtain⟨its,r,p,_⟩:=I.list hq;obtain⟨o,ho,hc,n,hd⟩:=p.isList;have hne:a≠s.heap.objs.size+1:=aX (cX (aN ho));refine Cy ho hc F.sub_list_set lH (by decide) (itO:={ cls:=.type "list_iterator", data:=.fields #[.ref a,.int 0 0] })
   (λA Q E s1 e k=>fT ⟨o,e,hc,n,hd⟩ k) (λtk R hR=>GF (Nd r hb) (aN ho) (iy h3 _ a hne its.toArray) ⟨⟨_,it rfl,rfl,rfl⟩,⟨o,aK _ (aK _ ho),hc,n,hd⟩⟩ (λh2 k2 S=>hR h2 k2 (gt S)) tk) h
 ·obtain⟨its,r,p,_⟩:=I.tuple hq;obtain⟨o,ho,hc,n,hd⟩:=p;have hne:a≠s.heap.objs.size+1:=aX (cX (aN ho));refine Cy ho hc sub_tuple_set sub_tuple_frozenset (by decide) (itO:={ cls:=.type "tuple_iterator", data:=.fields #[.ref a,.int 0 0] })
   (λA Q E s1 e k=>lV ⟨o,e,hc,n,hd⟩ k) (λtk R hR=>GF (Nd r hb) (aN ho) (Walks.tuple h3 _ a hne its.toArray) ⟨⟨_,it rfl,rfl,rfl⟩,⟨o,aK _ (aK _ ho),hc,n,hd⟩⟩ (λh2 k2 S=>hR h2 k2 (gt S)) tk) h
theorem W0:TF X (TC):=by
 intro pins σ H s A E Q a n I hh hu hq h;rcases hq with hq|⟨p,q,k1,k2,hq,h1,h2,ne,rfl⟩
 ·exact WZ I hh hu hq h
 have h3:A.in1.in1.in1.handled=none:=by simp[hh]
 have it:∀{o:Obj} {led:Bool},o.isFreed=false->((s.heap.push (xn led)).push o).get? (s.heap.objs.size+1)=some o:=λ{o led} z=>by rw[show s.heap.objs.size+1=(s.heap.push (xn led)).objs.size from(dh _ _).symm];exact bu _ z
 obtain⟨its,r,pp,_⟩:=I.list hq;obtain⟨o,ho,hc,n,hd⟩:=pp.isList;have hne:a≠s.heap.objs.size+1:=aX (cX (aN ho));obtain⟨u,v,rfl,ru,rv⟩:∃u v,its=[u,v]/\RelV (.ref p) u/\RelV (.ref q) v:=by cases r with|cons c1 r=>cases r with|cons c2 r=>cases r;exact⟨_,_,rfl,c1,c2⟩
 cases ru;cases rv;have t1:=RA I h1;have t2:=RA I h2;have far:∀{b:Addr} {ks:List Key},TK X.prog X.w s.heap ks b->b∉s.heap.objs.size::[s.heap.objs.size+1]:=λ{b ks} t z=>by
  obtain⟨o,_,_,e,_⟩:=t;have:=aN e;rcases aM.mp z with z|z
  ·exact ao z (aX this)
  ·exact ao (aO.mp z) (aX (cX this))
 have notin:s.heap.objs.size∉[s.heap.objs.size+1,a]:=by
  intro z;rcases aM.mp z with z|z
  ·exact ao z (aX (dE _))
  ·exact ao (aO.mp z) (fq (aN ho))
 refine Cy ho hc F.sub_list_set lH (by decide) (itO:={ cls:=.type "list_iterator", data:=.fields #[.ref a,.int 0 0] })
  (λA Q E s1 e k=>fT ⟨o,e,hc,n,hd⟩ k) (λtk R hR=>?_) h
 have ke:∀{b:Addr} {o':Obj},s.heap.get? b=some o'->((s.heap.push (xn (!X.w.params.followText "set-order"))).push { cls:=.type "list_iterator", data:=.fields #[.ref a,.int 0 0] }).get? b=some o':=λe=>aK _ (aK _ e);refine Ld (iy h3 _ a hne #[.ref p,.ref q]).toS notin ne (far t1) (far t2) (λv e=>(cf e).symm) (λv e=>(cf e).symm) (by show A.units+1+1+1<cLine;omega) ⟨⟨_,it rfl,rfl,rfl⟩,⟨o,ke ho,hc,n,hd⟩⟩ (t1.kept λo=>ke) (t2.kept λo=>ke)
  (aK _ (bu _ rfl)) ⟨rfl,rfl,rfl⟩ rfl λs2 mv S2=>?_
 obtain⟨h2,g2,d2,k2,o2⟩:=s2;have eg:g2=s.gens:=mv.gens;have ed:d2=s.drawn:=mv.drawn;have eo:o2=s.os:=mv.os;subst eg ed eo;exact hR h2 k2 S2 λb o hb e=>mv.heap b o (λz=>by
  rcases aM.mp z with z|z
  ·exact ao z (aX hb)
  ·exact ao (aO.mp z) (aX (cX hb))) (ke e)
def Fe(S:aw->Hp->Addr->Nat->Prop)(K:aw)(te:TE):TE:=λσ H Q=>te σ H λx H1=>∃a n,x=.ref a/\S K H1 a n/\Q (.int n) H1
theorem Le(hV:TF X S)(hu:X.A.units+64<cLine)(hc:X.calm=true)(g1:Gl X "len")(m1:X.mg "len" = none)(g2:Gl X "set")(m2:X.mg "set" = none)(he:PE X e te)
  (z1:starEach [Expr.Call (.Name "set" p2) [e] [] p3] X.env=[(false,eval (.Call (.Name "set" p2) [e] [] p3) X.env)]:=by rfl) (z2:starEach [e] X.env=[(false,eval e X.env)]:=by rfl):PE X (.Call (.Name "len" p1) [.Call (.Name "set" p2) [e] [] p3] [] p4) (Fe S X.K te):=by
 intro pins s σ H Q I h;refine dD (yR I g1 m1 mN ?_ (by decide) (by decide));refine callWith_builtin1 ?_ z1 rfl;rw[z1];show wpAny _ _ (spliced [(false,eval (.Call (.Name "set" p2) [e] [] p3) X.env)]) _ _ s;refine fS ?_;refine dD (yR I g2 m2 Pv.boot_set ?_ (by decide) (by decide));refine callWith_type1 (thn (qg he uA z2 p3 pins s σ H (λvs H1=>match vs with
  |[x]=>∃a n,x=.ref a/\S X.K H1 a n/\Q (.int n) H1
  |_=>False) I h) λus s1 ⟨vs,H1,I1,r1,q1⟩=>?_) z2 rfl
 match vs,r1,q1 with
 |[x],r1,q1=>
 obtain⟨a,n,e1,hq,q⟩:=q1;subst e1;obtain⟨u,rfl,ru⟩:=vals1 r1;cases ru;refine hV I1 (I1.ok.hd hc) (by omega) hq λh2 k2 S2 kk=>?_;refine gZ ?_;obtain⟨o,es,ep,t,ho,hex,hd,hz,hf,hn⟩:=S2;have I2:Inv X pins σ H1 { s1 with heap:=h2,toks:=k2 }:=I1.kept λb o e=>kk b o (aN e) e;refine call_len_set ho hex hd hf (by unfold scanBound at hz;omega) ⟨.int n,H1,I2.tok _,⟨_,by rw[hn]⟩,q⟩
def yH:az->Option (List Key)
 |[]=>some []
 |d::ds=>match Am d,yH ds with
  |some k,some ks=>some (k::ks)
  |_,_=>none
theorem yn:∀{ds:az} {xs:bA} {ks:List Key},oh G H ds xs->yH ds=some ks->xs=ks.map kV
 |[],xs,ks,r,e=>by cases e;unfold oh at r;exact r
 |d::ds,xs,ks,r,e=>by
  unfold yH at e;cases e1:Am d with
  |none=>rw[e1]at e;cases e
  |some k=>
   cases e2:yH ds with
   |none=>rw[e1,e2]at e;cases e
   |some ks'=>rw[e1,e2]at e;cases e;unfold oh at r;obtain⟨v,r',rfl,h1,h2⟩:=r;rw[zt h1 e1,yn h2 e2];rfl
def sE(ds:az):Option D:=match yH ds with
 |some ks=>if ks.length<=1000 then some (.int (uV ks).length)else none
 |none=>none
def TH:az->Option D
 |[.tup x,.tup y]=>match yH x,yH y with
  |some k1,some k2=>if k1=k2 then none else some (.int 2)
  |_,_=>none
 |_=>none
def CA(g:az->Option D):D->Option D
 |.lst ds=>match sE ds with
  |some r=>some r
  |none=>g ds
 |.tup ds=>sE ds
 |.fzl ds=>sE ds
 |_=>none
abbrev Fg:D->Option D:=CA TH
theorem Qh{g:az->Option D}(h:sE ds=some r):CA g (.lst ds)=some r:=by show (match sE ds with|some r=>some r|none=>g ds)=some r;rw[h]
theorem Ir{g:az->Option D}(hK:X.K=G.K)(hO:∀{H a n},TB X.K H a n->S X.K H a n)
  (hg:∀{ds d H1 H1' a xs},g ds=some d->SqL X.K H1' a xs->oh G H1 ds xs->oB H1 H1'->∃n:Nat,S X.K H1' a n/\d=.int n)
  (h:PE X e (Fe S X.K (tF G f))):PE X e (tF G (c1 (CA g) f)):=PE.weak h λσ H Q hh=>by
 obtain⟨F,ρ,H0,d,ρ',R,e,k⟩:=hh;obtain⟨x,e1,e2⟩:=BO e;have key:∀{ds:az} {xs:bA} {a:Addr} {H1 H1':Hp},sE ds=some d->oh G H1 ds xs->oB H0 H1->oI G F σ ρ' H1 H1'->(SqL X.K H1' a xs\/SqT X.K H1' a xs)->
   ∃a' n,V.ref a=.ref a'/\S X.K H1' a' n/\Q (.int n) H1':=λ{ds xs a H1 H1'} ed rs s R' hq=>by
  unfold sE at ed;cases ek:yH ds with
  |none=>rw[ek]at ed;cases ed
  |some ks=>
   rw[ek]at ed;simp only at ed;split at ed
   ·rename_i hl;cases ed;rw[yn rs ek]at hq;exact⟨a,_,rfl,hO ⟨ks,hq,by unfold scanBound;omega,rfl⟩,k _ _ _ s R' (qT _)⟩
   ·cases ed
 refine⟨F,ρ,H0,x,ρ',R,e1,λv H1 H1' s R' r=>?_⟩;cases x with
 |lst ds=>
  unfold Rep at r;obtain⟨a,xs,rfl,h1,h2⟩:=r;have hq:SqL X.K H1' a xs:=SqL.of (R'.sub _ _ h1);replace e2:(match sE ds with|some r=>some r|none=>g ds)=some d:=e2;cases e3:sE ds with
  |some r=>rw[e3]at e2;cases e2;exact key e3 h2 s R' (.inl hq)
  |none=>rw[e3]at e2;obtain⟨n,h3,rfl⟩:=hg e2 hq h2 R'.sub;exact⟨a,n,rfl,h3,k _ _ _ s R' (qT _)⟩
 |tup ds=>unfold Rep at r;obtain⟨a,xs,rfl,h1,h2⟩:=r;rw[<-hK]at h1;exact key e2 h2 s R' (.inr (SqT.mono R'.sub h1))
 |fzl ds=>unfold Rep at r;obtain⟨a,xs,rfl,h1,h2⟩:=r;rw[<-hK]at h1;exact key e2 h2 s R' (.inl (R'.sub.seq h1))
 |_=>cases e2
theorem Qi(hK:X.K=G.K):∀{ds d H1 H1' a xs},TH ds=some d->SqL X.K H1' a xs->oh G H1 ds xs->oB H1 H1'->∃n:Nat,TC X.K H1' a n/\d=.int n:=λ{ds d H1 H1' a xs} e2 hq h2 s=>by
 unfold TH at e2;split at e2
 ·rename_i x y;split at e2
  ·rename_i k1 k2 f1 f2;split at e2
   ·cases e2
   ·rename_i ne;cases e2;unfold oh oh oh at h2;obtain⟨v1,r1,rfl,c1,v2,r2,rfl,c2,rfl⟩:=h2;unfold Rep at c1 c2;obtain⟨p,ys,rfl,d1,d2⟩:=c1;obtain⟨q,zs,rfl,d3,d4⟩:=c2;rw[<-hK,yn d2 f1]at d1;rw[<-hK,yn d4 f2]at d3;exact⟨2,.inr ⟨p,q,k1,k2,hq,SqT.mono s d1,SqT.mono s d3,ne,rfl⟩,rfl⟩
  ·cases e2
 ·cases e2
theorem Lf(hK:X.K=G.K)(h:PE X e (Fe TC X.K (tF G f))):PE X e (tF G (c1 Fg f)):=Ir hK .inl (Qi hK) h
end
theorem Fh{k:Key}{v:ae}(h:(oQ P w).is k v=true):RelV (kV k) v:=by
 rcases pP h with ⟨i,t,rfl,rfl⟩|⟨x,t,rfl,rfl⟩
 ·exact⟨t,rfl⟩
 ·exact⟨t,rfl⟩
def Itd(a:Addr)(o:Obj)(kvs:List (Key×V)):It:=
 ⟨λi H=>i<kvs.length/\H a=some (.frz o (.dK kvs)),λi H x H'=>H'=H/\∃k z,kvs[i]?=some (k,z)/\x=kV k,λi H=>kvs.length<=i/\H a=some (.frz o (.dK kvs))⟩
section
variable{X:Cx}{pins:cy}{σ:St}{H:Hp}{s:af}
theorem uZ(I:Inv X pins σ H s)(e:H a=some (.frz o (.dK kvs)))(hd:o.data=.dict es ep):
  (a==sysModules)=false/\s.heap.get? a=some o/\∃vs,KV kvs vs/\s.heap.DictAt (oQ X.prog X.w) a vs ep:=by
 obtain⟨q0,_,y,vs,r,ob,es',ep',q1,q2,q3,q4⟩:=(show pI X.prog X.w H s.heap a (.frz o (.dK kvs)) from I.hok a _ e);rw[q0]at q1;cases q1;rw[hd]at q3;cases q3;exact⟨y,q0,vs,r,o,es,q0,q2,hd,q4⟩
theorem TJ{kvs:List (Key×V)}{vs:List (Key×ae)}(r:KV kvs vs){i:Nat}{k:Key}{x:ae}(e:vs[i]?=some (k,x)):∃z,kvs[i]?=some (k,z):=by
 induction r generalizing i with
 |nil=>cases e
 |@cons p q l l' h _ ih=>
  cases i with
  |zero=>obtain⟨pk,pv⟩:=p;cases e;exact⟨pv,by rw[show pk=k from h.1];rfl⟩
  |succ i=>exact ih e
end
theorem Lg{K:aw}(a it:Addr)(o:Obj)(kvs:List (Key×V)):Turn P w K tg (Itd a o kvs) [it] it (λi h=>∃es ep,o.data=.dict es ep/\h.IsKeyIter it a i kvs.length ep) where
 mem:=by simp
 obj:=λi h st b hb=>by
  have e:b=it:=by simpa using hb
  subst e;obtain⟨es,ep,hd,ob,e,c,d⟩:=st;exact⟨ob,e,λv z=>by rw[d]at z;cases z⟩
 keep:=λi h h' st k=>by obtain⟨es,ep,hd,x⟩:=st;exact⟨es,ep,hd,x.at λo e=>k it (by simp) o e⟩
 item:=by
  intro X hP hw hK hc i pins s σ H E I hf st hg;subst hP hw hK;obtain⟨hi,he⟩:=hg;obtain⟨es,ep,hd,ki⟩:=st;obtain⟨f0,f1,f2,f3,f4,f5⟩:=hf it (by simp);obtain⟨_,_,vs,r,da⟩:=uZ I he hd;have hl:kvs.length=vs.length:=r.length;have hne:a≠it:=λz=>by subst z;rw[he]at f0;cases f0
  have W:=mO (knd:=oQ X.prog X.w) (A:=X.A) (I.ok.hd hc) it a hne vs ep;refine W.item i s _ _ (by omega) ⟨by rw[<-hl];exact ki,da⟩ λv h' tk hv st' kk=>?_;obtain⟨k,x,hx,hk⟩:=hv;obtain⟨z,hz⟩:=TJ r hx;have I1:Inv X pins σ H { s with heap:=h',toks:=tk }:=I.turned (λb o hb e=>kk b o (by simpa using hb) e) f0 f1 f3 f4 f5;obtain⟨ki',_⟩:=st';rw[<-hl]at ki';obtain⟨ob,e,c,d⟩:=id ki';exact⟨v,rfl,Jp (s:={ s with heap:=h',toks:=tk }) e c d (by decide) ⟨kV k,H,I1,Fh hk,⟨rfl,k,z,hz,rfl⟩,⟨es,ep,hd,ki'⟩,λb hb=>(hf b hb).1⟩⟩
 done:=by intro X hP hw hK hc i pins s σ H E I hf st hg;subst hP hw hK;obtain⟨hi,he⟩:=hg;obtain⟨es,ep,hd,ki⟩:=st;obtain⟨f0,f1,f2,f3,f4,f5⟩:=hf it (by simp);obtain⟨_,_,vs,r,da⟩:=uZ I he hd;have hl:kvs.length=vs.length:=r.length;exact wpAny_pyNext_dict_end (I.ok.hd hc) (by rw[<-hl];exact ki) da (fP (by rw[<-hl];exact hi)) λh' eb=>⟨rfl,I.turned (t':=s.toks) (λb o hb e=>eb b o hb e) f0 f1 f3 f4 f5⟩
 self:=λ_ _ _ _ _ st h=>by obtain⟨es,ep,hd,ki⟩:=st;exact wpAny_pyIter_keyiter ki h
section
variable{X:Cx}{G:Bg}{tg:Expr}
def W1(tl:TE):TI:=λσ H R=>tl σ H λx H1=>∃a o kvs,x=.ref a/\H1 a=some (.frz o (.dK kvs))/\R (Itd a o kvs) H1
theorem Qj(hl:PE X l tl):PI X tg l (W1 tl):=by
 intro pins s σ H R I h;refine thn (hl pins s σ H _ I h) λv s1 zz=>?_;obtain⟨x,H1,I1,r1,q1⟩:=zz;obtain⟨a,o,kvs,e,he,q⟩:=q1;subst e;cases r1;obtain⟨q0,_,y,vs,r,ob,es,ep,e1,e2,e3,e4⟩:=(show pI X.prog X.w H1 s1.heap a (.frz o (.dK kvs)) from I1.hok a _ he);rw[q0]at e1;cases e1;have hl:kvs.length=vs.length:=r.length;refine mf (knd:=oQ X.prog X.w) (kvs:=vs) (ep:=ep) y ⟨o,es,q0,e2,e3,e4⟩ ?_;refine⟨s1.heap.objs.size,[s1.heap.objs.size],_,_,H1,rfl,I1.kept (t':=s1.toks) λb o e=>aK _ e,Lg a _ o kvs,⟨es,ep,e3,⟨_,bu _ rfl,rfl,by rw[hl];rfl⟩⟩,λb hb=>?_,q⟩;have e:b=s1.heap.objs.size:=by simpa using hb
 subst e;exact I1.fpOk (aG _) (I1.hok.fresh (aG _))
def Iu:Key->D
 |.inl i=>.int i
 |.inr x=>.str x
theorem JR(k:Key):Rep G H (Iu k) (kV k):=by
 cases k with
 |inl i=>exact qT i
 |inr x=>exact wc x
def iD(f:FE):FA:=λρ=>match f ρ with
 |some (.dic ks ds,ρ1)=>if ks.length=ds.length then some (ks.map Iu,ρ1)else none
 |_=>none
theorem Nf(h:PI X tg e (W1 (tF G f))):PI X tg e (tFI G (iD f)):=PI.weak h λσ H R hh=>by
 obtain⟨F,ρ,H0,ds,ρ',R,e,k⟩:=hh;unfold iD at e;split at e
 ·rename_i ks ds' ρ1 e1;split at e
  ·rename_i hlen;cases e;refine⟨F,ρ,H0,_,_,R,e1,λv H1 H1' s R' r=>?_⟩;unfold Rep at r;obtain⟨a,o,xs,rfl,r1,r2,r3⟩:=r;have hz:(ks.zip xs).length=ks.length:=by rw[eD,<- r2,dM]
   refine⟨a,o,_,rfl,R'.sub _ _ r1,k _ _ _ s R' λi H2 H2' t t'=>⟨λd ed=>?_,λhl=>?_⟩⟩
   ·rw[bj]at ed;cases ek:ks[i]? with
    |none=>rw[ek]at ed;cases ed
    |some j=>
     rw[ek]at ed;cases ed;have hi:i<ks.length:=(bQ.mp ek).1;refine⟨⟨by rw[hz];exact hi,t' _ _ (t _ _ r1)⟩,λz H3 y=>?_⟩;obtain⟨e3,k',z',hk',rfl⟩:=y;subst e3;have:k'=j:=by rw[kY]at hk';have:=hk'.1;rw[ek]at this;exact(cf this).symm
     subst this;exact⟨H2,oB.refl _,t',oB.refl _,λb o e=>.inl e,JR _⟩
   ·refine⟨by rw[hz,hl,ah];exact aG _,t' _ _ (t _ _ r1)⟩
  ·cases e
 ·cases e
end
section
variable{X:Cx}{pins:cy}{σ:St}{H:Hp}{s:af}
theorem Inv.turnedLaid{h':Heap}{T:Addr}{xs:bA}{t':Nat}{ch:List Addr}(I:Inv X pins σ H s)(hf:∀b∈ch,DH X pins H b)(k:∀b o,b∉ch->s.heap.get? b=some o->h'.get? b=some o)
  (hT:s.heap.objs.size<=T) (new:pI X.prog X.w (upd H T (.tup xs)) h' T (.tup xs)):Inv X pins σ (upd H T (.tup xs)) { s with heap:=h',toks:=t' }:=by
 have nT:H T=none:=I.hok.fresh hT;have ne:∀{b:Addr} {u:HO},H b=some u->b≠T:=λe z=>by subst z;rw[nT]at e;cases e
 have nch:∀{b:Addr} {u:HO},H b=some u->b∉ch:=λe z=>by have:=(hf _ z).1;rw[e]at this;cases this
 have lt:∀{b:Addr} {o:Obj},s.heap.get? b=some o->b≠T:=λe z=>by subst z;exact ao (bZ (aN e) hT) (di _)
 refine I.step (g':=s.gens) (d':=s.drawn) (ch:=ch) (λb hb=>?_) (λb o _ _ hc e _=>k b o hc e) (λb o _ _ hc e _=>⟨o.slots,k b o hc e⟩) (λb o _ e n=>by rw[oo (lt e)];exact n) (λb o hc e=>⟨o,k b o hc e⟩)
  (λb ys e=>by rw[oo (ne e)];exact e) (λb o u e=>by rw[oo (ne e)];exact e) (λb ps e=>⟨#[],by rw[oo (ne e),e];simp⟩) (λm hm=>?_) (λb u e=>?_) I.bare
 ·obtain⟨f0,f1,f2,f3,f4,f5⟩:=hf b hb;exact⟨f3,f1,f4,f5⟩
 ·exact hm.at' λo e=>k _ o (λz=>(hf _ z).2.1 rfl) e
 ·by_cases hb:b=T
  ·subst hb;rw[om]at e;cases e;exact new
  ·rw[oo hb]at e;refine(I.hok b u e).stay (λc v hc q=>k c v ?_ q) (λc q=>by rw[oo (ne q)];exact q) λc ys q=>by rw[oo (ne q)];exact q
   rcases hc with rfl|hc
   ·exact nch e
   ·exact nch hc
def Itz(l1 l2:Addr):It:=
 ⟨λi H=>∃xs ys x y,H l1=some (.lst xs)/\H l2=some (.lst ys)/\xs[i]?=some x/\ys[i]?=some y,
  λi H v H'=>∃p x y,H p=none/\v=.ref p/\H'=upd H p (.tup [x,y])/\(∀xs,H l1=some (.lst xs)->xs[i]?=some x)/\∀ys,H l2=some (.lst ys)->ys[i]?=some y,
  λi H=>∃xs ys,H l1=some (.lst xs)/\H l2=some (.lst ys)/\(xs.length<=i\/ys.length<=i)⟩
end
structure Ng(z TI TO i1 i2:Addr):Prop where
 a:TI≠z
 b:TO≠z
 c:i1≠z
 d:i2≠z
 e:TI≠TO
 f:TI≠i1
 g:TI≠i2
 h:TO≠i1
 i:TO≠i2
 j:i1≠i2
theorem TL(n:Nat):Ng (n+4) (n+2) (n+3) n (n+1) where
 a:=(by omega:(n+2:Nat)≠n+4)
 b:=(by omega:(n+3:Nat)≠n+4)
 c:=(by omega:(n:Nat)≠n+4)
 d:=(by omega:(n+1:Nat)≠n+4)
 e:=(by omega:(n+2:Nat)≠n+3)
 f:=(by omega:(n+2:Nat)≠n)
 g:=(by omega:(n+2:Nat)≠n+1)
 h:=(by omega:(n+3:Nat)≠n)
 i:=(by omega:(n+3:Nat)≠n+1)
 j:=(by omega:(n:Nat)≠n+1)
def zTn(z TI TO i1 i2 l1 l2:Addr)(i:Nat)(h:Heap):Prop:=IsZip h z TI TO .none/\IsPair h TI (.ref i1) (.ref i2)/\(∃a b,IsPair h TO a b)/\h.IsListIter i1 l1 i/\h.IsListIter i2 l2 i
theorem Nh{P:aS}{w:aI}{K:aw}{elts:List Expr}{x1}{pos:Pos}{z TI TO i1 i2 l1 l2:Addr}(D:Ng z TI TO i1 i2):Turn P w K (.Tuple elts x1 pos) (Itz l1 l2) [z,TI,TO,i1,i2] z (zTn z TI TO i1 i2 l1 l2) where
 mem:=by simp
 obj:=λi h st b hb=>by
  obtain⟨hz,h1,⟨a,c,h2⟩,⟨o3,h3,_,d3⟩,⟨o4,h4,_,d4⟩⟩:=st;simp only[aM,bO,or_false]at hb;rcases hb with rfl|rfl|rfl|rfl|rfl
  ·exact⟨_,hz,λv y=>nomatch y⟩
  ·exact⟨_,h1,λv y=>nomatch y⟩
  ·exact⟨_,h2,λv y=>nomatch y⟩
  ·exact⟨o3,h3,λv y=>by rw[d3]at y;cases y⟩
  ·exact⟨o4,h4,λv y=>by rw[d4]at y;cases y⟩
 keep:=λi h h' st k=>by obtain⟨hz,h1,⟨a,c,h2⟩,h3,h4⟩:=st;exact⟨k z (by simp) _ hz,k TI (by simp) _ h1,⟨a,c,k TO (by simp) _ h2⟩,h3.at λo e=>k i1 (by simp) o e,h4.at λo e=>k i2 (by simp) o e⟩
 item:=by
  intro X hP hw hK hc i pins s σ H E I hf st hg;subst hP hw hK;obtain⟨xs,ys,x,y,q1,q2,qx,qy⟩:=hg;obtain⟨hz,hTI,⟨a,b,hTO⟩,h1,h2⟩:=st;obtain⟨its,r1,p1,_⟩:=I.list (SqL.of q1);obtain⟨jts,r2,p2,_⟩:=I.list (SqL.of q2);obtain⟨u1,hu1,ru1⟩:=r1.get qx;obtain⟨u2,hu2,ru2⟩:=r2.get qy;have nf:∀{l:Addr} {u:HO} {c:Addr},H l=some u->c∈[z,TI,TO,i1,i2]->l≠c:=λe hm w=>by subst w;have:=(hf _ hm).1;rw[e]at this;cases this
  have DD:ZipApart z TI TO i1 i2 l1 l2:=⟨D.a,D.b,D.c,D.d,D.e,D.f,D.g,D.h,D.i,D.j,nf q1 (by simp),nf q1 (by simp),nf q1 (by simp),nf q1 (by simp),nf q2 (by simp),nf q2 (by simp),nf q2 (by simp),nf q2 (by simp)⟩;refine wpAny_pyNext_zip_item DD hz hTI hTO h1 h2 p1.isList p2.isList (x:=u1) (y:=u2) (by simpa using hu1) (by simpa using hu2) λh' a1 a2 a3 a4 a5 a6 kk=>?_;refine⟨_,rfl,wpAny_letOwnedTupleGo_zip (s:={ s with heap:=h' }) a1 λh2' hz' sb=>?_⟩;have lt:∀{c:Addr} {o:Obj},s.heap.get? c=some o->s.heap.objs.size≠c:=λe w=>ao (aN e) (by rw[w];exact di _);have Tz:s.heap.objs.size≠z:=lt hz;have hp:IsPair h2' s.heap.objs.size u1 u2:=sb.extBut _ _ Tz a5;have ch4:∀b∈[z,TO,i1,i2],b∈[z,TI,TO,i1,i2]:=λb hb=>by simp at hb ⊢;rcases hb with rfl|rfl|rfl|rfl<;>simp
  have ok:pI X.prog X.w (upd H s.heap.objs.size (.tup [x,y])) h2' s.heap.objs.size (.tup [x,y]):=⟨by rw[bJ];show 2<=16777216;decide,[u1,u2],.cons ru1 (.cons ru2 .nil),_,hp,rfl,_,rfl⟩;have I1:=Inv.turnedLaid (h':=h2') (t':=s.toks) (T:=s.heap.objs.size) (xs:=[x,y]) (ch:=[z,TO,i1,i2]) I (λb hb=>hf b (ch4 b hb))
   (λb o hb e=>sb.extBut _ _ (λw=>hb (by simp[w])) (kk b o (λw=>hb (by simp[w])) (λw=>hb (by simp[w])) (λw=>hb (by simp[w])) (λw=>hb (by simp[w])) e)) (aG _) ok
  refine⟨.ref s.heap.objs.size,_,I1,rfl,⟨_,x,y,I.hok.fresh (aG _),rfl,rfl,λxs' e=>?_,λys' e=>?_⟩,⟨hz',sb.extBut _ _ D.a (kk _ _ D.a D.e D.f D.g hTI),⟨_,_,sb.extBut _ _ D.b a2⟩,a3.extBut sb.extBut D.c,a4.extBut sb.extBut D.d⟩,λb hb=>?_⟩
  ·rw[q1]at e;cases e;exact qx
  ·rw[q2]at e;cases e;exact qy
  ·rw[oo (λw=>?_)]
   ·exact(hf b hb).1
   ·simp only[aM,bO,or_false]at hb;rcases hb with hb|hb|hb|hb|hb
    ·exact lt hz (w.symm.trans hb)
    ·exact lt hTI (w.symm.trans hb)
    ·exact lt hTO (w.symm.trans hb)
    ·obtain⟨o,e,_⟩:=h1;exact lt e (w.symm.trans hb)
    ·obtain⟨o,e,_⟩:=h2;exact lt e (w.symm.trans hb)
 done:=by
  intro X hP hw hK hc i pins s σ H E I hf st hg;subst hP hw hK;obtain⟨xs,ys,q1,q2,hend⟩:=hg;obtain⟨hz,hTI,⟨a,b,hTO⟩,h1,h2⟩:=st;obtain⟨its,r1,p1,_⟩:=I.list (SqL.of q1);obtain⟨jts,r2,p2,_⟩:=I.list (SqL.of q2);have nf:∀{l:Addr} {u:HO} {c:Addr},H l=some u->c∈[z,TI,TO,i1,i2]->l≠c:=λe hm w=>by subst w;have:=(hf _ hm).1;rw[e]at this;cases this
  have DD:ZipApart z TI TO i1 i2 l1 l2:=⟨D.a,D.b,D.c,D.d,D.e,D.f,D.g,D.h,D.i,D.j,nf q1 (by simp),nf q1 (by simp),nf q1 (by simp),nf q1 (by simp),nf q2 (by simp),nf q2 (by simp),nf q2 (by simp),nf q2 (by simp)⟩;have e1:=r1.length;have e2:=r2.length;refine wpAny_pyNext_zip_end (I.ok.hd hc) DD hz hTI hTO h1 h2 p1.isList p2.isList ?_ λh' kk=>⟨rfl,?_⟩
  ·rcases hend with w|w
   ·exact .inl (by simp;omega)
   ·exact .inr (by simp;omega)
  ·have ch4:∀b∈[z,TO,i1,i2],b∈[z,TI,TO,i1,i2]:=λb hb=>by simp at hb ⊢;rcases hb with rfl|rfl|rfl|rfl<;>simp
   have nch:∀{b:Addr} {u:HO},H b=some u->b∉[z,TO,i1,i2]:=λe w=>by have:=(hf _ (ch4 _ w)).1;rw[e]at this;cases this
   have k:∀b o,b∉[z,TO,i1,i2]->s.heap.get? b=some o->h'.get? b=some o:=λb o hb e=>kk b o (λw=>hb (by simp[w])) (λw=>hb (by simp[w])) (λw=>hb (by simp[w])) (λw=>hb (by simp[w])) e;refine I.step (g':=s.gens) (d':=s.drawn) (t':=s.toks) (ch:=[z,TO,i1,i2]) (λb hb=>?_) (λb o _ _ hc e _=>k b o hc e) (λb o _ _ hc e _=>⟨o.slots,k b o hc e⟩) (λb o _ e n=>n) (λb o hc e=>⟨o,k b o hc e⟩)
    (λb ys e=>e) (λb o u e=>e) (λb ps e=>⟨#[],by rw[e];simp⟩) (λm hm=>?_) (λb u e=>?_) I.bare
   ·obtain⟨f0,f1,f2,f3,f4,f5⟩:=hf b (ch4 b hb);exact⟨f3,f1,f4,f5⟩
   ·exact hm.at' λo e=>k _ o (λw=>(hf _ (ch4 _ w)).2.1 rfl) e
   ·refine(I.hok b u e).stay (λc v hc q=>k c v ?_ q) (λc q=>q) λc ys q=>q;rcases hc with rfl|hc
    ·exact nch e
    ·exact nch hc
 self:=λ_ _ _ _ _ st h=>wpAny_pyIter_zip st.1 h
section
variable{X:Cx}{G:Bg}{elts:List Expr}{x1:Nat}{tpos:Pos}
def W2(ta:TA):TI:=λσ H R=>ta σ H λvs H1=>∃a b xs ys,vs=[.ref a,.ref b]/\H1 a=some (.lst xs)/\H1 b=some (.lst ys)/\R (Itz a b) H1
theorem TM(hg:Gl X "zip")(hm:X.mg "zip" = none)(ha:PA X [a,b] ta)(hs:starEach [a,b] X.env=[(false,eval a X.env),(false,eval b X.env)]:=by rfl)(hs2:starEach [b] X.env=[(false,eval b X.env)]:=by rfl):
  PI X (.Tuple elts x1 tpos) (.Call (.Name "zip" p) [a,b] [] pos) (W2 ta):=by
 intro pins s σ H R I h;refine Call_ (yR I hg hm boot_zip (callWith_type1 (thn (ha pos pins s σ H _ I h) λus s1 zz=>?_) (by rw[hs,hs2]) (by rw[hs2];rfl)));obtain⟨vs,H1,I1,r1,q1⟩:=zz;obtain⟨a',b',xs,ys,rfl,e1,e2,q⟩:=q1;obtain⟨u,v,rfl,ru,rv⟩:=vals2 r1;cases ru;cases rv;obtain⟨its,_,p1,_⟩:=I1.list (SqL.of e1);obtain⟨jts,_,p2,_⟩:=I1.list (SqL.of e2);refine call_zip_2 p1.isList p2.isList λh' z1 z2 z3 z4 z5 z6 kk=>?_;refine wpAny_pyIter_zip z1 ?_;have I2:Inv X pins σ H1 { s1 with heap:=h' }:=I1.kept (t':=s1.toks) kk;have D:=TL s1.heap.objs.size;refine⟨_,_,_,_,H1,rfl,I2,Nh D,⟨z1,z2,⟨_,_,z3⟩,z4,z5⟩,λc hc=>?_,q⟩;have hc':s1.heap.objs.size<=c:=by simp only[aM,bO,or_false]at hc;rcases hc with rfl|rfl|rfl|rfl|rfl<;>first|exact fY _ _|exact aG _
 exact I1.fpOk hc' (I1.hok.fresh hc')
def zv(ds es:az):az:=c4 (λd e=>D.tup [d,e]) ds es
def iZ(f:FA):FA:=λρ=>match f ρ with
 |some ([.lst ds,.lst es],ρ1)=>some (zv ds es,ρ1)
 |_=>none
theorem GH(ds es:az):(zv ds es).length=min ds.length es.length:=by unfold zv;rw[jl]
theorem Qk(h:PI X tg e (W2 (tFA G f))):PI X tg e (tFI G (iZ f)):=PI.weak h λσ H R hh=>by
 obtain⟨F,ρ,H0,ds,ρ',R,e,k⟩:=hh;unfold iZ at e;split at e
 ·rename_i ds' es' ρ1 e1;cases e;refine⟨F,ρ,H0,_,_,R,e1,λvs H1 H1' s R' rs=>?_⟩;unfold oh at rs;obtain⟨v1,r1,rfl,h1,rs⟩:=rs;unfold oh at rs;obtain⟨v2,r2,rfl,h2,rs⟩:=rs;unfold oh at rs;subst rs;unfold Rep at h1 h2;obtain⟨a,xs,rfl,a1,a2⟩:=h1;obtain⟨b,ys,rfl,b1,b2⟩:=h2;refine⟨a,b,xs,ys,rfl,R'.sub _ _ a1,R'.sub _ _ b1,k _ _ _ s R' λi H2 H2' t t'=>?_⟩;have g1:H2' a=some (.lst xs):=t' _ _ (t _ _ a1);have g2:H2' b=some (.lst ys):=t' _ _ (t _ _ b1);refine⟨λd ed=>?_,λhl=>⟨xs,ys,g1,g2,?_⟩⟩
  ·unfold zv at ed;rw[jd]at ed;cases ex:ds'[i]? with
   |none=>rw[ex]at ed;cases ed
   |some dx=>
    cases ey:es'[i]? with
    |none=>rw[ex,ey]at ed;cases ed
    |some dy=>
     rw[ex,ey]at ed;cases ed;obtain⟨vx,x1',x2⟩:=qj a2 ex;obtain⟨vy,y1',y2⟩:=qj b2 ey;refine⟨⟨xs,ys,vx,vy,g1,g2,x1',y1'⟩,λx H3 y=>?_⟩;obtain⟨p,x',y',hp,rfl,rfl,w1,w2⟩:=y;have e1':=w1 xs g1;have e2':=w2 ys g2;rw[x1']at e1';rw[y1']at e2';cases e1';cases e2';have p0:H2 p=none:=by
      cases q:H2 p with
      |none=>rfl
      |some o=>have:=t' _ _ q;rw[hp]at this;cases this
     refine⟨upd H2 p (.tup [vx,vy]),oF p0 _,λb o e=>?_,oF hp _,λb o e=>?_,yj (SqT.of om) ?_⟩
     ·by_cases hb:b=p
      ·subst hb;rw[om]at e ⊢;exact e
      ·rw[oo hb]at e ⊢;exact t' _ _ e
     ·by_cases hb:b=p
      ·subst hb;exact .inr hp
      ·rw[oo hb]at e;exact .inl e
     ·have m:=t.trans (oF p0 (.tup [vx,vy]));exact oW (Rep.mono m _ _ x2) (oW (Rep.mono m _ _ y2) oZ)
  ·rw[GH]at hl;rw[<-oi a2,<- oi b2];omega
 ·cases e
end
mutual
def noC(N c:Nat):D->Bool
 |.non=>true
 |.bl _=>true
 |.int _=>true
 |.str _=>true
 |.tup ds=>GI N c ds
 |.lst ds=>GI N c ds
 |.fzl ds=>GI N c ds
 |.obj k _ ds=>decide (k<N)&&decide (k≠c)&&GI N c ds
 |.dic _ ds=>GI N c ds
def GI(N c:Nat):az->Bool
 |[]=>true
 |d::ds=>noC N c d&&GI N c ds
end
def without(H:Hp)(a:Addr):Hp:=λb=>if b=a then none else H b
theorem CB(h:b≠a):without H a b=H b:=by unfold without;rw[aj h]
theorem zw(h:without H a b=some o):b≠a/\H b=some o:=by
 unfold without at h;by_cases hb:b=a
 ·rw[ai hb]at h;cases h
 ·rw[aj hb]at h;exact⟨hb,h⟩
theorem rY{v:HO}(ha:H a=some u)(hb:H b=some v)(d:u≠v):without H a b=some v:=by rw[CB (λz=>by subst z;rw[ha]at hb;exact d (cf hb))];exact hb
section
variable{G:Bg}{H:Hp}{a dx:Addr}{fs:List (Str×V)}{N c:Nat}
theorem GK(ha:H a=some (.ins (G.ca c) dx fs))(h:SqT G.K H p xs):SqT G.K (without H a) p xs:=by
 rcases h with (h|⟨o,h⟩)|h
 ·exact .inl (.inl (rY ha h (λz=>nomatch z)))
 ·exact .inl (.inr ⟨o,rY ha h (λz=>nomatch z)⟩)
 ·exact .inr h
theorem GL(ha:H a=some (.ins (G.ca c) dx fs))(h:SqL G.K H p xs):SqL G.K (without H a) p xs:=by
 rcases h with (h|⟨o,h⟩)|h
 ·exact .inl (.inl (rY ha h (λz=>nomatch z)))
 ·exact .inl (.inr ⟨o,rY ha h (λz=>nomatch z)⟩)
 ·exact .inr h
mutual
theorem AU(inj:∀j k,j<N->k<N->G.ca j=G.ca k->j=k)(hc:c<N)(ha:H a=some (.ins (G.ca c) dx fs)):∀(d:D) (v:V),noC N c d=true->Rep G H d v->Rep G (without H a) d v
 |.non,v,_,h=>by unfold Rep at h ⊢;exact h
 |.bl _,v,_,h=>by unfold Rep at h ⊢;exact h
 |.int _,v,_,h=>by unfold Rep at h ⊢;exact h
 |.str _,v,_,h=>by unfold Rep at h ⊢;exact h
 |.tup ds,v,n,h=>by unfold noC at n;unfold Rep at h ⊢;obtain⟨p,xs,e,h1,h2⟩:=h;exact⟨p,xs,e,GK ha h1,rK inj hc ha ds xs n h2⟩
 |.lst ds,v,n,h=>by unfold noC at n;unfold Rep at h ⊢;obtain⟨p,xs,e,h1,h2⟩:=h;exact⟨p,xs,e,rY ha h1 (λz=>nomatch z),rK inj hc ha ds xs n h2⟩
 |.fzl ds,v,n,h=>by unfold noC at n;unfold Rep at h ⊢;obtain⟨p,xs,e,h1,h2⟩:=h;exact⟨p,xs,e,GL ha h1,rK inj hc ha ds xs n h2⟩
 |.obj k ns ds,v,n,h=>by unfold noC at n;simp only[bo,bG]at n;unfold Rep at h ⊢;obtain⟨p,dx',xs,e,h1,h2,h3⟩:=h;refine⟨p,dx',xs,e,rY ha h1 (λz=>?_),h2,rK inj hc ha ds xs n.2 h3⟩;injection z with z1;exact n.1.2 (inj k c n.1.1 hc z1.symm)
 |.dic ks ds,v,n,h=>by unfold noC at n;unfold Rep at h ⊢;obtain⟨p,o,xs,e,h1,h2,h3⟩:=h;exact⟨p,o,xs,e,rY ha h1 (λz=>nomatch z),h2,rK inj hc ha ds xs n h3⟩
theorem rK(inj:∀j k,j<N->k<N->G.ca j=G.ca k->j=k)(hc:c<N)(ha:H a=some (.ins (G.ca c) dx fs)):∀(ds:az) (xs:bA),GI N c ds=true->oh G H ds xs->oh G (without H a) ds xs
 |[],xs,_,h=>by unfold oh at h ⊢;exact h
 |d::ds,xs,n,h=>by unfold GI at n;simp only[bo]at n;unfold oh at h ⊢;obtain⟨v,r,e,h1,h2⟩:=h;exact⟨v,r,e,AU inj hc ha d v n.1 h1,rK inj hc ha ds r n.2 h2⟩
end
end
def y3:Sl->Sl
 |.im d=>.im d
 |_=>.un
def u0(N:Nat)(f:FE):FE:=λρ=>match ρ with
 |.ob c ns ds::r=>match f (.im (.obj c ns ds)::r.map y3)with
  |some (d,_)=>if (decide (c<N)&&noC N c d)=true then some (d,ρ)else none
  |none=>none
 |_=>none
section
variable{X:Cx}{G:Bg}
theorem Iv{s:Sl}:(y3 s).own=false:=by cases s<;>rfl
theorem Ql(inj:∀j k,j<N->k<N->G.ca j=G.ca k->j=k)(h:PE X e (tF G f)):PE X e (tF G (u0 N f)):=PE.weak h λσ H Q hh=>by
 obtain⟨F,ρ,H0,d,ρ',R,e,k⟩:=hh;unfold u0 at e;split at e
 ·rename_i c ns ds r;rcases o5 (f:=f) (ρ:=.im (.obj c ns ds)::r.map y3)with e1|⟨x,ρ1,e1⟩<;>simp only[e1]at e
  ·cases e
  split at e
  ·rename_i hn;cases e;simp only[bo,bG]at hn;obtain⟨a,dx,xs,h1,h2,h3,h4,h5,h6⟩:=R.sl 0 _ rfl;have RL:oI G ⟨upd H0 a (.ins (G.ca c) dx (ns.zip xs)),H,[]⟩ σ (.im (.obj c ns ds)::r.map y3) (upd H0 a (.ins (G.ca c) dx (ns.zip xs))) H:={
    sub:=λb o q=>by
     by_cases hb:b=a
     ·subst hb;rw[om]at q;cases q;exact h2
     ·rw[oo hb]at q;exact R.sub _ _ q
    g0:=oB.refl _
    keep:=λb o q _=>q
    fr:=λb o q=>.inl q
    am:=λb q=>by cases q
    len:=by have:=R.len;simpa using this
    sl:=λi s q=>by
     cases i with
     |zero=>cases q;exact⟨.ref a,h1,by unfold Rep;exact⟨a,dx,xs,rfl,om,h5,oh.mono (oF h3 _) _ _ h6⟩⟩
     |succ i=>
      have q':(r.map y3)[i]?=some s:=q;rw[bj]at q';cases q1:r[i]? with
      |none=>rw[q1]at q';cases q'
      |some t=>
       rw[q1]at q';cases q';have ok:=R.sl (i+1) t q1;cases t with
       |im d=>obtain⟨v,g1,g2⟩:=ok;exact⟨v,g1,Rep.mono (oF h3 _) _ _ g2⟩
       |_=>trivial
    ap:=λi j s t b _ qi _ so=>by
     cases i with
     |zero=>cases qi;cases so
     |succ i=>
      have q':(r.map y3)[i]?=some s:=qi;rw[bj]at q';cases q1:r[i]? with
      |none=>rw[q1]at q';cases q'
      |some t=>rw[q1]at q';cases q';rw[Iv]at so;cases so }
   refine⟨_,_,_,d,ρ1,RL,e1,λv H1 H1' s R' rd=>?_⟩;have ha:H1 a=some (.ins (G.ca c) dx (ns.zip xs)):=s _ _ om;have s0:oB H0 (without H1 a):=λb o q=>by
    have hb:b≠a:=λz=>by subst z;rw[h3]at q;cases q
    rw[CB hb];exact s b o (by rw[oo hb];exact q)
   refine k v (without H1 a) H1' s0 ?_ (AU inj hn.1 ha d v hn.2 rd);refine R.grow (λb o q=>R'.keep b o q (by simp)) s0 (λb o q=>R'.sub _ _ (zw q).2) λb o q=>?_;obtain⟨hb,q⟩:=zw q;rcases R'.fr b o q with z|z
   ·have z':upd H0 a (.ins (G.ca c) dx (ns.zip xs)) b=some o:=z;rw[oo hb]at z';exact .inl z'
   ·exact .inr z
  ·cases e
 ·cases e
end
section
variable{X:Cx}{pins:cy}{σ:St}{H:Hp}{s:af}{a:Addr}{A:aQ}{E:ae->af->Prop}
theorem TN{k:Key}(I:Inv X pins σ H s)(e:H a=some (.dK kvs))(ry:RelV (kV k) u)(rz:RelV z r)(hl:kvs.length<sizeLine)
  (h1:∀v w s',sW kvs k=some v->Inv X pins σ H s'->RelV v w->Q w s') (h2:∀s',sW kvs k=none->Inv X pins σ (upd H a (.dK (putK kvs k z))) s'->Q r s'):
  wpAny (model X.prog X.w) A (call (.builtin "dict.setdefault") [.ref a,u,r]) Q E s:=by
 obtain⟨y,hd,vs,rel,dd⟩:=Mb I.hok e;have hz:vs.length<=sizeLine:=by rw[<-rel.length];exact y
 have hp:(putK kvs k z).length<=sizeLine:=by have:=uW kvs k z;omega
 have rv:=rel.val k;refine ik lu dd.typeIs F.entry_dict_setdefault (F.args_dict_setdefault_3 _ _ _) (kt_meets_setdefault (oQ X.prog X.w) a (AK ry) hd r) ⟨vs,dd,hz,λw hw=>?_,λhn h' dd' hs=>?_⟩
 ·rw[hw]at rv;cases ev:sW kvs k with
  |none=>rw[ev]at rv;exact rv.elim
  |some v=>rw[ev]at rv;exact h1 v w _ ev (I.tok _) rv
 ·rw[hn]at rv;cases ev:sW kvs k with
  |some v=>rw[ev]at rv;exact rv.elim
  |none=>have he:∃q,h'.get? a=some q:=let ⟨q,_,_,hq,_⟩:=dd';⟨q,hq⟩;exact h2 _ ev (BN I (by rw[e];exact True.intro) hs he (HV hp hd (rel.put k rz) dd'))
def Ni(td ty tx:TE):TE:=λσ H Q=>td σ H λx H1=>∃a,x=.ref a/\IsD H1 a/\ty σ H1 λy H2=>tx σ H2 λz H3=>∃kvs k,H3 a=some (.dK kvs)/\y=kV k/\kvs.length<sizeLine/\
 (∀v,sW kvs k=some v->Q v H3)/\(sW kvs k=none->Q z (upd H3 a (.dK (putK kvs k z))))
theorem Nj{ty:TE}(ho:PE X o td)(he:PE X e ty)(hf:PE X f tx)(m:M2 X o "setdefault" apos e f cpos):PE X (.Call (.Attribute o "setdefault" apos) [e,f] [] cpos) (Ni td ty tx):=by
 intro pins s σ H Q I h;refine md m.base m.few m.line jy lu F.type_dict_setdefault (thn (ho pins s σ H _ I h) λu s1 zz=>?_);obtain⟨x,H1,I1,rx,a,ex,d,q1⟩:=zz;subst ex;obtain rfl:u=Value.ref a:=rx;obtain⟨t1,t2,_⟩:=HX I1 d;refine⟨t1,t2,?_⟩;rw[m.trees];refine gX rfl (jg (fS (thn (he pins s1 σ H1 _ I1 q1) λiv s2 ⟨y,H2,I2,ry,q2⟩=>
  fS (thn (hf pins s2 σ H2 _ I2 q2) λfv s3 ⟨z,H3,I3,rz,kvs,k,e3,ey,hl,g1,g2⟩=>gZ ?_))))
 subst ey;exact TN I3 e3 ry rz hl (λv w s' ev I' rw'=>⟨v,H3,I',rw',g1 v ev⟩) λs' ev I'=>⟨z,_,I',rz,g2 ev⟩
end
def DO(ks:List Key)(dss:List az)(k:Key)(d:D):List Key×List az:=
 if Cs ks k=true then (ks,c4 (λk' ds=>if k'=k then ds++[d]else ds) ks dss)else (ks++[k],dss++[[d]])
theorem GN{k:Key}:Cs ks k=true ↔ k∈ks:=by unfold Cs;rw[eY];exact⟨λ⟨x,h1,h2⟩=>bq h2▸h1,λh=>⟨k,h,aT rfl⟩⟩
theorem Nk{ks:List Key}{vs:bA}{k:Key}{v:V}:ks.length=vs.length->sW (ks.zip vs) k=some v->∃j:Nat,ks[j]?=some k/\vs[j]?=some v:=by
 induction ks generalizing vs with
 |nil=>intro _ h;cases h
 |cons k0 ks ih=>
  intro hl h;cases vs with
  |nil=>cases hl
  |cons v0 vs=>
   unfold sW at h;rw[df,dG]at h;by_cases e:k0=k
   ·subst e;simp only[decide_true]at h;cases h;exact⟨0,rfl,rfl⟩
   ·simp only[e,decide_false]at h;obtain⟨j,h1,h2⟩:=ih (by simpa using hl) h;exact⟨j+1,h1,h2⟩
theorem Nl{ks:List Key}{vs:bA}{k:Key}:ks.length=vs.length->sW (ks.zip vs) k=none->k∉ks:=by
 induction ks generalizing vs with
 |nil=>intro _ _ h;cases h
 |cons k0 ks ih=>
  intro hl h hm;cases vs with
  |nil=>cases hl
  |cons v0 vs=>
   unfold sW at h;rw[df,dG]at h;by_cases e:k0=k
   ·subst e;simp only[decide_true]at h;cases h
   ·simp only[e,decide_false]at h;rcases aM.mp hm with z|z
    ·exact e z.symm
    ·exact ih (by simpa using hl) h z
structure Grp(G:Bg)(F:Fr)(H0 H:Hp)(a:Addr)(ks:List Key)(dss:List az)(bs:List Addr):Prop where
 at_:H a=some (.dK (ks.zip (bs.map V.ref)))
 n0:H0 a=none
 nB:F.B a=none
 len:ks.length=bs.length
 len':bs.length=dss.length
 nd:bs.Nodup
 kd:ks.Nodup
 each:∀(i:Nat) (b:Addr) (ds:az),bs[i]?=some b->dss[i]?=some ds->∃xs,H b=some (.lst xs)/\H0 b=none/\F.B b=none/\oh G H0 ds xs
section
variable{G:Bg}{F:Fr}{σ:St}{ρ:aZ}{H0 H H0' H':Hp}{a:Addr}{ks:List Key}{dss:List az}{bs:List Addr}
theorem Grp.grow(g:Grp G F H0 H a ks dss bs)(hs:oB H H')(h0:oB H0 H0')(hf:∀b o,H0' b=some o->H0 b=some o\/H b=none):Grp G F H0' H' a ks dss bs where
 at_:=hs _ _ g.at_
 n0:=by
  cases q:H0' a with
  |none=>rfl
  |some o=>
   rcases hf a o q with z|z
   ·rw[g.n0]at z;cases z
   ·rw[g.at_]at z;cases z
 nB:=g.nB
 len:=g.len
 len':=g.len'
 nd:=g.nd
 kd:=g.kd
 each:=λi b ds e1 e2=>by
  obtain⟨xs,q1,q2,q3,q4⟩:=g.each i b ds e1 e2;refine⟨xs,hs _ _ q1,?_,q3,oh.mono h0 _ _ q4⟩;cases q:H0' b with
  |none=>rfl
  |some o=>
   rcases hf b o q with z|z
   ·rw[q2]at z;cases z
   ·rw[q1]at z;cases z
theorem oI.still(R:oI G F σ ρ H0 H)(no:∀s∈ρ,s.own=false):oI G ⟨H0,H,[]⟩ σ ρ H0 H where
 sub:=R.sub
 g0:=oB.refl _
 keep:=λb o e _=>e
 fr:=λb o e=>.inl e
 am:=λa h=>by cases h
 len:=R.len
 sl:=λi s e=>by
  have ok:=R.sl i s e;have n:=no s (cA e);cases s with
  |un=>trivial
  |im d=>exact ok
  |_=>cases n
 ap:=λi j s t b _ e _ so=>by rw[no s (cA e)]at so;cases so
theorem oI.touch(R:oI G F σ ρ H0 H)(no:∀s∈ρ,s.own=false)(hk:∀b o,H b=some o->(H0 b≠none\/F.B b≠none)->H' b=some o)(ha:∀b o,H b=some o->∃o',H' b=some o'):oI G F σ ρ H0 H' where
 sub:=λb o e=>hk b o (R.sub _ _ e) (.inl (by rw[e];exact λz=>nomatch z))
 g0:=R.g0
 keep:=λb o e n=>hk b o (R.keep b o e n) (.inr (by rw[e];exact λz=>nomatch z))
 fr:=R.fr
 am:=λb hb=>by obtain⟨o,e⟩:=R.am b hb;exact ha b o e
 len:=R.len
 sl:=λi s e=>by
  have ok:=R.sl i s e;have n:=no s (cA e);cases s with
  |un=>trivial
  |im d=>exact ok
  |_=>cases n
 ap:=λi j s t b _ e _ so=>by rw[no s (cA e)]at so;cases so
theorem TQ{bs:List Addr}(h:bs.Nodup){i j:Nat}{b:Addr}(e1:bs[i]?=some b)(e2:bs[j]?=some b):i=j:=by obtain⟨h1,q1⟩:=bQ.mp e1;obtain⟨h2,q2⟩:=bQ.mp e2;exact(jz h).mp (q1.trans q2.symm)
theorem TR{ks:List Key}(h:ks.Nodup){i j:Nat}{b:Key}(e1:ks[i]?=some b)(e2:ks[j]?=some b):i=j:=by obtain⟨h1,q1⟩:=bQ.mp e1;obtain⟨h2,q2⟩:=bQ.mp e2;exact(jz h).mp (q1.trans q2.symm)
theorem Grp.more(g:Grp G F H0 H a ks dss bs){j:Nat}{k:Key}{b:Addr}{d:D}{v:V}{xs:bA}(ek:ks[j]?=some k)(eb:bs[j]?=some b)(hx:H b=some (.lst xs))(rd:Rep G H0 d v):
  Grp G F H0 (upd H b (.lst (xs++[v]))) a (DO ks dss k d).1 (DO ks dss k d).2 bs:=by
 have hm:Cs ks k=true:=GN.mpr (cA ek);unfold DO;rw[ai hm];have ne:a≠b:=λz=>by subst z;rw[g.at_]at hx;cases hx
 refine⟨by rw[oo ne];exact g.at_,g.n0,g.nB,g.len,?_,g.nd,g.kd,λi c ds e1 e2=>?_⟩
 ·rw[jl,<- g.len',<- g.len,dM,g.len]
 ·rw[jd]at e2;cases q1:ks[i]? with
  |none=>rw[q1]at e2;cases e2
  |some k'=>
   cases q2:dss[i]? with
   |none=>rw[q1,q2]at e2;cases e2
   |some ds'=>
    rw[q1,q2]at e2;cases e2;obtain⟨ys,w1,w2,w3,w4⟩:=g.each i c ds' e1 q2;by_cases hk:k'=k
    ·subst hk;have ij:=TR g.kd q1 ek;subst ij;rw[e1]at eb;cases eb;rw[w1]at hx;cases hx;rw[ai rfl];exact⟨_,om,w2,w3,qJ w4 (oW rd oZ)⟩
    ·rw[aj hk];have nc:c≠b:=λz=>by subst z;have ij:=TQ g.nd e1 eb;subst ij;rw[q1]at ek;cases ek;exact hk rfl
     exact⟨ys,by rw[oo nc];exact w1,w2,w3,w4⟩
theorem Grp.fresh(g:Grp G F H0 H a ks dss bs){k:Key}{v:V}(hk:k∉ks)(hp:H p=none)(h0:H0 p=none)(hB:F.B p=none)(rd:Rep G H0 d v):
  Grp G F H0 (upd (upd (upd H p (.lst [])) a (.dK ((ks++[k]).zip ((bs++[p]).map V.ref)))) p (.lst [v])) a (DO ks dss k d).1 (DO ks dss k d).2 (bs++[p]):=by
 have hm:¬Cs ks k=true:=λz=>hk (GN.mp z);unfold DO;rw[aj hm];have ne:a≠p:=λz=>by subst z;rw[g.at_]at hp;cases hp
 have np:p∉bs:=λz=>by
  obtain⟨i,hi,e⟩:=jm z;have e1:bs[i]?=some p:=by rw[aL hi,e]
  obtain⟨ds,e2⟩:∃ds,dss[i]?=some ds:=⟨dss[i]'(by rw[<-g.len'];exact hi),aL _⟩;obtain⟨ys,w1,_⟩:=g.each i p ds e1 e2;rw[hp]at w1;cases w1
 refine⟨by rw[oo ne,om],g.n0,g.nB,by simp[g.len],by simp[g.len'],?_,?_,λi c ds e1 e2=>?_⟩
 ·rw[bX];refine⟨g.nd,by simp,λx hx y hy=>?_⟩;rw[aO]at hy;subst hy;exact λz=>np (z▸hx)
 ·rw[bX];refine⟨g.kd,by simp,λx hx y hy=>?_⟩;rw[aO]at hy;subst hy;exact λz=>hk (z▸hx)
 ·by_cases hi:i<bs.length
  ·rw[cF hi]at e1;rw[cF (by rw[<-g.len'];exact hi)]at e2;obtain⟨ys,w1,w2,w3,w4⟩:=g.each i c ds e1 e2;have nc:c≠p:=λz=>np (z▸cA e1);have na:c≠a:=λz=>by subst z;rw[g.at_]at w1;cases w1
   exact⟨ys,by rw[oo nc,oo na,oo nc];exact w1,w2,w3,w4⟩
  ·have hi':i=bs.length:=by have:i<(bs++[p]).length:=(bQ.mp e1).1;rw[aA,bb]at this;omega
   subst hi';rw[cz (aG _),il]at e1;rw[g.len',cz (aG _),il]at e2;cases e1;cases e2;exact⟨[v],om,h0,hB,oW rd oZ⟩
def GO(G:Bg)(fk:FE):TS:=Rg (tBM G.K "list" E2 (Ni (vp 1) (tF G fk) (Wn FZ)) (B2 (vp 2) FZ))
theorem Nn{D0:Ends}{k:Key}{vr:V}(R:oI G F σ ρ H0 H)(no:∀s∈ρ,s.own=false)(h1:σ[1]?=some (some (.ref a)))(h2:σ[2]?=some (some vr))(rd:Rep G H0 d vr)
  (g:Grp G F H0 H a ks dss bs) (hk:fk ρ=some (x,ρ)) (ek:Am x=some k) (l1:ks.length<1000) (l2:∀ds∈dss,ds.length<1000)
  (kont:∀Hi Hj bs',oB H0 Hi->oI G F σ ρ Hi Hj->Grp G F Hi Hj a (DO ks dss k d).1 (DO ks dss k d).2 bs'->D0.nx σ Hj):GO G fk D0 σ H:=by
 refine⟨.ref a,h1,a,rfl,.inl ⟨_,.inl g.at_⟩,_,_,_,x,ρ,oI.still R no,hk,λv H1 H1' s R1 r=>?_⟩;have hs:oB H H1':=λb o e=>R1.keep b o e (by simp);have hf:∀b o,H1 b=some o->H0 b=some o\/H b=none:=R1.fr;have R2:oI G F σ ρ H1 H1':=R.grow hs s R1.sub hf;have g2:Grp G F H1 H1' a ks dss bs:=g.grow hs s hf;have rd2:=Rep.mono s _ _ rd;refine⟨cj _,λp hp=>?_⟩;have np:a≠p:=λz=>by subst z;rw[g2.at_]at hp;cases hp
 have R3:oI G F σ ρ H1 (upd H1' p (.lst [])):=R2.newOwn hp _;have g3:Grp G F H1 (upd H1' p (.lst [])) a ks dss bs:=g2.grow (oF hp _) (oB.refl _) λb o e=>.inl e;have lz:(ks.zip (bs.map V.ref)).length<sizeLine:=by rw[eD,ah,<- g.len,dM,bJ];omega
 refine⟨_,k,g3.at_,zt r ek,lz,λw ev=>?_,λev=>?_⟩
 ·obtain⟨j,e1,e2⟩:=Nk (by rw[ah];exact g.len) ev;rw[bj]at e2;cases eb:bs[j]? with
  |none=>rw[eb]at e2;cases e2
  |some b=>
   rw[eb]at e2;cases e2;obtain⟨ds,ed⟩:∃ds,dss[j]?=some ds:=⟨dss[j]'(by rw[<-g.len'];exact(bQ.mp eb).1),aL _⟩;obtain⟨xs,w1,w2,w3,w4⟩:=g3.each j b ds eb ed;have lx:xs.length<sizeLine:=by rw[<-oi w4,bJ];have:=l2 ds (cA ed);omega
   refine⟨.inl ⟨rfl,xs,SqL.of w1⟩,vr,h2,b,xs,vr,rfl,rfl,w1,lx,?_⟩;refine kont H1 _ bs s (oI.touch R3 no (λc o e z=>?_) λc o e=>?_) (g3.more e1 eb w1 rd2)
   ·have nc:c≠b:=λy=>by
     subst y;rcases z with z|z
     ·exact z w2
     ·exact z w3
    rw[oo nc];exact e
   ·by_cases y:c=b
    ·subst y;exact⟨_,om⟩
    ·rw[oo y];exact⟨o,e⟩
 ·have nk:=Nl (by rw[ah];exact g.len) ev;have h0p:H1 p=none:=R2.h0none hp;have hBp:F.B p=none:=R2.bNone hp;have ez:putK (ks.zip (bs.map V.ref)) k (.ref p)=(ks++[k]).zip ((bs++[p]).map V.ref):=by rw[Ma _ ev,aW,mF (by rw[ah];exact g.len)];rfl
  rw[ez];have q0:upd (upd H1' p (.lst [])) a (.dK ((ks++[k]).zip ((bs++[p]).map V.ref))) p=some (.lst []):=by rw[oo (λz=>np z.symm),om]
  refine⟨.inl ⟨rfl,[],SqL.of q0⟩,vr,h2,p,[],vr,rfl,rfl,q0,by rw[bJ];decide,?_⟩;refine kont H1 _ (bs++[p]) s (oI.touch R3 no (λc o e z=>?_) λc o e=>?_) (g2.fresh nk hp h0p hBp rd2)
  ·have n1:c≠p:=λy=>by
    subst y;rcases z with z|z
    ·exact z h0p
    ·exact z hBp
   have n2:c≠a:=λy=>by
    subst y;rcases z with z|z
    ·exact z g2.n0
    ·exact z g2.nB
   rw[bK,oo n1,oo n2];exact e
  ·by_cases y:c=p
   ·subst y;exact⟨_,om⟩
   ·rw[oo y];by_cases y2:c=a
    ·subst y2;exact⟨_,om⟩
    ·rw[oo y2];exact⟨o,e⟩
end
def An(vk:D->Option D):az->List Key->List az->Option (List Key×List az)
 |[],ks,dss=>some (ks,dss)
 |d::r,ks,dss=>match vk d with
  |some x=>match Am x with
   |some k=>if (decide (ks.length<1000)&&dss.all λds=>decide (ds.length<1000))=true then An vk r (DO ks dss k d).1 (DO ks dss k d).2 else none
   |none=>none
  |none=>none
def Iw(vk:D->Option D):FS:=λρ=>match ρ with
 |[.im (.lst L),.un,.un]=>match An vk L [] []with
  |some (ks,dss)=>some (.rt (.dic ks (dss.map .lst)) [.im (.lst L),.un,.un])
  |none=>none
 |_=>none
section
variable{X:Cx}{G:Bg}
theorem AV:∀(bs:List Addr) (dss:List az),bs.length=dss.length->(∀(i:Nat) (b:Addr) (ds:az),bs[i]?=some b->dss[i]?=some ds->∃xs,Hq b=some (.lst xs)/\oh G Hq ds xs)->
  oh G Hq (dss.map .lst) (bs.map V.ref)
 |[],[],_,_=>oZ
 |[],_::_,h,_=>by cases h
 |_::_,[],h,_=>by cases h
 |b::bs,ds::dss,h,k=>by obtain⟨xs,h1,h2⟩:=k 0 b ds rfl rfl;exact oW (uX h1 h2) (AV bs dss (by simpa using h) λi b ds e1 e2=>k (i+1) b ds e1 e2)
theorem Qm{bs:List Addr}{L:az}(R:oI G F σ [.im (.lst L),.un,s2] H0 H)(g:Grp G F H0 H a ks dss bs)(o:Obj):
  ∃Hq,oB H0 Hq/\oI G F σ [.im (.lst L),.un,.un] Hq (upd H a (.frz o (.dK (ks.zip (bs.map V.ref)))))/\Rep G Hq (.dic ks (dss.map .lst)) (.ref a):=by
 have mb:∀{b:Addr},b∈bs->∃xs,H b=some (.lst xs)/\H0 b=none/\F.B b=none:=λ{b} hb=>by obtain⟨i,hi,e⟩:=jm hb;obtain⟨xs,w1,w2,w3,_⟩:=g.each i b (dss[i]'(by rw[<-g.len'];exact hi)) (by rw[aL hi,e]) (aL _);exact⟨xs,w1,w2,w3⟩
 have na:a∉bs:=λz=>by obtain⟨xs,w1,_⟩:=mb z;rw[g.at_]at w1;cases w1
 have s0:oB H0 (λc=>if c=a then some (.frz o (.dK (ks.zip (bs.map V.ref))))else if c∈bs then H c else H0 c):=λc u e=>by
  have n1:c≠a:=λz=>by subst z;rw[g.n0]at e;cases e
  have n2:c∉bs:=λz=>by obtain⟨_,_,w2,_⟩:=mb z;rw[w2]at e;cases e
  show (if c=a then _ else if c∈bs then H c else H0 c)=_;rw[aj n1,aj n2];exact e
 refine⟨_,s0,?_,?_⟩
 ·exact {
   sub:=λc u e=>by
    have e':(if c=a then some (HO.frz o (.dK (ks.zip (bs.map V.ref))))else if c∈bs then H c else H0 c)=some u:=e;by_cases n1:c=a
    ·subst n1;rw[ai rfl]at e';rw[om];exact e'
    ·rw[aj n1]at e';rw[oo n1];by_cases n2:c∈bs
     ·rw[ai n2]at e';exact e'
     ·rw[aj n2]at e';exact R.sub _ _ e'
   g0:=R.g0.trans s0
   keep:=λc u e n=>by rw[oo (λz=>by subst z;rw[g.nB]at e;cases e)];exact R.keep c u e n
   fr:=λc u e=>by
    have e':(if c=a then some (HO.frz o (.dK (ks.zip (bs.map V.ref))))else if c∈bs then H c else H0 c)=some u:=e;by_cases n1:c=a
    ·subst n1;exact .inr g.nB
    ·rw[aj n1]at e';by_cases n2:c∈bs
     ·obtain⟨_,_,_,w3⟩:=mb n2;exact .inr w3
     ·rw[aj n2]at e';exact R.fr _ _ e'
   am:=λc hc=>by
    by_cases n1:c=a
    ·subst n1;exact⟨_,om⟩
    ·rw[oo n1];exact R.am c hc
   len:=R.len
   sl:=λi s e=>by
    match i,e with
    |0,e=>cases e;obtain⟨v,w1,w2⟩:=R.sl 0 _ rfl;exact⟨v,w1,Rep.mono s0 _ _ w2⟩
    |1,e=>cases e;trivial
    |2,e=>cases e;trivial
    |i+3,e=>cases e
   ap:=λi j s t b _ e _ so=>by
    match i,e with
    |0,e=>cases e;cases so
    |1,e=>cases e;cases so
    |2,e=>cases e;cases so
    |i+3,e=>cases e }
 ·unfold Rep;refine⟨a,o,bs.map V.ref,rfl,by show (if a=a then _ else _)=_;rw[ai rfl],by rw[ah];exact g.len,AV bs dss g.len' λi b ds e1 e2=>?_⟩;obtain⟨xs,w1,w2,w3,w4⟩:=g.each i b ds e1 e2;have hb:=cA e1;refine⟨xs,?_,oh.mono s0 _ _ w4⟩;show (if b=a then _ else if b∈bs then H b else H0 b)=_;have nb:b≠a:=λz=>na (by rw[<-z];exact hb);rw[aj nb,ai hb];exact w1
def Np{L:az}{s2:Sl}(h:s2.own=false):∀s∈[Sl.im (.lst L),.un,s2],s.own=false:=λs hs=>by
 simp only[aM,bO,or_false]at hs;rcases hs with rfl|rfl|rfl
 ·rfl
 ·rfl
 ·exact h
theorem Lh(h1:PS X st1 (Ab HW (vK 1)))(h2:PS X st2 (Se (tFI G (iL (cV 0))) (vK 2) (GO G (c1 vk (cV 2)))))
  (h3:PS X st3 (Wb (λσ H Q=>vp 1 σ H λx H1=>Q x H1\/∃a kvs,H1 a=some (.dK kvs)/\∀o,Q x (upd H1 a (.frz o (.dK kvs)))))):PSs X [st1,st2,st3] (tFS G (Iw vk)):=
 PSs.weak (BW h1 (BW h2 (ET h3))) λE σ H hh=>by
  obtain⟨F,ρ,H0,o,R,e,k,k2⟩:=hh;unfold Iw at e;split at e
  ·rename_i L;cases eg:An vk L [] []with
   |none=>simp only[eg]at e;cases e
   |some p=>
    obtain⟨KS,DSS⟩:=p;simp only[eg]at e;cases e;intro p hp;have R1:oI G F (σ.set 1 (some (.ref p))) [.im (.lst L),.un,.un] H0 (upd H p (.dK [])):=(R.newOwn hp (.dK [])).set (i:=1) (v:=.ref p) (s:=.un) trivial (λz=>by cases z);have hlen:σ.length=3:=R.len;have g1:Grp G F H0 (upd H p (.dK [])) p [] [] []:=⟨om,R.h0none hp,R.bNone hp,rfl,rfl,f9,f9,λi b ds e1=>by cases e1⟩;have v1:(σ.set 1 (some (V.ref p)))[1]?=some (some (.ref p)):=by rw[gW (by rw[hlen];decide)]
    refine⟨_,_,_,L,_,oI.still R1 (Np rfl),rfl,λJ Ha Hb s Ra wk=>?_⟩;have hs:oB (upd H p (.dK [])) Hb:=λb o e=>Ra.keep b o e (by simp);have R2:=R1.grow hs s Ra.sub Ra.fr;have g2:=g1.grow hs s Ra.fr;refine⟨λi m σ' H'=>m=L.length - i/\i<=L.length/\∃Hi ks dss bs s2,oB Ha Hi/\Sl.own s2=false/\oI G F σ' [.im (.lst L),.un,s2] Hi H'/\σ'[1]?=some (some (.ref p))/\Grp G F Hi H' p ks dss bs/\An vk (L.drop i) ks dss=some (KS,DSS),
     ⟨_,rfl,cj _,Ha,[],[],[],.un,oB.refl _,rfl,R2,v1,g2,eg⟩,?_⟩
    rintro i m σi Hi' ⟨rfl,hi,Hi,ks,dss,bs,s2,si,n2,Ri,vi,gi,ei⟩;by_cases hlt:i<L.length
    ·have ed:L.drop i=L[i]::L.drop (i+1):=gS hlt;rw[ed]at ei;unfold An at ei;cases ev:vk L[i]with
     |none=>simp only[ev]at ei;cases ei
     |some x=>
      simp only[ev]at ei;cases ek:Am x with
      |none=>simp only[ek]at ei;cases ei
      |some kk=>
       simp only[ek]at ei;split at ei
       ·rename_i hb;simp only[bo,bG,bC]at hb;obtain⟨go,yl⟩:=(wk i Hi Hi' si Ri.sub).1 L[i] (aL hlt);refine .inr ⟨go,λσ' H'=>∃Hi ks dss bs s2,oB Ha Hi/\Sl.own s2=false/\oI G F σ' [.im (.lst L),.un,s2] Hi H'/\σ'[1]?=some (some (.ref p))/\Grp G F Hi H' p ks dss bs/\An vk (L.drop (i+1)) ks dss=some (KS,DSS),
         λσ' H' q=>⟨L.length - (i+1),by omega,rfl,hlt,q⟩,λxv H' y=>?_⟩
        obtain⟨H2,t1,t2,t3,t4,t5⟩:=yl xv H' y;have hl3:σi.length=3:=Ri.len;have R3:oI G F (σi.set 2 (some xv)) [.im (.lst L),.un,.im L[i]] H2 H':=(Ri.grow t3 t1 t2 t4).setIm 2 t5;have w1:(σi.set 2 (some xv))[1]?=some (some (.ref p)):=by rw[jf (by decide)];exact vi
        have w2:(σi.set 2 (some xv))[2]?=some (some xv):=by rw[gW (by rw[hl3];decide)]
        refine Nn R3 (Np rfl) w1 w2 t5 (gi.grow t3 t1 t4) (by show c1 vk (cV 2) _=_;unfold c1 cV;simp only[gV,List.getElem?_cons_zero,ev]) ek hb.1 (λds hd=>hb.2 ds hd) λHc Hd bs' sc Rc gc=>?_;exact⟨Hc,_,_,bs',_,si.trans (t1.trans sc),rfl,Rc,w1,gc,ei⟩
       ·cases ei
    ·have hi':i=L.length:=by omega
     refine .inl ⟨(wk i Hi Hi' si Ri.sub).2 hi',?_⟩;subst hi';rw[List.drop_length]at ei;cases ei;refine⟨.ref p,vi,.inr ⟨p,_,gi.at_,λo=>?_⟩⟩;obtain⟨Hq,q1,q2,q3⟩:=Qm Ri gi o;exact k _ _ Hq _ (s.trans (si.trans q1)) q2 q3
  ·cases e
end
section
variable{X:Cx}{G:Bg}
theorem Qn:∀y b,qU "int" y=some b->cH X.K (y.val G) (.type "int")=some b:=λy b h=>by
 cases y with
 |c k=>cases h
 |b n=>
  unfold qU at h;simp only at h
  iterate 7 (split at h;· rename_i e;subst e;cases h;first|rfl|kernel_rfl)
  cases h
theorem Nq:∀y b,qU "bool" y=some b->cH X.K (y.val G) (.type "bool")=some b:=λy b h=>by
 cases y with
 |c k=>cases h
 |b n=>
  unfold qU at h;simp only at h
  iterate 7 (split at h;· rename_i e;subst e;cases h;first|rfl|kernel_rfl)
  cases h
theorem kit_tuple:∀y b,qU "tuple" y=some b->cH X.K (y.val G) (.type "tuple")=some b:=λy b h=>by
 cases y with
 |c k=>cases h
 |b n=>
  unfold qU at h;simp only at h
  iterate 7 (split at h;· rename_i e;subst e;cases h;first|rfl|kernel_rfl)
  cases h
end
theorem CC:entryFor table "dict_itemiterator.__iter__" = some dP.«dict_keyiterator.__iter__»:=by
 refine entryFor_alias (id':="dict_keyiterator.__iter__") ?_ rfl ?_ ?_
 ·kernel_rfl
 ·decide +kernel
 ·kernel_rfl
theorem Qo{kvs:List (Key×V)}{vs:List (Key×ae)}(r:KV kvs vs){i:Nat}{k:Key}{x:ae}(e:vs[i]?=some (k,x)):∃z,kvs[i]?=some (k,z)/\RelV z x:=by
 induction r generalizing i with
 |nil=>cases e
 |@cons p q l l' h _ ih=>
  cases i with
  |zero=>obtain⟨pk,pv⟩:=p;cases e;exact⟨pv,by rw[show pk=k from h.1];rfl,h.2⟩
  |succ i=>exact ih e
def Iti(a:Addr)(o:Obj)(kvs:List (Key×V)):It:=
 ⟨λi H=>i<kvs.length/\H a=some (.frz o (.dK kvs)),λi H v H'=>∃p k z,H p=none/\v=.ref p/\H'=upd H p (.tup [kV k,z])/\kvs[i]?=some (k,z),λi H=>kvs.length<=i/\H a=some (.frz o (.dK kvs))⟩
def iTn(it a:Addr)(o:Obj)(n:Nat)(i:Nat)(h:Heap):Prop:=∃es ep ok ov,o.data=.dict es ep/\IsItemIter h it a i n ep ok ov
theorem Iy{K:aw}{x1}(a it:Addr)(o:Obj)(kvs:List (Key×V)):Turn P w K (.Tuple elts x1 pos) (Iti a o kvs) [it] it (iTn it a o kvs.length) where
 mem:=by simp
 obj:=λi h st b hb=>by
  have e:b=it:=by simpa using hb
  subst e;obtain⟨es,ep,ok,ov,hd,q⟩:=st;exact⟨_,q,λv z=>nomatch z⟩
 keep:=λi h h' st k=>by obtain⟨es,ep,ok,ov,hd,q⟩:=st;exact⟨es,ep,ok,ov,hd,k it (by simp) _ q⟩
 item:=by
  intro X hP hw hK hc i pins s σ H E I hf st hg;subst hP hw hK;obtain⟨hi,he⟩:=hg;obtain⟨es,ep,ok,ov,hd,ki⟩:=st;obtain⟨_,_,vs,r,da⟩:=uZ I he hd;have hl:kvs.length=vs.length:=r.length;obtain⟨⟨k,x⟩,hx⟩:∃q,vs[i]?=some q:=⟨vs[i]'(by rw[<-hl];exact hi),aL _⟩;obtain⟨z,hz,rz⟩:=Qo r hx;rw[hl]at ki;refine wpAny_pyNext_items_item ki da hx λkey h' hk q1 q2 q3 kk=>?_;refine⟨_,rfl,wpAny_letOwnedTupleGo_items (s:={ s with heap:=h' }) q1 λh2 q4 sb=>?_⟩;have lt:s.heap.objs.size≠it:=λw=>ao (aN ki) (by rw[w];exact di _);have hp:h2.get? s.heap.objs.size=some { cls:=.type "tuple", data:=.seq #[key,x] }:=sb.extBut _ _ lt q2;have ok':pI X.prog X.w (upd H s.heap.objs.size (.tup [kV k,z])) h2 s.heap.objs.size (.tup [kV k,z]):=⟨by rw[bJ];show 2<=16777216;decide,[key,x],.cons (Fh hk) (.cons rz .nil),_,hp,rfl,_,rfl⟩;have I1:=Inv.turnedLaid (h':=h2) (t':=s.toks) (T:=s.heap.objs.size) (xs:=[kV k,z]) (ch:=[it]) I hf
   (λb o hb e=>sb.extBut _ _ (λw=>hb (by simp[w])) (kk b o (λw=>hb (by simp[w])) e)) (aG _) ok'
  refine⟨.ref s.heap.objs.size,_,I1,rfl,⟨_,k,z,I.hok.fresh (aG _),rfl,rfl,hz⟩,⟨es,ep,key,x,hd,by rw[hl];exact q4⟩,λb hb=>?_⟩;rw[oo (λw=>?_)]
  ·exact(hf b hb).1
  ·have e:b=it:=by simpa using hb
   exact lt (w.symm.trans e)
 done:=by intro X hP hw hK hc i pins s σ H E I hf st hg;subst hP hw hK;obtain⟨hi,he⟩:=hg;obtain⟨es,ep,ok,ov,hd,ki⟩:=st;obtain⟨f0,f1,f2,f3,f4,f5⟩:=hf it (by simp);obtain⟨_,_,vs,r,da⟩:=uZ I he hd;have hl:kvs.length=vs.length:=r.length;rw[hl]at ki;exact wpAny_pyNext_items_end (I.ok.hd hc) ki da (fP (by rw[<-hl];exact hi)) λh' eb=>⟨rfl,I.turned (t':=s.toks) (λb o hb e=>eb b o hb e) f0 f1 f3 f4 f5⟩
 self:=λA i s Q E st h=>by obtain⟨es,ep,ok,ov,hd,ki⟩:=st;have hT:s.TypeIs (.ref it) "dict_itemiterator" := ⟨_,ki,rfl⟩;refine wpAny_pyIter_slot hT kP (jA kP hT CC ?_ (F.args_dict_itemiterator_iter_1 _));show wpAny _ _ (ret (.ref it)) _ _ s;exact aD ⟨_,rfl,"dict_itemiterator", _,hT,F.slot_dict_itemiterator_next.lookup,h⟩
section
variable{X:Cx}{G:Bg}{elts:List Expr}{x1:Nat}{tpos:Pos}
def Nr(tl:TE):TI:=λσ H R=>tl σ H λx H1=>∃a o kvs,x=.ref a/\H1 a=some (.frz o (.dK kvs))/\R (Iti a o kvs) H1
theorem Nt{apos cpos:Pos}(ho:PE X o tl)(hbase:attributeBase o "items" X.env (eval o X.env)=eval o X.env:=by rfl)(hline:(apos.endLine==cpos.line)=true:=by rfl):
  PI X (.Tuple elts x1 tpos) (.Call (.Attribute o "items" apos) [] [] cpos) (Nr tl):=by
 intro pins s σ H R I h;refine wpAny_Call_method0_late hbase hline (thn (ho pins s σ H _ I h) λv s1 zz=>?_);obtain⟨x,H1,I1,r1,a,ob,kvs,e,he,q⟩:=zz;subst e;obtain rfl:v=Value.ref a:=r1;obtain⟨t1,t2,t3⟩:=HX I1 (.inl ⟨kvs,.inr ⟨ob,he⟩⟩);refine⟨"dict", "dict.items", jy,mh,F.type_dict_items,t1,t2,gX rfl (PySem.evalArgs_none ?_)⟩;obtain⟨q0,_,y,vs,r,ob',es,ep,e1,e2,e3,e4⟩:=(show pI X.prog X.w H1 s1.heap a (.frz ob (.dK kvs)) from I1.hok a _ he);rw[q0]at e1;cases e1;have hl:kvs.length=vs.length:=r.length;have da:s1.heap.DictAt (oQ X.prog X.w) a vs ep:=⟨ob,es,q0,e2,e3,e4⟩;refine ik mh t1 F.entry_dict_items (F.args_dict_items_1 _) (meets_dict_items (oQ X.prog X.w) a y) ⟨⟨vs,da.dictOf⟩,?_⟩;have I2:Inv X pins σ H1 { s1 with heap:=s1.heap.push { cls:=.type "dict_items", data:=.fields #[.ref a] } }:=I1.kept (t':=s1.toks) λb o e=>aK _ e;refine wpAny_pyIter_items (knd:=oQ X.prog X.w) (kvs:=vs) (ep:=ep) ⟨_,bu _ rfl,rfl,rfl⟩ (da.push _) ?_;refine⟨_,[_],_,_,H1,rfl,I2.kept (t':=s1.toks) λb o e=>aK _ e,Iy a _ ob kvs,⟨es,ep,.none,.none,e3,by rw[hl];exact bu _ rfl⟩,λb hb=>?_,q⟩;have e:=aO.mp hb;subst e;exact I2.fpOk (aG _) (I2.hok.fresh (aG _))
def iIt(f:FE):FA:=λρ=>match f ρ with
 |some (.dic ks ds,ρ1)=>some (zv (ks.map Iu) ds,ρ1)
 |_=>none
theorem Li(h:PI X tg e (Nr (tF G f))):PI X tg e (tFI G (iIt f)):=PI.weak h λσ H R hh=>by
 obtain⟨F,ρ,H0,ds,ρ',R,e,k⟩:=hh;unfold iIt at e;split at e
 ·rename_i ks ds' ρ1 e1;cases e;refine⟨F,ρ,H0,_,_,R,e1,λv H1 H1' s R' r=>?_⟩;unfold Rep at r;obtain⟨a,o,xs,rfl,r1,r2,r3⟩:=r;have hz:(ks.zip xs).length=ks.length:=by rw[eD,<- r2,dM]
  have lx:xs.length=ds'.length:=(oi r3).symm;refine⟨a,o,_,rfl,R'.sub _ _ r1,k _ _ _ s R' λi H2 H2' t t'=>⟨λd ed=>?_,λhl=>?_⟩⟩
  ·unfold zv at ed;rw[jd,bj]at ed;cases ek:ks[i]? with
   |none=>rw[ek]at ed;cases ed
   |some j=>
    cases ey:ds'[i]? with
    |none=>rw[ek,ey]at ed;cases ed
    |some dy=>
     rw[ek,ey]at ed;cases ed;have hi:i<ks.length:=(bQ.mp ek).1;obtain⟨vy,y1,y2⟩:=qj r3 ey;refine⟨⟨by rw[hz];exact hi,t' _ _ (t _ _ r1)⟩,λx H3 y=>?_⟩;obtain⟨p,k',z,hp,rfl,rfl,hk'⟩:=y;rw[kY]at hk';have a1:=hk'.1;have a2:=hk'.2;rw[ek]at a1;rw[y1]at a2;cases a1;cases a2;have p0:H2 p=none:=by
      cases q:H2 p with
      |none=>rfl
      |some o=>have:=t' _ _ q;rw[hp]at this;cases this
     refine⟨upd H2 p (.tup [kV k',z]),oF p0 _,λb o e=>?_,oF hp _,λb o e=>?_,yj (SqT.of om) ?_⟩
     ·by_cases hb:b=p
      ·subst hb;rw[om]at e ⊢;exact e
      ·rw[oo hb]at e ⊢;exact t' _ _ e
     ·by_cases hb:b=p
      ·subst hb;exact .inr hp
      ·rw[oo hb]at e;exact .inl e
     ·have m:=t.trans (oF p0 (.tup [kV k',z]));exact oW (JR _) (oW (Rep.mono m _ _ y2) oZ)
  ·refine⟨by rw[hz,hl,GH,ah,<- lx,<- r2,dM];exact aG _,t' _ _ (t _ _ r1)⟩
 ·cases e
end
def hold(F:Fr)(p:Addr)(o:HO):Fr:=⟨F.B0,λb=>if b=p then some o else F.B b,F.A⟩
theorem BR:(hold F p o).B p=some o:=by show (if p=p then _ else _)=_;rw[ai rfl]
theorem yp(h:b≠p):(hold F p o).B b=F.B b:=by show (if b=p then _ else _)=_;rw[aj h]
theorem yS.frame{F':Fr}{s:Sl}(h:yS G F H0 H o s)(hA:F'.A=F.A)(hB:∀a,o=some (.ref a)->s.own=true->F.B a=none->F'.B a=none):yS G F' H0 H o s:=by
 cases s with
 |un=>trivial
 |im d=>exact h
 |ls ds=>obtain⟨a,xs,h1,h2,h3,h4,h5⟩:=h;exact⟨a,xs,h1,h2,h3,hB a h1 rfl h4,h5⟩
 |pm ds=>obtain⟨a,xs,h1,h2,h3,h4,h5⟩:=h;exact⟨a,xs,h1,h2,h3,by rw[hA];exact h4,h5⟩
 |dk ks ds=>obtain⟨a,xs,h1,h2,h3,h4,h5,h6⟩:=h;exact⟨a,xs,h1,h2,h3,hB a h1 rfl h4,h5,h6⟩
 |ob c ns ds=>obtain⟨a,dx,xs,h1,h2,h3,h4,h5,h6⟩:=h;exact⟨a,dx,xs,h1,h2,h3,by rw[hA];exact h4,h5,h6⟩
section
variable{X:Cx}{G:Bg}{F:Fr}{σ:St}{ρ:aZ}{H0 H:Hp}{p:Addr}{o:HO}
theorem oI.hold(R:oI G F σ ρ H0 H)(hp:H p=none)(o:HO):oI G (L4.hold F p o) σ ρ H0 (upd H p o) where
 sub:=(R.newOwn hp o).sub
 g0:=R.g0
 keep:=λb u e n=>by
  by_cases hb:b=p
  ·subst hb;rw[BR]at e;rw[om];exact e
  ·rw[yp hb]at e;exact(R.newOwn hp o).keep b u e n
 fr:=λb u e=>by
  have hb:b≠p:=λz=>by subst z;rw[R.h0none hp]at e;cases e
  rw[yp hb];exact R.fr b u e
 am:=(R.newOwn hp o).am
 len:=R.len
 sl:=λi s e=>by refine yS.frame ((R.newOwn hp o).sl i s e) rfl λa h1 so hB=>?_;obtain⟨a',u,q1,q2,_⟩:=(R.sl i s e).at so;rw[h1]at q1;cases q1;rw[yp (λz=>by subst z;rw[hp]at q2;cases q2)];exact hB
 ap:=R.ap
theorem oI.unhold(R:oI G (L4.hold F p o) σ ρ H0 H)(hB:F.B p=none):oI G F σ ρ H0 H where
 sub:=R.sub
 g0:=R.g0
 keep:=λb u e n=>R.keep b u (by rw[yp (λz=>by subst z;rw[hB]at e;cases e)];exact e) n
 fr:=λb u e=>by
  rcases R.fr b u e with z|z
  ·exact .inl z
  ·by_cases hb:b=p
   ·subst hb;exact .inr hB
   ·rw[yp hb]at z;exact .inr z
 am:=R.am
 len:=R.len
 sl:=λi s e=>yS.frame (R.sl i s e) rfl λa h1 so q=>by
  by_cases hb:a=p
  ·subst hb;exact hB
  ·rw[yp hb]at q;exact q
 ap:=R.ap
theorem oI.layHeld(R:oI G (L4.hold F p o) σ ρ H0 H)(hB:F.B p=none)(h0:H0 p=none)(nA:p∉F.A)(u:HO):oI G F σ ρ (upd H0 p u) (upd H p u) where
 sub:=λb v e=>by
  by_cases hb:b=p
  ·subst hb;rw[om]at e ⊢;exact e
  ·rw[oo hb]at e ⊢;exact R.sub _ _ e
 g0:=(oI.unhold R hB).g0.trans (oF h0 u)
 keep:=λb v e n=>by rw[oo (λz=>by subst z;rw[hB]at e;cases e)];exact(oI.unhold R hB).keep b v e n
 fr:=λb v e=>by
  by_cases hb:b=p
  ·subst hb;exact .inr hB
  ·rw[oo hb]at e;exact(oI.unhold R hB).fr _ _ e
 am:=λb hb=>by
  have hb':b≠p:=λz=>by subst z;exact nA hb
  rw[oo hb'];exact R.am b hb
 len:=R.len
 sl:=λj t e=>by
  have ne:∀a,(σ[j]?).join=some (.ref a)->t.own=true->a≠p:=λa z to y=>by
   subst y;obtain⟨a',v,q1,_,_,q4⟩:=(R.sl j t e).at to;rw[z]at q1;cases q1;rcases q4 with q|q
   ·rw[BR]at q;cases q
   ·exact nA q
  refine((oI.unhold R hB).sl j t e).grow (oF h0 u) (λa v z to q=>?_) λa v z to q q0=>?_
  ·rw[oo (ne a z to)];exact q
  ·rw[oo (ne a z to)];exact q0
 ap:=R.ap
def sX:List (Str×FE)->aZ->Option (az×aZ)
 |[],ρ=>some ([],ρ)
 |(_,f)::r,ρ=>match f ρ with
  |some (d,ρ1)=>match sX r ρ1 with
   |some (ds,ρ2)=>some (d::ds,ρ2)
   |none=>none
  |none=>none
def Nu(G:Bg)(kfs:List (Str×FE)):List (TE×TE):=kfs.map λq=>(tC (.str q.1),tF G q.2)
theorem GP:∀(kfs:List (Str×FE)) (ρ ρ':aZ) (ds:az) (H0 H:Hp) (Q:List (V×V)->Hp->Prop),oI G F σ ρ H0 H->sX kfs ρ=some (ds,ρ')->
  (∀vs H1 H1',oB H0 H1->oI G F σ ρ' H1 H1'->oh G H1 ds vs->Q (c4 (λk v=>(V.str k,v)) (kfs.map (·.1)) vs) H1')->E4 (Nu G kfs) σ H Q
 |[],ρ,ρ',ds,H0,H,Q,R,e,k=>by cases e;exact k [] H0 H (oB.refl _) R oZ
 |(x,f)::r,ρ,ρ',ds,H0,H,Q,R,e,k=>by
  unfold sX at e;cases e1:f ρ with
  |none=>simp only[e1]at e;cases e
  |some q=>
   obtain⟨d,ρ1⟩:=q;simp only[e1]at e;cases e2:sX r ρ1 with
   |none=>simp only[e2]at e;cases e
   |some q=>obtain⟨ds',ρ2⟩:=q;simp only[e2]at e;cases e;refine⟨F,ρ,H0,d,ρ1,R,e1,λv H1 H1' s R1 rv=>?_⟩;exact GP r ρ1 _ ds' H1 H1' _ R1 e2 λvs H2 H2' s2 R2 rs=>k (v::vs) H2 H2' (s.trans s2) R2 (oW (Rep.mono s2 _ _ rv) rs)
theorem GQ:∀(more acc:List (Key×V)),((acc++more).map (·.1)).Nodup->xt acc more=acc++more
 |[],acc,_=>by rw[bt];rfl
 |q::r,acc,h=>by
  have nq:(acc.any λkv=>decide (kv.1=q.1))=false:=by rw[hJ];intro z;obtain⟨y,hy,ey⟩:=eY.mp z;rw[aW,bX]at h;exact h.2.2 y.1 (cp hy) q.1 (cp ba) (bq ey)
  have e:putK acc q.1 q.2=acc++[q]:=by unfold putK;rw[nq];rfl
  show xt (putK acc q.1 q.2) r=_;rw[e,GQ r (acc++[q]) (by simpa using h)];simp
theorem Lj:upd (upd H p x) p y=upd H p y:=by
 funext b
 by_cases hb:b=p
 ·subst hb;rw[om,om]
 ·rw[oo hb,oo hb,oo hb]
def u4(kfs:List (Str×FE)):FE:=λρ=>match sX kfs ρ with
 |some (ds,ρ')=>some (.dic (kfs.map λq=>Sum.inr q.1) ds,ρ')
 |none=>none
theorem CD:∀{kfs:List (Str×FE)} {ρ ρ':aZ} {ds:az},sX kfs ρ=some (ds,ρ')->ds.length=kfs.length
 |[],ρ,ρ',ds,e=>by cases e;rfl
 |(x,f)::r,ρ,ρ',ds,e=>by
  unfold sX at e;cases e1:f ρ with
  |none=>simp only[e1]at e;cases e
  |some q=>
   obtain⟨d,ρ1⟩:=q;simp only[e1]at e;cases e2:sX r ρ1 with
   |none=>simp only[e2]at e;cases e
   |some q=>obtain⟨ds',ρ2⟩:=q;simp only[e2]at e;cases e;rw[aE,aE,CD e2]
theorem GR:∀(ks:aB) (vs:bA),c4 (λk v=>(V.str k,v)) ks vs=((ks.map λk=>(Sum.inr k:Key)).zip vs).map λkv=>(kV kv.1,kv.2)
 |[],vs=>rfl
 |k::ks,[]=>rfl
 |k::ks,v::vs=>by show (V.str k,v)::_=_;rw[GR ks vs];rfl
theorem JS(h:PE X e (Me (Nu G kfs)))(nd:(kfs.map λq=>(Sum.inr q.1:Key)).Nodup)(h15:kfs.length<=15):PE X e (tF G (u4 kfs)):=PE.weak (PE.ghost h) λσ H Q hh=>by
 obtain⟨F,ρ,H0,d,ρ',R,e,k⟩:=hh;unfold u4 at e;cases e1:sX kfs ρ with
 |none=>simp only[e1]at e;cases e
 |some q=>
  obtain⟨ds,ρ1⟩:=q;simp only[e1]at e;cases e;intro p hp;have hB:F.B p=none:=R.bNone hp;have nA:p∉F.A:=λz=>by obtain⟨u,q⟩:=R.am p z;rw[hp]at q;cases q
  refine GP kfs ρ _ ds H0 _ _ (oI.hold R hp (.dK [])) e1 λvs H1 H1' s R1 rs=>?_;have q0:H1' p=some (.dK []):=R1.keep p _ BR nA;have h0:H1 p=none:=by
   cases q:H1 p with
   |none=>rfl
   |some u=>
    rcases R1.fr p u q with z|z
    ·have:=R.g0 _ _ z;rw[R.h0none hp]at this;cases this
    ·rw[BR]at z;cases z
  have lv:(kfs.map λq=>(Sum.inr q.1:Key)).length=vs.length:=by rw[ah,<- CD e1,oi rs]
  have kn:(((kfs.map λq=>(Sum.inr q.1:Key)).zip vs).map (·.1))=kfs.map λq=>(Sum.inr q.1:Key):=mD (by rw[lv];exact aG _)
  refine⟨q0,(kfs.map λq=>(Sum.inr q.1:Key)).zip vs,?_,?_,.inr ⟨p,_,om,λob=>?_⟩⟩
  ·rw[GR,aV];rfl
  ·rw[eD,<- lv,dM,ah];exact h15
  ·rw[Lj,GQ _ [] (by rw[bK,kn];exact nd),bK];refine k _ _ _ (s.trans (oF h0 _)) (oI.layHeld R1 hB h0 nA _) ?_;unfold Rep;exact⟨p,ob,vs,rfl,om,lv,oh.mono (oF h0 _) _ _ rs⟩
end
def spL(G:Bg)(g:az->az->Option (D×az)):Sp:=λvs H Q E=>∃(a:Addr) (us:bA),vs=us++[.ref a]/\spM G g (.ref a::us) H Q E
def stL(n:Nat)(es ds:az):aZ:=ds.map Sl.im++.pm es::dJ (n - ds.length - 1) .un
def GT(i:Nat)(ρ:aZ):Option az:=match ρ[i]? with
 |some (.pm es)=>some es
 |_=>none
def fnL(np n:Nat)(f:FS):az->az->Option (D×az):=λes ds=>if ds.length=np then match f (stL n es ds)with
 |some (.rt d ρ)=>match GT np ρ with
  |some es'=>some (d,es')
  |none=>none
 |some (.rn xs ρ)=>match GT np ρ with
  |some es'=>some (.lst xs,es')
  |none=>none
 |_=>none
 else none
theorem Ao(h:GT i ρ=some es):ρ[i]?=some (.pm es):=by
 unfold GT at h;split at h
 ·rename_i e;cases h;exact e
 ·cases h
theorem GU{n:Nat}(h:fnL np n f es ds=some (d,es')):ds.length=np/\((∃ρ,f (stL n es ds)=some (.rt d ρ)/\ρ[np]?=some (.pm es'))\/∃xs ρ,f (stL n es ds)=some (.rn xs ρ)/\ρ[np]?=some (.pm es')/\d=.lst xs):=by
 unfold fnL at h;split at h
 ·rename_i hl;refine⟨hl,?_⟩;split at h
  ·rename_i x ρ e;cases e2:GT np ρ with
   |none=>simp only[e2]at h;cases h
   |some q=>simp only[e2]at h;cases h;exact .inl ⟨ρ,e,Ao e2⟩
  ·rename_i x ρ e;cases e2:GT np ρ with
   |none=>simp only[e2]at h;cases h
   |some q=>simp only[e2]at h;cases h;exact .inr ⟨x,ρ,e,Ao e2,rfl⟩
  ·cases h
 ·cases h
theorem Fi{n:Nat}{t:Sl}(h:(stL n es ds)[i]?=some t):(i=ds.length/\t=.pm es)\/t=.un\/∃d,ds[i]?=some d/\t=.im d:=by
 unfold stL at h;by_cases hi:i<ds.length
 ·rw[cF (by simpa using hi),bj,aL hi]at h;cases h;exact .inr (.inr ⟨_,aL hi,rfl⟩)
 ·rw[cz (by simpa using hi),ah]at h;cases q:i - ds.length with
  |zero=>rw[q]at h;cases h;exact .inl ⟨by omega,rfl⟩
  |succ m=>
   rw[q,gV,eV]at h;split at h
   ·cases h;exact .inr (.inl rfl)
   ·cases h
section
variable{X:Cx}{G:Bg}
theorem Qp{N:aB}(ha:H a=some (.lst xs))(h0:H0 a=none)(s:oB H0 H)(r1:oh G H0 es xs)(r:oh G H0 ds us)(hN:us.length+1<=N.length):oI G ⟨H0,H,[a]⟩ (L2.start N (us++[.ref a])) (stL N.length es ds) H0 H:={
  sub:=s
  g0:=oB.refl _
  keep:=λb o e _=>e
  fr:=λb o e=>.inl e
  am:=λb hb=>by rw[aO]at hb;subst hb;exact⟨_,ha⟩
  len:=by unfold L2.start stL;simp only[aA,ah,cb,aE,cN];have:=oi r;omega
  sl:=λi t e=>by
   rcases Fi e with ⟨rfl,rfl⟩|rfl|⟨d,e1,rfl⟩
   ·exact⟨a,xs,rH (by rw[oi r,cz (aG _),il];rfl),ha,h0,aO.mpr rfl,r1⟩
   ·trivial
   ·obtain⟨v,e2,e3⟩:=qj r e1;exact⟨v,rH (by rw[cF (bQ.mp e2).1];exact e2),e3⟩
  ap:=λi j t u b hij ei ej ht hu=>by
   rcases Fi ei with ⟨rfl,rfl⟩|rfl|⟨_,_,rfl⟩
   ·rcases Fi ej with ⟨rfl,rfl⟩|rfl|⟨_,_,rfl⟩
    ·exact ao rfl hij
    ·cases hu
    ·cases hu
   ·cases ht
   ·cases ht }
theorem Qq{N:aB}(hN:np+1<=N.length)(h:spL G (fnL np N.length f) vs H Q E):tFS G f { nx:=λ_ H'=>Q .non H',rt:=Q } (L2.start N vs) H:=by
 obtain⟨a,us,rfl,b,us',xs,H0,es,ds,d,es',e0,ha,h0,s,r1,r,e,k⟩:=h;cases e0;obtain⟨hl,e1⟩:=GU e;have R:=Qp (N:=N) ha h0 s r1 r (by rw[<-oi r,hl];exact hN);have fin:∀{v:V} {σ':St} {ρ':aZ} {H0' H':Hp},oB H0 H0'->oI G ⟨H0,H,[a]⟩ σ' ρ' H0' H'->ρ'[np]?=some (.pm es')->Rep G H0' d v->Q v H':=λs' R' e2 rv=>by obtain⟨a',ys,q1,q2,q3,q4,q5⟩:=R'.sl np _ e2;have ea:a'=a:=aO.mp q4;subst ea;exact k _ ys _ _ s' R'.sub (λb o e n=>R'.keep b o e (λz=>n (aO.mp z))) R'.fr q3 q2 q5 rv
 rcases e1 with ⟨ρ,e1,e2⟩|⟨zs,ρ,e1,e2,rfl⟩
 ·exact⟨_,_,H0,_,R,e1,λv σ' H0' H' s' R' rv=>fin s' R' e2 rv,λ_=>rfl⟩
 ·refine⟨_,_,H0,_,R,e1,λp ys σ' H0' H' s' R' hp hp0 hb ap rs=>?_,λ_=>rfl⟩;exact fin (s'.trans (oF hp0 _)) (R'.freeze hp hp0 hb ap) e2 (uX om (oh.mono (oF hp0 _) _ _ rs))
theorem W3{g:az->az->Option (D×az)}(hg:∀es ds d,g es ds=some d->ds.length=np):∀vs H Q E,spL G g vs H Q E->vs.length=np+1:=λvs H Q E h=>by obtain⟨a,us,rfl,h⟩:=h;have:=MF hg _ _ _ _ h;rw[aA];exact this
theorem Qr{n:Nat}:∀es ds d,fnL np n f es ds=some d->ds.length=np:=λ_ _ d h=>(GU (d:=d.1) (es':=d.2) h).1
def IA(G:Bg)(i:Nat)(a:FA):TA:=λσ H Q=>∃F ρ H0 ds ρ' es,oI G F σ ρ H0 H/\a ρ=some (ds,ρ')/\pZ ρ' i=some es/\∀xs b H0' H',oB H0 H0'->oI G F σ ρ' H0' H'->oh G H0' ds xs->σ[i]?=some (some (.ref b))->Q (xs++[.ref b]) H'
theorem Nv(hv:PE X e (vp i))(hs:starEach [e] X.env=[(false,eval e X.env)]:=by rfl):PA X [e] (IA G i oq):=PA.weak (qg hv uA hs) λσ H Q hh=>by obtain⟨F,ρ,H0,ds,ρ',es,R,e,el,k⟩:=hh;cases e;obtain⟨b,xs,s1,_⟩:=qw R el;exact⟨.ref b,s1,k [] b _ _ (oB.refl _) R oZ s1⟩
theorem Lk{g:FA}(ha:PE X e (tF G f))(hr:PA X es (IA G i g))(hs:starEach (e::es) X.env=(false,eval e X.env)::starEach es X.env:=by rfl):PA X (e::es) (IA G i (nY f g)):=PA.weak (qg ha hr hs) λσ H Q hh=>by obtain⟨F,ρ,H0,d,ρ',es,R,e,el,k⟩:=hh;obtain⟨x,r,ρ1,e1,e2,rfl⟩:=we e;exact⟨F,ρ,H0,x,ρ1,R,e1,λv H1 H1' s R' rv=>⟨F,ρ1,H1,r,ρ',es,R',e2,el,λxs b H2 H2' s2 R2 rs sb=>k _ _ _ _ (s.trans s2) R2 (oW (Rep.mono s2 _ _ rv) rs) sb⟩⟩
def pJ(g:az->az->Option (D×az))(i:Nat)(a:FA):FE:=λρ=>match a ρ with
 |some (ds,ρ1)=>match pZ ρ1 i with
  |some es=>match g es ds with
   |some (d,es')=>some (d,putAt ρ1 i es')
   |none=>none
  |none=>none
 |none=>none
theorem Qs{g:az->az->Option (D×az)}(h:PE X e (xp (spL G g) [] E (IA G i a))):PE X e (tF G (pJ g i a)):=PE.weak h λσ H Q hh=>by
 obtain⟨F,ρ,H0,d,ρ',R,e,k⟩:=hh;unfold pJ at e;rcases o5 (f:=a) (ρ:=ρ)with e1|⟨ds,ρ1,e1⟩<;>simp only[e1]at e
 ·cases e
 ·cases e2:pZ ρ1 i with
  |none=>simp only[e2]at e;cases e
  |some es=>
   simp only[e2]at e;cases e3:g es ds with
   |none=>simp only[e3]at e;cases e
   |some q=>obtain⟨d1,es'⟩:=q;simp only[e3]at e;cases e;refine⟨F,ρ,H0,ds,ρ1,es,R,e1,e2,λys b H1 H1' s R' rs sb=>?_⟩;obtain⟨s,es0,es1⟩:=rJ e2;obtain⟨b',xs',t1,t2,t3,t4⟩:=(R'.sl i s es0).lst es1;rw[rf t1]at sb;cases sb;refine⟨b,ys,bt _,b,ys,xs',H1,es,ds,d,es',rfl,t2,t3,R'.sub,t4,rs,e3,λv zs H2 H2' u1 u2 u3 fr w0 w1 w2 w3=>?_⟩;refine k _ _ _ (oB.trans ‹oB H0 H1› u1) ?_ w3;unfold putAt;rw[es0];exact R'.call1 es0 es1 t1 u1 u2 u3 fr w0 w1 w2
theorem Qt{k:Nat}{g:az->az->Option (D×az)}(D:vO X.prog X.w X.K X.mg X.base k x ps (spL G g))(hr:qa k X.A)(ha:PA X (e::es) (IA G i a))(hg:Gl X x:=by rfl)(hdb:(x==("__debug__" : Str))=false:=by decide)(he:starEach (e::es) X.env=(false,eval e X.env)::starEach es X.env:=by rfl)(hpl:(backTo pos (starEach es X.env)).any (·.1)=false:=by rfl):
  PE X (.Call (.Name x p) (e::es) [] pos) (tF G (pJ g i a)):=by
 obtain⟨f,fd,h1,h2,h3,h4⟩:=D;exact Qs (zh (p:=p) (pos:=pos) h4 hr hg h1 h2 h3 .nil AL ha hdb he hpl)
def y4(i:Nat)(f:FE):FE:=λρ=>match pZ ρ i with
 |some _=>match f ρ with
  |some (.int k,ρ1)=>match pZ ρ1 i with
   |some ds=>if 0<=k then match ds[k.toNat]? with
    |some d=>if k<1000000 then some (d,putAt ρ1 i (ds.eraseIdx k.toNat))else none
    |none=>none
    else none
   |none=>none
  |_=>none
 |none=>none
theorem CG:∀{H:Hp} {ds:az} {xs:bA} (n:Nat),oh G H ds xs->oh G H (ds.eraseIdx n) (xs.eraseIdx n)
 |H,[],xs,n,h=>by unfold oh at h;subst h;exact oZ
 |H,d::ds,xs,0,h=>by unfold oh at h;obtain⟨v,r,rfl,h1,h2⟩:=h;exact h2
 |H,d::ds,xs,n+1,h=>by unfold oh at h;obtain⟨v,r,rfl,h1,h2⟩:=h;exact oW h1 (CG n h2)
theorem Nw(h:PE X e (tBM G.K "list" HU (vp i) (tFA G (nY f oq)))):PE X e (tF G (y4 i f)):=PE.weak h λσ H Q hh=>by
 obtain⟨F,ρ,H0,d,ρ',R,e,k⟩:=hh;unfold y4 at e;cases e0:pZ ρ i with
 |none=>simp only[e0]at e;cases e
 |some ds0=>
  simp only[e0]at e;split at e
  ·rename_i n ρ1 e1;cases e2:pZ ρ1 i with
   |none=>simp only[e2]at e;cases e
   |some ds=>
    simp only[e2]at e;split at e
    ·rename_i hn;cases e3:ds[n.toNat]? with
     |none=>simp only[e3]at e;cases e
     |some d'=>
      simp only[e3]at e;split at e
      ·rename_i hb;cases e;obtain⟨a,xs,s1,s2,s3,_⟩:=qw R e0;refine⟨.ref a,s1,.inl ⟨rfl,xs,SqL.of s2⟩,F,ρ,H0,[.int n],ρ1,R,by unfold nY;rw[e1];rfl,λys H1 H1' s R' rs=>?_⟩;unfold oh at rs;obtain⟨v,r0,rfl,rv,rn⟩:=rs;unfold oh at rn;unfold Rep at rv;subst rn rv;obtain⟨a',xs',t1,t2,t3,t4⟩:=qw R' e2;rw[s1]at t1;cases t1;obtain⟨y,y1,y2⟩:=qj t3 e3;have hlt:=(bQ.mp y1).1;exact⟨a,xs',n,n.toNat,y,rfl,rfl,t2,by omega,by omega,j7 hn (by omega),y1,k _ _ _ s (t4 _ _ (CG _ t3)) y2⟩
      ·cases e
    ·cases e
  ·cases e
end
section
variable{P:aS}{w:aI}{K:aw}{mg:Str->Option ae}{base:Heap}{x qual:Str}{st:Stmt}{f T:Addr}{fd:bW}{N ps:aB}{k:Nat}{G:Bg}
theorem W4{n:Nat}{g:az->az->Option (D×az)}(hg:g=fnL np n b)(hp:ps.length=np+1)(hN:N.length=n)(F:Fun K x qual st f fd)(S:p5 N ps (oJ st))(body:∀(cdv:ae) (A:aQ) (outer:List Env) (s:af) (H:Hp) (E:XK),qa k (A.deeper (envOfC qual (oJ st) s.heap.objs.size f cdv))->PSs (yG P w K mg base N qual st f cdv A outer s H E) (pf st) (tFS G b)):
  su P w K mg base CX0 (k+1) f fd ps (spL G g):=by
 subst hg hN;refine F.ok S (λvs H Q E h=>?_) λcdv A outer s H vs Q E hr h=>⟨_,body cdv A outer s H E hr,Qq (by have:=aR bT S.pre;rw[br]at this;omega) h⟩;rw[hp];exact W3 Qr vs H Q E h
end
end L4
namespace L4
open PySem PySem.Spec PySem.Calls PyProof.Rows PySem.W L2 L3
def Ll{α:Type}(c:Nat->Nat->Bool):KasT α->α
 |.ret a=>a
 |.ask i j k=>Ll c (k (c i j))
def sY{α:Type}(P:Nat->Nat->Prop)(R:α->Prop):KasT α->Prop
 |.ret a=>R a
 |.ask i j k=>P i j/\∀b,sY P R (k b)
theorem sY.run{α:Type}{P:Nat->Nat->Prop}{R:α->Prop}(c:Nat->Nat->Bool):∀(t:KasT α),sY P R t->R (Ll c t)
 |.ret a,h=>h
 |.ask i j k,h=>sY.run c (k (c i j)) (h.2 (c i j))
theorem sY.bind{α β:Type}{P:Nat->Nat->Prop}{R:α->Prop}{S:β->Prop}{f:α->KasT β}(hf:∀a,R a->sY P S (f a)):∀{t:KasT α},sY P R t->sY P S (t.bind f)
 |.ret a,h=>hf a h
 |.ask i j k,h=>⟨h.1,λb=>sY.bind hf (h.2 b)⟩
theorem JT{α:Type}{cmp:Nat->Nat->(Bool->af->Prop)->af->Prop}{c:Nat->Nat->Bool}{P:Nat->Nat->Prop}{s:af}{Q:α->af->Prop}(hc:∀i j C,P i j->C (c i j) s->cmp i j C s):
  ∀{R:α->Prop} {t:KasT α},sY P R t->Q (Ll c t) s->t.kasWp cmp Q s
 |R,.ret a,_,q=>q
 |R,.ask i j k,h,q=>hc i j _ h.1 (JT hc (h.2 (c i j)) q)
def qV(n:Nat)(p:Array Nat):Prop:=p.toList.Perm (bz n)
theorem qV.getD{n:Nat}(h:qV n p)(hn:0<n)(i:Nat):p.getD i 0<n:=by
 unfold Array.getD;split
 ·rename_i hi;have:p[i]∈p.toList:=by simp
  exact cq.mp (h.mem_iff.mp this)
 ·exact hn
theorem qV.rev{n:Nat}(h:qV n p)(i j:Nat):qV n (kas_rev p i j):=by unfold qV kas_rev mirror;exact(kX.mp (foldl_swaps_perm _ _ _ _)).trans h
theorem qV.bub{n:Nat}(h:qV n p)(i j:Nat):qV n (bubble p i j):=(kX.mp (bubble_perm _ _ _)).trans h
abbrev In2(n:Nat):Nat->Nat->Prop:=λi j=>i<n/\j<n
theorem Fj{n:Nat}(hn:0<n)(h:qV n p):∀f k,sY (In2 n) (λ_=>True) (kas_asc p f k)
 |0,k=>trivial
 |f+1,k=>⟨⟨h.getD hn _,h.getD hn _⟩,λb=>by cases b<;>first|exact trivial|exact Fj hn h f (k+1)⟩
theorem zx{n:Nat}(hn:0<n):∀f (p:Array Nat) k q,qV n p->sY (In2 n) (λr=>qV n r.1) (kas_desc f p k q)
 |0,p,k,q,h=>h
 |f+1,p,k,q,h=>⟨⟨h.getD hn _,h.getD hn _⟩,λb=>by
   cases b with
   |true=>
    show sY _ _ (if q > 0 then _ else _);split
    ·exact zx hn f _ _ _ (h.rev _ _)
    ·exact zx hn f _ _ _ h
   |false=>
    refine⟨⟨h.getD hn _,h.getD hn _⟩,λd=>?_⟩;cases d with
    |true=>exact h
    |false=>exact zx hn f _ _ _ h⟩
theorem GV{n:Nat}(hn:0<n)(h:qV n p)(k m:Nat):sY (In2 n) (λr=>qV n r.2) (kas_tail3 k m p):=
 sY.bind (P:=In2 n) (R:=λ_=>True) (S:=λ(r:Nat×Array Nat)=>qV n r.2) (f:=λm=>.ret (m,kas_rev p 0 k)) (λa _=>h.rev 0 k) (Fj hn (h.rev 0 k) _ _)
theorem zy{n:Nat}(hn:0<n)(h:qV n p)(k m:Nat):sY (In2 n) (λr=>qV n r.2) (kas_descPart k m p):=
 sY.bind (λr hr=>by
  show sY _ _ (if r.2.2 > 0 then _ else _);split
  ·exact GV hn (hr.rev _ _) _ _
  ·exact GV hn hr _ _) (zx hn _ p _ _ h)
theorem Lm{n:Nat}(hn:0<n)(h:qV n p)(m:Nat):sY (In2 n) (λr=>qV n r.2) (kas_count m p):=
 sY.bind (λk _=>by
  show sY _ _ (if (k==m)=true then _ else _);split
  ·exact h
  ·split
   ·refine⟨⟨h.getD hn _,h.getD hn _⟩,λb=>?_⟩;cases b with
    |true=>exact h
    |false=>exact zy hn (h.rev _ _) _ _
   ·exact zy hn h _ _) (Fj hn h _ _)
theorem Ap{n:Nat}(hn:0<n)(h:qV n p)(k:Nat):∀f l r,sY (In2 n) (λ_=>True) (kas_place p k f l r)
 |0,l,r=>trivial
 |f+1,l,r=>by
  unfold kas_place;split
  ·trivial
  ·refine⟨⟨h.getD hn _,h.getD hn _⟩,λb=>?_⟩;cases b with
   |true=>exact Ap hn h k f _ _
   |false=>exact Ap hn h k f _ _
theorem JU{n:Nat}(hn:0<n):∀f (p:Array Nat) k,qV n p->sY (In2 n) (qV n) (kas_bin f p k)
 |0,p,k,h=>h
 |f+1,p,k,h=>sY.bind (λl _=>JU hn f _ _ (h.bub _ _)) (Ap hn h k _ _ _)
theorem CH{n:Nat}(hn:0<n):sY (In2 n) (qV n) (iF n):=
 sY.bind (λr hr=>by
  show sY _ _ (if r.1<n then _ else _);split
  ·exact JU hn _ _ _ hr
  ·exact hr) (Lm hn (p:=List.toArray (bz n)) (by unfold qV;exact jJ _) n)
def zz(a:Addr)(h h':Heap):Prop:=∀b o,b≠a->h.get? b=some o->h'.get? b=some o
section
variable{prog:aS}{w:aI}{A:aQ}{E:ae->af->Prop}{s:af}
def Aq(c:Nat->Nat->Bool)(vs:List ae):List ae:=(Ll c (iF vs.length)).toList.map λi=>vs.getD i Value.none
theorem Nx(c:Nat->Nat->Bool)(vs:List ae)(h:0<vs.length):(Aq c vs).length=vs.length:=by unfold Aq;rw[ah];have:=(CH h).run c _;rw[this.length_eq,fW]
theorem Ny(c:Nat->Nat->Bool)(v:ae):Aq c [v]=[v]:=rfl
theorem NA{vs:List ae}{n:Nat}(ho:s.heap.get? a=some (seqObj "list" vs.toArray n))(h1:0<vs.length)(h64:vs.length<64)
  (hk:∀(h':Heap) (C:SortKind->af->Prop),zz a s.heap h'->C κ { s with heap:=h' }->wpAny (model prog w) A (keyKind' vs.toArray) C (λ_ _=>False) { s with heap:=h' })
  (hc:∀(h':Heap) (i j:Nat) (C:Bool->af->Prop),zz a s.heap h'->i<vs.length/\j<vs.length->C (c i j) { s with heap:=h' }->kas_ask prog w A κ vs i j C { s with heap:=h' })
  (h:∀h' e,zz a s.heap h'->h'.get? a=some (seqObj "list" (Aq c vs).toArray e)->P (.done (.ret .none)) { s with heap:=h' }):
  wpAny (model prog w) A (dP.«list.sort» ⟨[.ref a],[]⟩) P E s:=by
 have ha:a<s.heap.objs.size:=aN ho;obtain⟨e1,o1⟩:∃e1,(s.heap.update a (cP λ_=>(#[]:Array ae))).get? a=some (seqObj "list" #[] e1):=⟨_,get?_update_seq ho λ_=>#[]⟩;generalize hw:((s.heap.update a (cP λ_=>(#[]:Array ae))).push (seqObj "tuple" vs.toArray 0)).push (seqObj "list" #[] 0)=h3;have kb:zz a s.heap h3:=λb o hb q=>by rw[<-hw];exact aK _ (aK _ ((fO s.heap _ (cQ hb)).trans q))
 have o3:h3.get? a=some (seqObj "list" #[] e1):=by rw[<-hw];exact aK _ (aK _ o1)
 rw[list_sort_plain];refine au (listItems_at ho rfl (au (jP ho rfl ?_ (by rw[bf,bJ];omega) (cj _))));refine au (j9 o1 rfl (au (wpAny_newTuple ?_ (by show vs.length<=_;rw[bJ];omega))));refine au (jQ (cG ?_) (cj _));show wpAny (model prog w) A _ P E { s with heap:=((s.heap.update a (cP λ_=>(#[]:Array ae))).push (seqObj "tuple" vs.toArray 0)).push (seqObj "list" #[] 0) };rw[hw];dsimp only;obtain⟨c2,hc2⟩:∃c2,(h3.update a (cP λ_=>(Aq c vs).toArray)).get? a=some (seqObj "list" (Aq c vs).toArray c2):=⟨_,get?_update_seq o3 λ_=>(Aq c vs).toArray⟩;have fin:=h _ c2 (λb o hb q=>(fO h3 _ (cQ hb)).trans (kb b o hb q)) hc2;have szo:(Aq c vs).toArray.size<=sizeLine+1:=by rw[bf,Nx c vs h1,bJ];omega
 by_cases h2:2<=vs.length
 ·have hn2:¬vs.toArray.size<2:=by rw[bf];omega
  rw[aj hn2,aj hn2];refine au (bU (hk h3 (λk s'=>k=κ/\s'={ s with heap:=h3 }) kb ⟨rfl,rfl⟩) ?_ λ_ _ x=>x.elim);rintro k s' ⟨rfl,rfl⟩;refine au (bU (kat_run (Q:=λst' s'=>s'={ s with heap:=h3 }/\(arrOf st').map (·.2)=(Aq c vs).toArray/\failedOf st'=none) (G:=λp s'=>p=Ll c (iF vs.length)/\s'={ s with heap:=h3 }) rfl h2 h64 ?_ ?_) ?_ λ_ _ e=>e)
  ·rintro p st' s' _ har hf ⟨rfl,rfl⟩;exact⟨rfl,kat_snds rfl har,hf⟩
  ·exact JT (P:=In2 vs.length) (λi j C q r=>hc h3 i j C kb q r) (CH h1) ⟨rfl,rfl⟩
  ·rintro⟨⟨⟩,st'⟩ s' ⟨rfl,ha2,hf⟩;dsimp only;refine au (j9 o3 rfl ?_);rw[ha2,hf];refine au (jP o3 rfl ?_ (cj _) szo);simp only[bne_self_eq_false,dZ,if_false];exact aD fin
 ·obtain⟨v,rfl⟩:∃v,vs=[v]:=by
   cases vs with
   |nil=>cases h1
   |cons v r=>
    cases r with
    |nil=>exact⟨v,rfl⟩
    |cons x y=>exact ao (by simp) h2
  refine au (aD ?_);refine au (aD ?_);refine au (j9 o3 rfl ?_);have eo:Array.map (λx=>x.snd) (arrOf ((),SortSt.mk' general' (#[v].zip #[v]) #[] 7 none).snd)=(Aq c [v]).toArray:=by rw[Ny];show Array.map (λx=>x.snd) (#[v].zip #[v])=#[v];simp
  rw[eo];refine au (jP o3 rfl ?_ (cj _) szo);simp only[bne_self_eq_false,dZ,if_false];exact aD fin
theorem IB{n:Nat}{vs:List ae}(hT:T="list" \/ T="tuple")(ho:s.heap.get? l=some o)(hcl:o.cls=.type T)(hd:o.data=.seq vs.toArray n)(h1:0<vs.length)(h64:vs.length<64)
  (hk:∀(h':Heap) (C:SortKind->af->Prop),(∀b o,s.heap.get? b=some o->h'.get? b=some o)->C κ { s with heap:=h' }->wpAny (model prog w) A.in1.in1 (keyKind' vs.toArray) C (λ_ _=>False) { s with heap:=h' })
  (hc:∀(h':Heap) (i j:Nat) (C:Bool->af->Prop),(∀b o,s.heap.get? b=some o->h'.get? b=some o)->i<vs.length/\j<vs.length->C (c i j) { s with heap:=h' }->kas_ask prog w A.in1.in1 κ vs i j C { s with heap:=h' })
  (h:∀(g h':Heap) e,(∀b o,s.heap.get? b=some o->g.get? b=some o)->(∀b o,g.get? b=some o->h'.get? b=some o)->h'.get? g.objs.size=some (seqObj "list" (Aq c vs).toArray e)->Q (.ref g.objs.size) { s with heap:=h' }):
  wpAny (model prog w) A (call (.builtin "sorted") [.ref l]) Q E s:=by
 refine kZ kind_sorted plain_sorted entry_sorted (args_sorted1 _) ?_;unfold dP.«sorted»;refine au (m:=checkCount "sorted" 1 1 _) (aD (au (wpAny_collect_seq l hT ho hcl hd (λg gk=>?_) (by rw[bJ];simp;omega))));refine au (jQ ?_ (by rw[bJ];simp;omega));show wpAny _ _ _ _ _ { s with heap:=g.push (seqObj "list" vs.toArray 0) };have on:(g.push (seqObj "list" vs.toArray 0)).get? g.objs.size=some (seqObj "list" vs.toArray 0):=bu _ rfl;have all:∀h',zz g.objs.size (g.push (seqObj "list" vs.toArray 0)) h'->∀b o,g.get? b=some o->h'.get? b=some o:=λh' kb b o q=>kb b o (aX (aN q)) (aK _ q)
 show wpAny _ _ (do let _<-holding [Value.ref g.objs.size] _;_) _ _ _;refine au (cG (jA slot_list_sort ⟨_,on,rfl⟩ entry_list_sort ?_ (args_list_sort _)));refine NA (s:={ s with heap:=g.push (seqObj "list" vs.toArray 0) }) on h1 h64 (λh' C kb q=>hk h' C (λb o z=>all h' kb b o (gk b o z)) q) (λh' i j C kb q r=>hc h' i j C (λb o z=>all h' kb b o (gk b o z)) q r) λh' e kb q=>?_;exact⟨_,rfl,aD ⟨_,rfl,h g h' e gk (all h' kb) q⟩⟩
end
def ltS(a b:Str):Bool:=decide (a.cps.toList<b.cps.toList)
def xB:aB->aB->Bool
 |[],[]=>false
 |[],_::_=>true
 |_::_,[]=>false
 |x::xs,y::ys=>if x=y then xB xs ys else ltS x y
inductive qh:List ae->aB->Prop
 |nil:qh [] []
 |cons (x:Str) (t:Tok) {vs:List ae} {xs:aB} (h:qh vs xs):qh (.str x t::vs) (x::xs)
theorem qh.len(h:qh vs xs):vs.length=xs.length:=by
 induction h with
 |nil=>rfl
 |cons x t h ih=>rw[aE,aE,ih]
theorem y6:∀{xs:aB} {vs:List ae},Vals (xs.map V.str) vs->qh vs xs
 |[],vs,h=>by cases h;exact .nil
 |x::xs,vs,h=>by
  cases h with
  |cons r h'=>obtain⟨t,rfl⟩:=r;exact .cons x t (y6 h')
section
open PySem.SeqAt
open PySem.AutoSeq1 (wpAny_loadPart')
open PySem.MeetsSeq PySem.MeetsSeq2 PySem.MeetsSeq3
theorem DP(l b:Addr)(is js:Array ae)(n m:Nat)(d1 d2:Option Addr)(q1 q2:Array (Option ae))(xs ys:aB)(hi:qh is.toList xs)(hj:qh js.toList ys):
  Meets (dP.«tuple.__lt__» ⟨[.ref l,.ref b],[]⟩)
   (λ_ R s=>s.heap.get? l=some { cls:=.type "tuple", dict:=d1,data:=.seq is n,slots:=q1 }/\s.heap.get? b=some { cls:=.type "tuple", dict:=d2,data:=.seq js m,slots:=q2 }/\R (.ok (.ret (.bool (xB xs ys)))) s):=
 .of_wp λprog w A R s h=>by
  obtain⟨hp,g,d,tk,os⟩:=s;obtain⟨hl,hb,h⟩:=h;have f2:=lg;have z1:is.size=xs.length:=by rw[<-hi.len,eW]
  have z2:js.size=ys.length:=by rw[<-hj.len,eW]
  wp_walk using ly hl,ly hb,hU _ (λrest b s'=>b.1=none/\s'=⟨hp,g,d,tk,os⟩/\∃(vs ws:List ae) (xs' ys':aB),rest=vs.zip ws/\qh vs xs'/\qh ws ys'/\xs'.length+js.size=ys'.length+is.size/\R (.ok (.ret (.bool (xB xs' ys')))) ⟨hp,g,d,tk,os⟩) _
  case turn=>
   rintro⟨y,x⟩ rest b s' ⟨hb',rfl,vs,ws,xs',ys',hz,hv,hw,hlen,hR⟩;cases hv with
   |nil=>cases hz
   |cons a t hv'=>
    cases hw with
    |nil=>cases hz
    |cons c u hw'=>
     rw[df]at hz;obtain⟨hyx,hrest⟩:=jR hz;obtain⟨rfl,rfl⟩:=j2 hyx;simp only[aE]at hlen;unfold xB at hR;refine au (lX a t c u prog w _ _ ?_);by_cases hac:a=c
     ·subst hac;rw[ai rfl]at hR;simp only[beq_self_eq_true]
      wp_walk
      exact⟨rfl,rfl,_,_,_,_,hrest,hv',hw',by omega,hR⟩
     ·rw[aj hac]at hR;rw[beq_false_of_ne hac];have hri:∀(E Q),Q (.bool (decide (a.cps.toList<c.cps.toList))) (⟨hp,g,d,tk,os⟩:af)->wpAny (model prog w) A.in1 (richCompare .Lt (.str a t) (.str c u)) Q E ⟨hp,g,d,tk,os⟩:=λE Q hq=>(PyProof.Rows.lt_str hq:wpAny (model prog w) A.in1 (compareOp .Lt (.str a t) (.str c u)) Q E _)
      wp_walk using hri
      exact⟨_,rfl,by simpa [ltS]using hR⟩
  case fin=>
   rintro⟨b1,b2⟩ s' ⟨hb',rfl,vs,ws,xs',ys',hz,hv,hw,hlen,hR⟩;simp only at hb';subst hb';have hq:xB xs' ys'=decide (is.size<js.size):=by
    cases hv with
    |nil=>
     cases hw with
     |nil=>exact(aH (by simp only[cN]at hlen;omega)).symm
     |cons c u hw=>exact(aT (by simp only[cN,aE]at hlen;omega)).symm
    |cons a t hv=>
     cases hw with
     |nil=>exact(aH (by simp only[cN,aE]at hlen;omega)).symm
     |cons c u hw=>cases hz
   rw[hq]at hR
   wp_walk
   exact⟨_,rfl,by simpa [Builtin.Tuple.tupleCompareSizes]using hR⟩
  case h=>exact⟨rfl,rfl,is.toList,js.toList,xs,ys,rfl,hi,hj,by omega,h⟩
end
section
variable{prog:aS}{w:aI}{A:aQ}{E:ae->af->Prop}{s:af}
theorem IC(hl:dQ s.heap l is)(hb:dQ s.heap b js)(hi:qh is.toList xs)(hj:qh js.toList ys)(hu:A.units<cLine)(h:Q (.bool (xB xs ys)) s):
  wpAny (model prog w) A (compareOp .Lt (.ref l) (.ref b)) Q E s:=by
 obtain⟨⟨c1,d1,p1,s1⟩,o1,rfl,n,rfl⟩:=id hl;obtain⟨⟨c2,d2,p2,s2⟩,o2,rfl,m,rfl⟩:=id hb;exact richCompare_meets_room (op:=.Lt) ⟨_,o1,rfl⟩ ⟨_,o2,rfl⟩ F.slot_tuple_lt F.entry_tuple_lt (F.args_tuple_lt_2 _ _) (DP l b is js n m d1 d2 s1 s2 xs ys hi hj) ⟨o1,o2,show Value.bool (xB xs ys)≠Value.notImplemented/\Q (.bool (xB xs ys)) s from⟨(λx=>nomatch x),h⟩⟩ hu
end
def GW(c:Nat->Nat->Bool)(n:Nat):List Nat:=(Ll c (iF n)).toList
theorem Ar(c:Nat->Nat->Bool){n:Nat}(h:0<n):(GW c n).Perm (bz n):=(CH h).run c _
theorem Fk(c:Nat->Nat->Bool){n:Nat}(h:0<n):∀i∈GW c n,i<n:=λi hi=>cq.mp ((Ar c h).mem_iff.mp hi)
theorem Eh:∀l:aB,xB l l=false
 |[]=>rfl
 |x::l=>by unfold xB;rw[ai rfl];exact Eh l
theorem Ei:∀(l m:aB),tV (l.map L3.Dq.str) (m.map L3.Dq.str)=decide (l=m)
 |[],[]=>by rw[bI,tV];simp
 |[],y::m=>by rw[bI,ay,tV]<;>simp
 |x::l,[]=>by rw[bI,ay,tV]<;>simp
 |x::l,y::m=>by
  rw[ay,ay,tV,Ei l m,eqD];by_cases h1:x=y
  ·subst h1;by_cases h2:l=m
   ·subst h2;simp
   ·simp[h2]
  ·have:(x==y)=false:=beq_false_of_ne h1;rw[this];simp[h1]
theorem Ej(r:Vals xs us):∀(is:List Nat),(∀i∈is,i<xs.length)->Vals (is.map λi=>xs.getD i V.non) (is.map λi=>us.getD i Value.none)
 |[],_=>.nil
 |i::is,h=>by have hi:=h i (.head _);obtain⟨u,e,ru⟩:=r.get (aL hi);refine .cons ?_ (Ej r is λj hj=>h j (.tail _ hj));show RelV (xs.getD i V.non) (us.getD i Value.none);rw[ck,ck,e,aL hi];exact ru
section
variable{X:Cx}{G:Bg}{pins:cy}{σ:St}{H:Hp}{s:af}
def wu(K:aw)(H:Hp)(y:V)(k:aB):Prop:=∃a b v,y=.ref a/\SqT K H a [.ref b,v]/\SqT K H b (k.map V.str)
theorem ID(I:Inv X pins σ H s){k:aB}(p:wu X.K H y k)(r:RelV y u):
  ∃a b v,u=.ref a/\dQ s.heap a #[.ref b,v]/\SqT X.K H b (k.map V.str):=by
 obtain⟨a,b,v,rfl,h1,h2⟩:=p;cases r;obtain⟨its,ri,ti,_⟩:=I.tuple h1;cases ri with
 |cons q1 q2=>
  cases q1;cases q2 with
  |cons q3 q4=>cases q4;exact⟨a,b,_,rfl,ti,h2⟩
theorem seq_val{s:af}(I:Inv X pins σ H s)(hq:SqL X.K H a ys\/SqT X.K H a ys):∃its,Vals ys its/\∃T o n,(T="list" \/ T="tuple")/\s.heap.get? a=some o/\o.cls=.type T/\o.data=.seq its.toArray n:=by
 rcases hq with hq|hq
 ·obtain⟨its,ri,pl,_⟩:=I.list hq;obtain⟨o,a1,a2,n,a3⟩:=pl.isList;exact⟨its,ri,_,o,n,.inl rfl,a1,a2,a3⟩
 ·obtain⟨its,ri,⟨o,a1,a2,n,a3⟩,_⟩:=I.tuple hq;exact⟨its,ri,_,o,n,.inr rfl,a1,a2,a3⟩
theorem Fl(hu:X.A.units+64<cLine):qr X (.builtin "sorted") (λxs H Q=>∃(a:Addr) (ys:bA) (ks:List aB),xs=[.ref a]/\(SqL X.K H a ys\/SqT X.K H a ys)/\0<ys.length/\ys.length<64/\ks.length=ys.length/\ks.Nodup/\(∀(i:Nat) (y:V) (k:aB),ys[i]?=some y->ks[i]?=some k->wu X.K H y k)/\
  ∀p,H p=none->Q (.ref p) (upd H p (.lst ((GW (λi j=>xB (ks.getD i []) (ks.getD j [])) ys.length).map λi=>ys.getD i V.non)))):=by
 intro pins s σ H xs us Q I r h;obtain⟨a,ys,ks,rfl,hq,h1,h64,hkl,nd,hp,q⟩:=h;obtain⟨u,rfl,ru⟩:=vals1 r;cases ru;obtain⟨its,ri,T,ob,nn,hT,b1,b2,b3⟩:=seq_val I hq;have hl:ys.length=its.length:=ri.length;have item:∀{h':Heap},(∀b o,s.heap.get? b=some o->h'.get? b=some o)->∀i,i<its.length->∃a b v,its.getD i Value.none=.ref a/\dQ h' a #[.ref b,v]/\SqT X.K H b ((ks.getD i []).map V.str)/\its[i]?=some (.ref a):=λ{h'} kk i hi=>by
  have I':Inv X pins σ H { s with heap:=h',toks:=s.toks }:=I.kept kk;have hy:i<ys.length:=by omega
  have hk:i<ks.length:=by omega
  obtain⟨u,e,ru⟩:=ri.get (aL hy);obtain⟨a,b,v,rfl,t,t2⟩:=ID I' (hp i _ _ (aL hy) (aL hk)) ru;refine⟨a,b,v,?_,t,?_,e⟩
  ·rw[ck,e];rfl
  ·rw[ck,aL hk];exact t2
 refine IB (κ:=tuples' false) (c:=λi j=>xB (ks.getD i []) (ks.getD j [])) hT b1 b2 b3 (by omega) (by omega) (λh' C kk hC=>?_) (λh' i j C kk hij hC=>?_) λg h' e k1 k2 ho=>?_
 ·
  have I':Inv X pins σ H { s with heap:=h',toks:=s.toks }:=I.kept kk;have tups:∀(l:List ae),(∀v∈l,∃i,i<its.length/\its[i]?=some v)->∃fs,KatTups h' l fs/\fs.length=l.length/\∀f∈fs,∃(b:Addr) (k:aB),f=.ref b/\SqT X.K H b (k.map V.str):=λl=>by
   induction l with
   |nil=>exact λ_=>⟨[],KatTups.nil,rfl,λf hf=>by cases hf⟩
   |cons v l ih=>
    intro hv;obtain⟨fs,f1,f2,f3⟩:=ih λw hw=>hv w (.tail _ hw);obtain⟨i,hi,ei⟩:=hv v (.head _);obtain⟨a,b,w,_,⟨o,t1,t2,n,t3⟩,t4,t5⟩:=item kk i hi;rw[ei]at t5;cases t5;refine⟨.ref b::fs,KatTups.cons t1 t2 t3 (by simp) f1,by rw[aE,aE,f2],λf hf=>?_⟩;rcases aM.mp hf with rfl|hf
    ·exact⟨b,_,rfl,t4⟩
    ·exact f3 f hf
  obtain⟨fs,f1,f2,f3⟩:=tups its λv hv=>by obtain⟨i,hi,e⟩:=jh.mp hv;exact⟨i,hi,by rw[aL hi,e]⟩
  refine kat_kind (T:=.type "tuple") f1 (by omega) (λv hv=>?_) (by decide) hC;obtain⟨b,k,rfl,hb⟩:=f3 v hv;obtain⟨_,_,⟨o,t1,t2,_⟩,_⟩:=I'.tuple hb;rw[<-t2];exact(Looks.ld t1).andThen .now
 ·
  have I':Inv X pins σ H { s with heap:=h',toks:=s.toks }:=I.kept kk;obtain⟨a1,b1,v1,e1,⟨o1,g1,c1,n1,d1⟩,k1,_⟩:=item kk i hij.1;obtain⟨a2,b2,v2,e2,⟨o2,g2,c2,n2,d2⟩,k2,_⟩:=item kk j hij.2;unfold kas_ask;by_cases hne:i=j
  ·subst hne;rw[e1]at e2;cases e2;rw[e1];refine kat_lt g1 d1 g1 d1 ?_;show KatLex _ _ _ _ _ _ [(Value.ref b1,Value.ref b1),(v1,v1)] 0 _;refine kat_cons (f6 _ _ _ _ _ (kat_yes (kat_cons (f6 _ _ _ _ _ (kat_yes (kat_nil ?_))))));rw[Eh]at hC;exact hC
  ·rw[e1,e2];have kne:ks.getD i []≠ks.getD j []:=λz=>hne (by
    have hi:i<ks.length:=by omega
    have hj:j<ks.length:=by omega
    rw[ck,ck,aL hi,aL hj]at z;have pw:=la.mp nd;rcases mj i j with y|y|y
    ·exact ao z (pw i j hi hj y)
    ·exact y
    ·exact ao z.symm (pw j i hj hi y))
   refine kat_lt g1 d1 g2 d2 ?_;show KatLex _ _ _ _ _ _ [(Value.ref b1,Value.ref b2),(v1,v2)] 0 _;have rp:∀{b:Addr} {k:aB},SqT X.K H b (k.map V.str)->L3.Rep X.K H (L3.Dq.tup (k.map L3.Dq.str)) (.ref b):=λh=>by unfold L3.Rep;exact⟨_,_,rfl,h,D8 _⟩
   have dp:∀l:aB,dpt (L3.Dq.tup (l.map L3.Dq.str))=1:=λl=>by unfold dpt;rw[yi]
   have eq:=Ml I' _ _ _ _ (.ref b1) (.ref b2) X.A.in1.in1 (rp k1) (rp k2) rfl rfl (by rw[dp,dp,hX,hX];omega);rw[show eqD (L3.Dq.tup ((ks.getD i []).map L3.Dq.str)) (L3.Dq.tup ((ks.getD j []).map L3.Dq.str))=false from by rw[eqD,Ei];exact aH kne]at eq;refine kat_cons (eq _ _ _ _ (kat_no ?_));obtain⟨i1,r1,t1,_⟩:=I'.tuple k1;obtain⟨i2,r2,t2,_⟩:=I'.tuple k2;exact kat_one _ _ (IC t1 t2 (y6 r1) (y6 r2) (by rw[hX,hX];omega) hC)
 ·have I1:Inv X pins σ H { s with heap:=g,toks:=s.toks }:=I.kept k1;refine⟨.ref g.objs.size,_,I1.laid (t':=s.toks) k2 (aG _) ?_,rfl,q _ (I1.hok.fresh (aG _))⟩;have hn:0<ys.length:=h1;refine⟨?_,Aq _ its,e,?_,ho⟩
  ·rw[ah,(Ar _ hn).length_eq,fW,bJ];omega
  ·unfold Aq;rw[<-hl];exact Ej ri _ λi hi=>Fk _ hn i hi
def GX:az->Option aB
 |[]=>some []
 |.str x::ds=>match GX ds with
  |some xs=>some (x::xs)
  |none=>none
 |_=>none
def NB:D->Option aB
 |.tup [.tup ks,_]=>GX ks
 |_=>none
def xC:az->Option (List aB)
 |[]=>some []
 |d::ds=>match NB d,xC ds with
  |some k,some ks=>some (k::ks)
  |_,_=>none
def Ek(ds:az):Option az:=match xC ds with
 |some ks=>if ks.Nodup/\0<ds.length/\ds.length<64 then some ((GW (λi j=>xB (ks.getD i []) (ks.getD j [])) ds.length).map λi=>ds.getD i .non)else none
 |none=>none
def CI(f:FE):FA:=λρ=>match f ρ with
 |some (.lst ds,ρ')=>match Ek ds with
  |some es=>some (es,ρ')
  |none=>none
 |_=>none
theorem CJ:∀{ds:az} {xs:bA} {l:aB},oh G H ds xs->GX ds=some l->xs=l.map V.str
 |[],xs,l,r,e=>by cases e;unfold oh at r;exact r
 |d::ds,xs,l,r,e=>by
  cases d with
  |str x=>
   unfold GX at e;cases e1:GX ds with
   |none=>rw[e1]at e;cases e
   |some l'=>rw[e1]at e;cases e;unfold oh at r;obtain⟨v,r',rfl,h1,h2⟩:=r;unfold Rep at h1;subst h1;rw[CJ h2 e1,ay]
  |_=>cases e
theorem NC{v:V}{k:aB}(r:Rep G H d v)(e:NB d=some k):wu G.K H v k:=by
 unfold NB at e;split at e
 ·rename_i ks w;unfold Rep at r;obtain⟨a,xs,rfl,h1,h2⟩:=r;unfold oh at h2;obtain⟨v1,r1,rfl,q1,q2⟩:=h2;unfold oh at q2;obtain⟨v2,r2,rfl,_,q3⟩:=q2;unfold oh at q3;subst q3;unfold Rep at q1;obtain⟨b,ys,rfl,p1,p2⟩:=q1;rw[CJ p2 e]at p1;exact⟨a,b,v2,rfl,h1,p1⟩
 ·cases e
theorem El:∀{ds:az} {ks:List aB},xC ds=some ks->ks.length=ds.length
 |[],ks,e=>by cases e;rfl
 |d::ds,ks,e=>by
  unfold xC at e;cases e1:NB d with
  |none=>rw[e1]at e;cases e
  |some k=>
   cases e2:xC ds with
   |none=>rw[e1,e2]at e;cases e
   |some ks'=>rw[e1,e2]at e;cases e;rw[aE,aE,El e2]
theorem Em:∀{ds:az} {ks:List aB} {xs:bA},oh G H ds xs->xC ds=some ks->∀(i:Nat) (y:V) (k:aB),xs[i]?=some y->ks[i]?=some k->wu G.K H y k
 |[],ks,xs,r,e,i,y,k,h1,h2=>by cases e;cases h2
 |d::ds,ks,xs,r,e,i,y,k,h1,h2=>by
  unfold xC at e;cases e1:NB d with
  |none=>rw[e1]at e;cases e
  |some k'=>
   cases e2:xC ds with
   |none=>rw[e1,e2]at e;cases e
   |some ks'=>
    rw[e1,e2]at e;cases e;unfold oh at r;obtain⟨v,r',rfl,q1,q2⟩:=r;cases i with
    |zero=>cases h1;cases h2;exact NC q1 e1
    |succ i=>exact Em q2 e2 i y k h1 h2
theorem En(r:oh G H ds xs):∀(is:List Nat),(∀i∈is,i<ds.length)->oh G H (is.map λi=>ds.getD i .non) (is.map λi=>xs.getD i V.non)
 |[],_=>oZ
 |i::is,h=>by have hi:=h i (.head _);obtain⟨v,e,rv⟩:=qj r (aL hi);refine oW ?_ (En r is λj hj=>h j (.tail _ hj));show Rep G H (ds.getD i .non) (xs.getD i V.non);rw[ck,ck,e,aL hi];exact rv
theorem SqT.same{K:aw}{k:aB}(s:oB H0 H1)(p:wu K H0 y k):wu K H1 y k:=by obtain⟨a,b,v,e,h1,h2⟩:=p;exact⟨a,b,v,e,SqT.mono s h1,SqT.mono s h2⟩
theorem GY{g:FE}(hg:∀ρ ds ρ1,g ρ=some (.lst ds,ρ1)->f ρ=some (.lst ds,ρ1)\/f ρ=some (.tup ds,ρ1))(h:PE X e (tCB (λxs H Q=>∃(a:Addr) (ys:bA) (ks:List aB),xs=[.ref a]/\(SqL G.K H a ys\/SqT G.K H a ys)/\0<ys.length/\ys.length<64/\ks.length=ys.length/\ks.Nodup/\(∀(i:Nat) (y:V) (k:aB),ys[i]?=some y->ks[i]?=some k->wu G.K H y k)/\
  ∀p,H p=none->Q (.ref p) (upd H p (.lst ((GW (λi j=>xB (ks.getD i []) (ks.getD j [])) ys.length).map λi=>ys.getD i V.non)))) (tFA G (nY f oq)))):PE X e (tFN G (CI g)):=PE.weak h λσ H Q hh=>by
 obtain⟨F,ρ,H0,es,ρ',R,e,k⟩:=hh;unfold CI at e;split at e
 ·rename_i ds ρ1 e1;cases e2:Ek ds with
  |none=>simp only[e2]at e;cases e
  |some es'=>
   simp only[e2]at e;cases e;unfold Ek at e2;cases e3:xC ds with
   |none=>simp only[e3]at e2;cases e2
   |some ks=>
    simp only[e3]at e2;split at e2
    ·rename_i hh;obtain⟨nd,hn,h64⟩:=hh;cases e2;have xx:∃x,f ρ=some (x,ρ')/\∀H v,Rep G H x v->∃a xs,v=V.ref a/\(H a=some (.lst xs)\/SqT G.K H a xs)/\oh G H ds xs:=by
      rcases hg _ _ _ e1 with q|q
      ·exact⟨_,q,λH v r=>by unfold Rep at r;obtain⟨a,xs,e,h1,h2⟩:=r;exact⟨a,xs,e,.inl h1,h2⟩⟩
      ·exact⟨_,q,λH v r=>by unfold Rep at r;obtain⟨a,xs,e,h1,h2⟩:=r;exact⟨a,xs,e,.inr h1,h2⟩⟩
     obtain⟨x,ex,hx⟩:=xx;refine⟨F,ρ,H0,[x],_,R,by unfold nY;rw[ex];rfl,λys H1 H1' s R' rs=>?_⟩;unfold oh at rs;obtain⟨v,r0,rfl,rv,rn⟩:=rs;unfold oh at rn;subst rn;obtain⟨a,xs,rfl,h1,h2⟩:=hx _ _ rv;have hl:=oi h2;refine⟨a,xs,ks,rfl,h1.imp (λh=>SqL.of (R'.sub _ _ h)) (SqT.mono R'.sub),by omega,by omega,by rw[El e3,hl],nd,λi y kk q1 q2=>SqT.same R'.sub (Em h2 e3 i y kk q1 q2),λp hp=>?_⟩;refine k p _ _ _ s (R'.newOwn hp _) om (R'.h0none hp) (R'.bNone hp) (R'.apart hp) ?_;rw[<-hl];exact En h2 _ λi hi=>Fk _ hn i hi
    ·cases e2
 ·cases e
theorem IE(h:PE X e (tCB (λxs H Q=>∃(a:Addr) (ys:bA) (ks:List aB),xs=[.ref a]/\(SqL G.K H a ys\/SqT G.K H a ys)/\0<ys.length/\ys.length<64/\ks.length=ys.length/\ks.Nodup/\(∀(i:Nat) (y:V) (k:aB),ys[i]?=some y->ks[i]?=some k->wu G.K H y k)/\
  ∀p,H p=none->Q (.ref p) (upd H p (.lst ((GW (λi j=>xB (ks.getD i []) (ks.getD j [])) ys.length).map λi=>ys.getD i V.non)))) (tFA G (nY f oq)))):PE X e (tFN G (CI f)):=GY (λ_ _ _ h=>.inl h) h
theorem Fm(hu:X.A.units+64<cLine)(hK:X.K=G.K:=by rfl):qr X (.builtin "sorted") (λxs H Q=>∃(a:Addr) (ys:bA) (ks:List aB),xs=[.ref a]/\(SqL G.K H a ys\/SqT G.K H a ys)/\0<ys.length/\ys.length<64/\ks.length=ys.length/\ks.Nodup/\(∀(i:Nat) (y:V) (k:aB),ys[i]?=some y->ks[i]?=some k->wu G.K H y k)/\
  ∀p,H p=none->Q (.ref p) (upd H p (.lst ((GW (λi j=>xB (ks.getD i []) (ks.getD j [])) ys.length).map λi=>ys.getD i V.non)))):=by rw[<-hK];exact Fl hu
end
end L4
namespace L4
open PySem PySem.Spec PyProof.Rows L2 L3
section
variable{X:Cx}{G:Bg}
theorem Qu:OpD G (λx y H Q=>∃z n,x=.str z/\y=.int n/\MulOk z n/\Q (.str (gq z n)) H) GB:=λx y z H0 H v u Q e s rx ry k=>by
 unfold GB at e;split at e
 ·rename_i a n;split at e
  ·rename_i hl;obtain⟨h0,h1,h2⟩:=hl;cases e;unfold Rep at rx ry;refine⟨a,n,rx,ry,⟨?_,λh3 h4 h5=>?_,λh3 h4=>?_⟩,k _ λ_ _=>wc _⟩
   ·rw[ji];exact⟨aH (by omega),aH (by omega)⟩
   ·have hn:(0:Int)<n:=by omega
    have q:(9223372036854775807:Int) / n >= 9223372036854775:=by have:=Int.le_ediv_of_mul_le (a:=9223372036854775) (b:=9223372036854775807) hn (by omega);exact this
    have:((2:Int) ^ 63 - 1)=9223372036854775807:=by decide
    rw[this]at h5;omega
   ·have hn:n.toNat<=1000:=by omega
    have:a.length * n.toNat<=100 * 1000:=Nat.mul_le_mul h2 hn;refine aH ?_;rw[bJ];omega
  ·cases e
 ·cases e
end
def JV:List String:=["NoneType", "bool", "int", "str", "tuple", "list", "dict"]
def ua(n c:Nat):Ty->Option Bool:=λy=>match y with
 |.b x=>if JV.contains x=true then some false else none
 |.c k=>if k<n then some (k==c)else none
def qW(K:aw)(cs:List Addr)(C:Addr)(c:Nat):Bool:=
 JV.all (λx=>cH K (.type x) (.ref C)==some false)&&(bz cs.length).all λk=>cH K (.ref (cs.getD k 0)) (.ref C)==some (k==c)
theorem qc{B:Bg}{n:Nat}{cs:List Addr}(h:qW B.K cs (B.ca c) c=true)(hn:cs.length=n)(hc:∀k,k<n->cs.getD k 0=B.ca k)(hI:∀k,k<n->K5 B.K (B.ca k)):Ik B c (ua n c):=by
 unfold qW at h;rw[bo,bC,bC]at h;refine⟨λy b e=>?_,λj b e=>?_⟩
 ·cases y with
  |b x=>
   unfold ua at e;simp only at e;split at e
   ·rename_i hx;cases e;exact gh (h.1 x (lD.mp hx))
   ·cases e
  |c k=>
   unfold ua at e;simp only at e;split at e
   ·rename_i hk;cases e;have:=gh (h.2 k (cq.mpr (by omega)));rw[hc k hk]at this;exact this
   ·cases e
 ·unfold ua at e;simp only at e;split at e
  ·rename_i hk;exact hI j hk
  ·cases e
theorem TU{l:List Addr}(h:l.Nodup){k:Nat}(hj:j<l.length)(hk:k<l.length)(e:l.getD j 0=l.getD k 0):j=k:=by
 rw[ck,ck,aL hj,aL hk]at e;have pw:=la.mp h;rcases mj j k with y|y|y
 ·exact ao e (pw j k hj hk y)
 ·exact y
 ·exact ao e.symm (pw k j hk hj y)
section
variable{B:Bg}{K:aw}{mg:Str->Option ae}{h:Heap}
theorem const_int{t:Tok}(X:K.In h)(Gn:h.Ns mainGlobals mg)(e:gu K mainGlobals x=some (some (.int i t))):yk B mg x (.int i):=
 ⟨.int i,_,iH X Gn e,⟨_,rfl⟩,λ_=>qT _⟩
inductive wx:List ae->aB->Prop
 |nil:wx [] []
 |cons {v:ae} {x:Str} {t:Tok} {vs:List ae} {xs:aB} (e:v=.str x t) (h:wx vs xs):wx (v::vs) (x::xs)
theorem wx.vals(h:wx vs xs):Vals (xs.map V.str) vs:=by
 induction h with
 |nil=>exact .nil
 |cons e h ih=>exact .cons ⟨_,e⟩ ih
theorem CK:∀xs:aB,oh B H (xs.map D.str) (xs.map V.str)
 |[]=>oZ
 |x::xs=>oW (wc x) (CK xs)
theorem IF{n:Nat}(xs:aB)(X:B.K.In h)(Gn:h.Ns mainGlobals mg)(e:gu B.K mainGlobals x=some (some (.ref a)))(l:B.K.lookup a=some o)(hc:o.cls=.type "tuple")(hd:o.data=.seq its n)(hz:its.size<=1000)
  (r:wx its.toList xs):yk B mg x (.tup (xs.map D.str)):=
 ⟨.ref a,_,iH X Gn e,rfl,λH=>yj (.inr ⟨o,its,n,l,hc,hd,by rw[bJ];omega,r.vals⟩) (CK xs)⟩
end
section
variable{f g' h:FS}{c:FT}{e e' e2:FE}{a a':FA}{ρ ρ' ρ1 ρ2 ρ3:aZ}{d x y z:D}{ds xs ys:az}{k:Nat}{cap:List Nat}{g:FG}{ft:FT}{fe:FE}
theorem CL{α:Type}(dd:α->D)(p:α->Bool)(h:α->D):∀l:List α,
  (∀a∈l,∃ρ1 ρ2,g (dd a) (yV k cap ρ)=some ρ1/\ft ρ1=some (p a,ρ2)/\(p a=true->∃ρ3,fe ρ2=some (h a,ρ3)/\rT cap (ρ3.drop k) ρ=some ρ)/\(p a=false->rT cap (ρ2.drop k) ρ=some ρ))->
  sT k cap g ft fe (l.map dd) ρ=some ((l.filter p).map h,ρ)
 |[],_=>rfl
 |a::l,st=>by
  obtain⟨ρ1,ρ2,h1,h2,h3,h4⟩:=st a ba;have ih:=CL dd p h l λa' ha=>st a' (bh _ ha);rw[ay];unfold sT;rw[h1];simp only[h2];cases hp:p a with
  |true=>obtain⟨ρ3,h5,h6⟩:=h3 hp;simp only[h5,h6,ih,fZ,hp,if_true,ay]
  |false=>simp only[h4 hp,ih,fZ,hp];rfl
theorem Fn{α:Type}(dd:α->D)(h:α->D)(l:List α)(st:∀a∈l,∃ρ1 ρ3,g (dd a) (yV k cap ρ)=some ρ1/\fe ρ1=some (h a,ρ3)/\rT cap (ρ3.drop k) ρ=some ρ):sT k cap g pM fe (l.map dd) ρ=some (l.map h,ρ):=by have:=CL (ft:=pM) dd (λ_=>true) h l λa ha=>let ⟨ρ1,ρ3,h1,h2,h3⟩:=st a ha;⟨ρ1,ρ1,h1,rfl,λ_=>⟨ρ3,h2,h3⟩,λz=>by cases z⟩;rw[this,jn.mpr λ_ _=>rfl]
theorem uc(neg:Bool)(a b:Str):dEq neg (.str a) (.str b)=some (.bl (if neg then !decide (a=b)else decide (a=b))):=by
 have e:BG neg (.str a) (.str b)=some (.bl (if neg then !decide (V.str a=V.str b)else decide (V.str a=V.str b))):=rfl;have e2:decide (V.str a=V.str b)=decide (a=b):=by
  by_cases h:a=b
  ·subst h;simp
  ·rw[aH h,aH (λz=>h (by injection z))]
 unfold dEq;rw[e,e2]
theorem ND(a:Str)(l:aB):inV (V.str a) (l.map V.str)=decide (a∈l):=by
 unfold inV;rw[cM,eY,bG];constructor
 ·rintro⟨v,hv,he⟩;obtain⟨b,hb,rfl⟩:=aF.mp hv;have:b=a:=by unfold eqV at he;simpa using he
  rw[<-this];exact hb
 ·intro ha;refine⟨.str a,cp ha,?_⟩;unfold eqV;simp
theorem Ln(l:aB):(l.map D.str).all rg=true:=by rw[mV,bC];intro x _;rfl
theorem Qv(l:aB):(l.map D.str).map vD=l.map V.str:=by rw[aV];rfl
theorem uD(neg:Bool)(a:Str)(l:aB):dIn neg (.str a) (.lst (l.map D.str))=some (.bl (if neg then !decide (a∈l)else decide (a∈l))):=by unfold dIn;show (if rg (.str a)&&(l.map D.str).all rg then some (D.bl (if neg then !inV (vD (.str a)) ((l.map D.str).map vD)else inV (vD (.str a)) ((l.map D.str).map vD)))else none)=_;rw[Ln,Qv];show some (D.bl (if neg then !inV (V.str a) (l.map V.str)else inV (V.str a) (l.map V.str)))=_;rw[ND]
theorem GZ(neg:Bool)(a:Str)(l:aB):dIn neg (.str a) (.tup (l.map D.str))=some (.bl (if neg then !decide (a∈l)else decide (a∈l))):=uD neg a l
theorem Fo:∀bs:List Bool,DN (bs.map D.bl)=some bs
 |[]=>rfl
 |b::bs=>by rw[ay];unfold DN;rw[Fo bs];rfl
theorem NF(bs:List Bool):uU (.lst (bs.map D.bl))=some (.bl (bs.all id)):=by unfold uU;simp only[Fo];rfl
theorem NG(bs:List Bool):BH (.lst (bs.map D.bl))=some (.bl (bs.any id)):=by unfold BH;simp only[Fo];rfl
theorem JW{α:Type}(l:List α)(p:α->Bool):uU (.lst (l.map λa=>D.bl (p a)))=some (.bl (l.all p)):=by rw[show (l.map λa=>D.bl (p a))=(l.map p).map D.bl by rw[aV];rfl,NF,mV];rfl
theorem JX{α:Type}(l:List α)(p:α->Bool):BH (.lst (l.map λa=>D.bl (p a)))=some (.bl (l.any p)):=by rw[show (l.map λa=>D.bl (p a))=(l.map p).map D.bl by rw[aV];rfl,NG,List.any_map];rfl
theorem CM:∀l:aB,yH (l.map D.str)=some (l.map Sum.inr)
 |[]=>rfl
 |x::l=>by rw[ay];unfold yH;rw[CM l];rfl
theorem NH:∀(l acc:List Key),(acc++l).Nodup->l.foldl ddp acc=acc++l
 |[],acc,_=>by rw[bt];rfl
 |k::l,acc,h=>by
  have hn:acc.any (λz=>decide (z=k))=false:=by rw[hJ];intro z;obtain⟨y,hy,ey⟩:=eY.mp z;rw[bX]at h;exact h.2.2 y hy k ba (bq ey)
  rw[mG,show ddp acc k=acc++[k] by unfold ddp;rw[hn];rfl,NH l (acc++[k]) (by simpa using h)];simp
theorem uv{l:aB}(h:l.Nodup):(l.map (Sum.inr:Str->Key)).Nodup:=by unfold List.Nodup at h ⊢;rw[List.pairwise_map];exact h.imp λhne z=>hne (ip z)
theorem AW{l:aB}(h:l.Nodup)(hl:l.length<=1000):sE (l.map D.str)=some (.int l.length):=by unfold sE;rw[CM];simp only[ah,hl,if_true];unfold uV;rw[NH _ [] (by simpa using uv h)];simp
theorem sF(neg:Bool)(a b:Int):dEq neg (.int a) (.int b)=some (.bl (if neg then !decide (a=b)else decide (a=b))):=by
 have e:BG neg (.int a) (.int b)=some (.bl (if neg then !decide (V.int a=V.int b)else decide (V.int a=V.int b))):=rfl;have e2:decide (V.int a=V.int b)=decide (a=b):=by
  by_cases h:a=b
  ·subst h;simp
  ·rw[aH h,aH (λz=>h (by injection z))]
 unfold dEq;rw[e,e2]
theorem pA(h1:e ρ=some (.bl true,ρ1)):p8 e e' ρ=e' ρ1:=by unfold p8;rw[h1]
theorem o8{g:Nat->Option (az->Option D)}{m:Str}{c:Nat}{ns:aB}{hh:az->Option D}(h1:e ρ=some (.obj c ns xs,ρ1))(h2:g c=some hh)(h3:ns.contains m=false)(h4:a ρ1=some (ys,ρ2))(h5:hh (.obj c ns xs::ys)=some d):o6 g m e a ρ=some (d,ρ2):=by unfold o6;rw[h1];simp only[h2,h3,h4,h5];rfl
theorem zA{c:Nat}{g:az->Option (aB×az)}{ns:aB}(h1:a ρ=some (ds,ρ1))(h2:g ds=some (ns,xs)):o7 c g a ρ=some (.obj c ns xs,ρ1):=by unfold o7;rw[h1];simp only[h2]
theorem wy{n:Nat}(hl:ds.length=np)(h:b (L4.stE n ds)=some (.nx ρ)):fnD np n b ds=some .non:=by unfold fnD;rw[ai hl,h]
theorem TV{n:Nat}(hl:ds.length=np)(h:b (L4.stE n ds)=some (.rn xs ρ)):fnD np n b ds=some (.lst xs):=by unfold fnD;rw[ai hl,h]
theorem zB:∀{ks:List Key} {ds:az} {k:Key} {d:D},ks.Nodup->(k,d)∈ks.zip ds->sU ks ds k=some d
 |[],_,k,d,_,h=>by simp at h
 |k'::ks,[],k,d,_,h=>by simp at h
 |k'::ks,d'::ds,k,d,nd,h=>by
  unfold sU;rw[df]at h;rcases aM.mp h with e|h
  ·cases e;rw[ai rfl]
  ·rw[cg]at nd;rw[aj (λz=>nd.1 (by subst z;exact(ib h).1))];exact zB nd.2 h
theorem Eo:∀{ks:List Key} {ds:az} {k:Key},k∉ks->sU ks ds k=none
 |[],ds,k,_=>by unfold sU;rfl
 |k'::ks,[],k,_=>by unfold sU;rfl
 |k'::ks,d'::ds,k,h=>by unfold sU;rw[aj (λz=>h (by subst z;exact ba))];exact Eo λz=>h (bh _ z)
end
end L4
namespace L4
open PySem PySem.Spec PyProof.Rows L2 L3
open PySem.W (nsIn findIn keepIn isFn makesIn fnOf)
def IG{α:Type}:Nat->(List α->Prop)->Prop
 |0,P=>P []
 |n+1,P=>∀a,IG n λl=>P (a::l)
theorem BS{α:Type}:∀{n:Nat} {P:List α->Prop},IG n P->∀l,l.length=n->P l
 |0,P,h,[],_=>h
 |n+1,P,h,a::l,e=>BS (P:=λl=>P (a::l)) (h a) l (gd e)
structure CF(K:aw)(C:Addr)(xs:aB):Prop where
 ci:K5 K C
 mks:makesIn K C=true
 kp:keepIn K (.ref C)=true
 na:(xs.all λx=>match findIn K (.ref C) x with|some none=>true|_=>false)=true
theorem CF.at{K:aw}(c:CF K C xs)(i:Nat)(h:xs[i]?=some x):Cls K C/\uy K C x:=⟨c.ci.cl,by
 have e:=bC.mp c.na x (cA h);unfold uy;split at e
 ·rename_i e1;exact e1
 ·cases e⟩
theorem sZ{Q:Nat->Prop}{i:Nat}(h:Q i):∀c,(c==i)=true->Q c:=λc e=>by rw[beq_iff_eq]at e;subst e;exact h
theorem orQ{Q:Nat->Prop}{p:Nat->Bool}{i:Nat}(h:∀c,p c=true->Q c)(h':Q i):∀c,(p c||c==i)=true->Q c:=λc e=>by
 rw[jE]at e;rcases e with e|e
 ·exact h c e
 ·exact sZ h' c e
structure Yw(P:aS)(w:aI)(mg:Str->Option ae)(base:Heap)(G:Bg):Prop where
 m:∃h:Heap,G.K.In h/\h.Ns mainGlobals mg
section
variable{P:aS}{w:aI}{mg:Str->Option ae}{base:Heap}{G:Bg}{x m qual:Str}{st:Stmt}{N ps:aB}{k c:Nat}{K:aw}
theorem Yw.g(y:Yw P w mg base G){v:ae}(e:nsIn G.K mainGlobals x=some (some v)):mg x=some v:=by obtain⟨h,X,Gn⟩:=y.m;exact iH X Gn e
theorem Yw.n(y:Yw P w mg base G){xs:aB}(h:(xs.all λx=>match nsIn G.K mainGlobals x with|some none=>true|_=>false)=true)(i:Nat)(hi:xs[i]?=some x):mg x=none:=by
 obtain⟨hh,X,Gn⟩:=y.m;have e:=bC.mp h x (cA hi);split at e
 ·rename_i e1;exact W.mg_none_of X Gn e1
 ·cases e
def GC(K:aw)(x:Str)(i:Int):Prop:=∃t:Tok,nsIn K mainGlobals x=some (some (.int i t))
theorem Yw.ci(y:Yw P w mg base G)(q:GC G.K x i):yk G mg x (.int i):=by obtain⟨h,X,Gn⟩:=y.m;obtain⟨t,e⟩:=q;exact const_int X Gn e
def GS(K:aw)(x:Str)(xs:aB):Prop:=∃(a:Addr) (o:Obj) (its:Array ae) (n:Nat),nsIn K mainGlobals x=some (some (.ref a))/\K.lookup a=some o/\o.cls=.type "tuple" /\ o.data=.seq its n/\its.size<=1000/\wx its.toList xs
theorem Yw.cs(y:Yw P w mg base G)(q:GS G.K x xs):yk G mg x (.tup (xs.map D.str)):=by obtain⟨h,X,Gn⟩:=y.m;obtain⟨a,o,its,n,e,l,h1,h2,h3,h4⟩:=q;exact IF xs X Gn e l h1 h2 h3 h4
def GD(K:aw)(x:Str)(st:Stmt):Prop:=∃(f:Addr) (fd:bW),nsIn K mainGlobals x=some (some (.ref f))/\Fun K x x st f fd
def GM(K:aw)(C:Addr)(m qual:Str)(st:Stmt):Prop:=∃(f:Addr) (fd:bW),findIn K (.ref C) m=some (some (.ref f))/\isFn K (.ref f)=true/\Fun K m qual st f fd
def GJ(K:aw)(C:Addr)(qual:Str)(st:Stmt)(vs:bA):Prop:=∃(f:Addr) (fd:bW) (T:Addr) (o:Obj) (dl:List ae) (n:Nat),findIn K (.ref C) "__init__" = some (some (.ref f))/\isFn K (.ref f)=true/\KO K "__init__" qual st f fd T/\K.lookup T=some o/\o.data=.seq dl.toArray n/\Vals vs dl
abbrev Bdy(P:aS)(w:aI)(K:aw)(mg:Str->Option ae)(base:Heap)(N:aB)(qual:Str)(st:Stmt)(k:Nat)(t:TS):Prop:=∀(f:Addr) (cdv:ae) (A:aQ) (outer:List Env) (s:af) (H:Hp) (E:XK),qa k (A.deeper (envOfC qual (oJ st) s.heap.objs.size f cdv))->PSs (yG P w K mg base N qual st f cdv A outer s H E) (pf st) t
abbrev Bds(x qual:Str)(st:Stmt)(ps:aB):Prop:=IG ps.length λus=>∀(kV doc pm:ae) (an:Option Addr) (cdv ct:ae),bindArgs (fnOf x qual (sv st) (pf st) (oJ st) .none kV doc pm an cdv ct) ⟨us,[]⟩=pure (ps.zip us)
theorem Bds.ok(b:Bds x qual st ps)(F:Fun K x qual st f fd):Binds K fd ps []:=F.binds λkV doc pm an cdv ct us hl=>BS b us hl kV doc pm an cdv ct
theorem gD(y:Yw P w mg base G)(q:GD G.K x st)(bd:Bds x x st ps)(ok:∀f fd,Fun G.K x x st f fd->su P w G.K mg base CX0 k f fd ps sp):vO P w G.K mg base k x ps sp:=by obtain⟨f,fd,a,F⟩:=q;exact⟨f,fd,y.g a,F.kp,bd.ok F,ok f fd F⟩
theorem gF{n:Nat}{g:az->Option D}(hg:g=fnD np n b)(y:Yw P w mg base G)(q:GD G.K x st)(S:p5 N ps (oJ st))(body:Bdy P w G.K mg base N x st k (tFS G b))(hp:ps.length=np:=by rfl)(hN:N.length=n:=by rfl)(bd:Bds x x st ps:=by (repeat intro _);rfl):vO P w G.K mg base (k+1) x ps (spF G g):=
 gD y q bd λf fd F=>MU hg hp hN F S (body f)
theorem gN'{n:Nat}{g:az->Option az}(hg:g=fnN np n b)(y:Yw P w mg base G)(q:GD G.K x st)(S:p5 N ps (oJ st))(body:Bdy P w G.K mg base N x st k (tFS G b))(hp:ps.length=np:=by rfl)(hN:N.length=n:=by rfl)(bd:Bds x x st ps:=by (repeat intro _);rfl):vO P w G.K mg base (k+1) x ps (spN G g):=
 gD y q bd λf fd F=>WT hg hp hN F S (body f)
theorem gM{n:Nat}{g:az->az->Option (D×az)}(hg:g=fnM np n b)(y:Yw P w mg base G)(q:GD G.K x st)(S:p5 N (p::ps) (oJ st))(body:Bdy P w G.K mg base N x st k (tFS G b))(hp:ps.length=np:=by rfl)(hN:N.length=n:=by rfl)(bd:Bds x x st (p::ps):=by (repeat intro _);rfl):vO P w G.K mg base (k+1) x (p::ps) (spM G g):=
 gD y q bd λf fd F=>WU hg hp hN F S (body f)
theorem gL{n:Nat}{g:az->az->Option (D×az)}(hg:g=fnL np n b)(y:Yw P w mg base G)(q:GD G.K x st)(S:p5 N ps (oJ st))(body:Bdy P w G.K mg base N x st k (tFS G b))(hp:ps.length=np+1:=by rfl)(hN:N.length=n:=by rfl)(bd:Bds x x st ps:=by (repeat intro _);rfl):vO P w G.K mg base (k+1) x ps (spL G g):=
 gD y q bd λf fd F=>W4 hg hp hN F S (body f)
theorem gI{n:Nat}{g:az->Option (aB×az)}(hg:g=fnI c np n b)(y:Yw P w mg base G)(C:CF G.K (G.ca c) xs)(a:nsIn G.K mainGlobals x=some (some (.ref (G.ca c))))(q:GM G.K (G.ca c) "__init__" qual st)(S:p5 N (p::ps) (oJ st))(body:Bdy P w G.K mg base N qual st k (tFS G b))(hp:ps.length=np:=by rfl)(hN:N.length=n:=by rfl)(bd:Bds "__init__" qual st (p::ps):=by (repeat intro _);rfl):Fb G P w mg base (k+1) x c (p::ps) [] g:=by obtain⟨f,fd,i,i',F⟩:=q;exact⟨f,fd,[],⟨C.mks,i,i',C.kp⟩,y.g a,bd.ok F,.nil,WV hg hp hN F S (body f)⟩
theorem G0(h:Vals vs us):us.length=vs.length:=by
 induction h with
 |nil=>rfl
 |cons _ _ ih=>rw[aE,aE,ih]
theorem Lo(h:Vals vs us):∀j,Vals (vs.drop j) (us.drop j):=by
 induction h with
 |nil=>intro j;rw[mS,mS];exact .nil
 |cons a b ih=>
  intro j;cases j with
  |zero=>exact .cons a b
  |succ j=>exact ih j
theorem gJ{n:Nat}{g:az->Option (aB×az)}(hg:g=fnI c np n b)(y:Yw P w mg base G)(C:CF G.K (G.ca c) xs)(a:nsIn G.K mainGlobals x=some (some (.ref (G.ca c))))(q:GJ G.K (G.ca c) qual st vs)(S:p5 N (p::ps) (oJ st))(body:Bdy P w G.K mg base N qual st k (tFS G b))(j:Nat)(hp:ps.length=np:=by rfl)(hN:N.length=n:=by rfl)
  (bd:IG vs.length λdl=>IG ((p::ps).length - (vs.drop j).length) λus=>∀(T:Addr) (kV doc pm:ae) (an:Option Addr) (cdv ct:ae),∃k,bindArgs (fnOf "__init__" qual (sv st) (pf st) (oJ st) (.ref T) kV doc pm an cdv ct) ⟨us,[]⟩=seqItems? (.ref T)>>=k/\k (some dl.toArray)=pure ((p::ps).zip (us++dl.drop j)):=by (repeat intro _);exact⟨_,rfl,rfl⟩):Fb G P w mg base (k+1) x c (p::ps) (vs.drop j) g:=by
 obtain⟨f,fd,T,o,dl,n,i,i',F,l,e,r⟩:=q;refine⟨f,fd,dl.drop j,⟨C.mks,i,i',C.kp⟩,y.g a,F.binds l e λkV doc pm an cdv ct us hl=>?_,Lo r j,Tr hg hp hN F S (body f)⟩;exact BS (BS bd dl (G0 r)) us (by rw[hl,cc,cc,G0 r]) T kV doc pm an cdv ct
end
end L4
namespace L4
open PySem PySem.Spec PyProof.Rows L2 L3
def leS(a b:Str):Bool:=decide (a.cps.toList<=b.cps.toList)
def AX(ss:aB):aB:=ss.mergeSort leS
theorem NI(a b c:Str)(h:leS a b=true)(h':leS b c=true):leS a c=true:=aT (List.le_trans (bq h) (bq h'))
theorem Qw(a b:Str):(leS a b||leS b a)=true:=by
 rw[jE];rcases List.le_total a.cps.toList b.cps.toList with h|h
 ·exact .inl (aT h)
 ·exact .inr (aT h)
theorem NJ(a b:Str)(h:leS a b=true)(h':leS b a=true):a=b:=by have e:=List.le_antisymm (bq h) (bq h');cases a with|mk a=>cases b with|mk b=>cases a;cases b;simp only at e;rw[e]
theorem As:∀(r:aB) (x:Str),risingS x r=true->(∀y∈r,leS x y=true)/\r.Pairwise λa b=>leS a b=true
 |[],x,_=>⟨λy h=>(bO h).elim,.nil⟩
 |z::r,x,h=>by
  unfold risingS at h;rw[bo,eX,ltCps_eq]at h;obtain⟨h1,h2⟩:=h;obtain⟨g1,g2⟩:=As r z h2;have h3:leS x z=true:=aT (of_decide_eq_false h1);refine⟨λy hy=>?_,.cons g1 g2⟩;rcases aM.mp hy with e|hy
  ·rw[e];exact h3
  ·exact NI _ _ _ h3 (g1 y hy)
theorem IH:∀l:aB,sortedS l=true->l.Pairwise λa b=>leS a b=true
 |[],_=>.nil
 |x::r,h=>.cons (As r x h).1 (As r x h).2
theorem II{l:aB}(p:l.Perm ss)(h:sortedS l=true):l=AX ss:=
 List.Perm.eq_of_pairwise (λa b _ _=>NJ a b) (IH l h) (List.pairwise_mergeSort NI Qw ss) (p.trans (jo ss leS).symm)
theorem RB:∀{vs:List ae} {xs:aB},gY vs xs->Vals (xs.map V.str) vs
 |_,_,.nil=>.nil
 |_,_,.cons x t h=>.cons ⟨t,rfl⟩ (RB h)
section
variable{X:Cx}{G:Bg}{pins:cy}{σ:St}{H:Hp}{s:af}
theorem CN:∀xs:aB,oh G H (xs.map D.str) (xs.map V.str)
 |[]=>oZ
 |x::xs=>oW (wc x) (CN xs)
end
end L4
namespace L4
open PySem PySem.Spec PySem.Calls PyProof.Rows PySem.W L2 L3
structure Sto(c:Nat->Nat->Bool)(n:Nat):Prop where
 tr:∀i j k,i<n->j<n->k<n->c i j=true->c j k=true->c i k=true
 tot:∀i j,i<n->j<n->i≠j->c i j=false->c j i=true
end L4
namespace L4
open PySem PySem.Spec PyProof.Rows L2 L3
structure Bz where
 P:aS
 w:aI
 mg:Str->Option ae
 base:Heap
 G:Bg
structure ZE(X:Cx)(B:Bz)(e:Expr)(f:FE):Prop where p:PE X e (tF B.G f)
structure ZN(X:Cx)(B:Bz)(e:Expr)(f:FA):Prop where p:PE X e (tFN B.G f)
structure ZT(X:Cx)(B:Bz)(e:Expr)(f:FT):Prop where p:PT X e (tFT B.G f)
structure ZW(X:Cx)(B:Bz)(e:Expr)(f:FT):Prop where p:PW X e (tFT B.G f)
structure ZF(X:Cx)(B:Bz)(e:List Expr)(f:FT):Prop where p:PIf X e (tFT B.G f)
structure ZA(X:Cx)(B:Bz)(e:List Expr)(f:FA):Prop where p:PA X e (tFA B.G f)
structure ZM(X:Cx)(B:Bz)(e:List Expr)(i:Nat)(f:FA):Prop where p:PA X e (IA B.G i f)
structure ZS(X:Cx)(B:Bz)(e:Stmt)(f:FS):Prop where p:PS X e (tFS B.G f)
structure ZB(X:Cx)(B:Bz)(e:List Stmt)(f:FS):Prop where p:PSs X e (tFS B.G f)
structure ZI(X:Cx)(B:Bz)(tg e:Expr)(f:FA):Prop where p:PI X tg e (tFI B.G f)
structure ZO(X:Cx)(B:Bz)(e:Option Expr)(f:FO):Prop where p:PO X e (tFO B.G f)
structure ZG(X:Cx)(B:Bz)(e:Expr)(n:Nat)(f:FG):Prop where p:PG X e (tFG B.G n f)
structure ZH(X:Cx)(B:Bz)(e:List Expr)(n:Nat)(f:az->aZ->Option aZ):Prop where p:PGs X e (Mw B.G n f)
structure ZK(X:Cx)(e:Option Expr)(i:Option Int):Prop where p:PO X e (tO i)
structure ZP(X:Cx)(B:Bz)(pos:Pos)(ks:List (Option Expr))(vs:List Expr)(l:List (Str×FE)):Prop where p:PPs X pos ks vs (Nu B.G l)
structure ZV(X:Cx)(e:Expr)(i:Nat):Prop where p:PE X e (vp i)
abbrev Gz(X:Cx)(x:Str):Prop:=X.env.kindOf x=some .globalImplicit
abbrev Dz(x:Str):Prop:=(x==("__debug__" : Str))=false
abbrev Nz(x:Str):Prop:=(decide (x≠"__name__")&&!(x==("__debug__" : Str)))=true
abbrev Sz(X:Cx)(e:Expr)(es:List Expr):Prop:=starEach (e::es) X.env=(false,eval e X.env)::starEach es X.env
abbrev S1(X:Cx)(e:Expr):Prop:=starEach [e] X.env=[(false,eval e X.env)]
abbrev Lz(X:Cx)(pos:Pos)(es:List Expr):Prop:=(backTo pos (starEach es X.env)).any (·.1)=false
abbrev Wz(X:Cx)(e o:Expr)(pos:Pos):Prop:=swapsWith e (some o) pos.line X.env=pure false
abbrev Az(X:Cx)(o:Expr)(m:Str):Prop:=attributeBase o m X.env (eval o X.env)=eval o X.env
abbrev Ez(p pos:Pos):Prop:=(p.endLine==pos.line)=true
abbrev Iz(e:Expr):Prop:=(λo i=>subscripted e false o i)=λo i=>operate [o,i] (getItem o i)
abbrev Fz(X:Cx)(e:Expr):Prop:=(λx=>foldedSetIterable e X.env x)=λx=>pure x
class Cz(X:Cx)(B:outParam Bz)(k:outParam Nat):Prop where
 P:X.prog=B.P
 w:X.w=B.w
 K:X.K=B.G.K
 mg:X.mg=B.mg
 b:X.base=B.base
 c:X.calm=true
 r:qa k X.A
class Yb(B:Bz):Prop where y:Yw B.P B.w B.mg B.base B.G
class Df(B:Bz)(j:outParam Nat)(x:Str)(sp:Sp):Prop where p:∃ps,vO B.P B.w B.G.K B.mg B.base j x ps sp
class Kf(B:Bz)(j:outParam Nat)(x:Str)(c:Nat)(g:az->Option (aB×az))(dds:az):Prop where
 p:∃ps,Fb B.G B.P B.w B.mg B.base j x c ps (dds.map vD) g
 f:dds.all rg=true
class Mf(B:Bz)(j:outParam Nat)(m:Str)(g:Nat->Option (az->Option D)):Prop where p:∀c h,g c=some h->wm B.G B.P B.w B.mg B.base j m c h
class Ff(B:Bz)(ok:Nat->Bool)(f:Str):Prop where p:∀c,ok c=true->Cls B.G.K (B.G.ca c)/\uy B.G.K (B.G.ca c) f
class Af(B:Bz)(c:Nat)(xs:outParam aB):Prop where p:CF B.G.K (B.G.ca c) xs
class Nb(B:Bz)(x:Str):Prop where p:B.mg x=none
class Co(B:Bz)(x:Str)(d:D):Prop where p:yk B.G B.mg x d
class Ic(B:Bz)(x:Str)(t:Ty->Option Bool):Prop where p:∃c,Ik B.G c t/\B.mg x=some (.ref (B.G.ca c))
class Ij(B:Bz)(n:Nat):Prop where p:∀j k,j<n->k<n->B.G.ca j=B.G.ca k->j=k
class OpC(op:iA)(g:D->D->Option D):Prop where p:∀(X:Cx) (G:Bg),∃r,OpR X (binaryOp op) r/\OpD G r g
instance in1:OpC .Mod rh:=⟨λ_ _=>⟨_,Sk,S6⟩⟩
instance in2:OpC .FloorDiv yE:=⟨λ_ _=>⟨_,OO,S7⟩⟩
instance in3:OpC .Mult tP:=⟨λ_ _=>⟨_,Sj,S5⟩⟩
instance in4:OpC .Sub Gr:=⟨λ_ _=>⟨_,Si,S4⟩⟩
instance in5:OpC .Pow AN:=⟨λ_ _=>⟨_,Sm,S8⟩⟩
instance in6:OpC .Add pE:=⟨λ_ _=>⟨_,Sh,S0⟩⟩
instance in8:OpC .Mult GB:=⟨λ_ _=>⟨_,Ia,Qu⟩⟩
class CmC(op:cI)(g:D->D->Option D):Prop where p:∀(X:Cx) (G:Bg),X.K=G.K->X.A.units+64<cLine->∃r,OpR X (compareOp op) r/\OpD G r g
instance in9:CmC .Eq (dEq false):=⟨λ_ _ h u=>⟨_,Te u h,WN⟩⟩
instance in10:CmC .NotEq (dEq true):=⟨λ_ _ h u=>⟨_,Tf u h,WO⟩⟩
instance in11:CmC .In (dIn false):=⟨λ_ _ h _=>⟨_,Tg h,Rr⟩⟩
instance LF:CmC .NotIn (dIn true):=⟨λ_ _ h _=>⟨_,K0 h,Rr⟩⟩
instance in13:CmC .Is wj:=⟨λ_ _ _ _=>⟨_,Sn,Ta⟩⟩
instance in14:CmC .IsNot uY:=⟨λ_ _ _ _=>⟨_,OP,PV⟩⟩
instance in16:CmC .Lt yy:=⟨λ_ _ _ _=>⟨_,Wi,WJ⟩⟩
instance in17:CmC .LtE uT:=⟨λ_ _ _ _=>⟨_,Wj,WK⟩⟩
instance in18:CmC .Gt Cn:=⟨λ_ _ _ _=>⟨_,Wk,WL⟩⟩
instance in19:CmC .GtE SZ:=⟨λ_ _ _ _=>⟨_,Wl,WM⟩⟩
instance in20:CmC .LtE MK:=⟨λ_ _ _ _=>⟨_,KN,S9⟩⟩
class B1(x:Str)(g:D->Option D):Prop where p:∀(X:Cx) (G:Bg),X.K=G.K->X.calm=true->∃(id:String) (r:bA->Hp->VK->Prop),qr X (.builtin id) r/\Ee G r g/\bootBuiltins x=some (.builtin id)
instance in21:B1 "len" p9:=⟨λ_ _ h _=>⟨_,_,K2 h,Ti,mN⟩⟩
instance in22:B1 "all" uU:=⟨λ_ _ h c=>⟨_,_,K4 c h,To,boot_all⟩⟩
instance in23:B1 "any" BH:=⟨λ_ _ h c=>⟨_,_,La c h,Tu,boot_any⟩⟩
class KtC(x:Str)(T:outParam String):Prop where p:(∀(X:Cx) (G:Bg) y b,qU T y=some b->cH X.K (y.val G) (.type T)=some b)/\bootBuiltins x=some (.type T)
instance in24:KtC "str" "str" := ⟨λ_ _=>P5,Pv.boot_str⟩
instance in25:KtC "int" "int" := ⟨λ_ _=>Qn,Pv.boot_int⟩
instance in26:KtC "bool" "bool" := ⟨λ_ _=>Nq,Pv.boot_bool⟩
instance in27:KtC "list" "list" := ⟨λ_ _=>MY,Pv.boot_list⟩
instance in28:KtC "tuple" "tuple" := ⟨λ_ _=>kit_tuple,Pv.boot_tuple⟩
theorem RD:∀{dds:az},dds.all rg=true->oh G H dds (dds.map vD)
 |[],_=>oZ
 |d::ds,h=>by rw[eZ,bo]at h;exact oW (zq h.1 H) (RD h.2)
theorem eqI{α:Sort u}{a b:α}(h:a=b):a=b:=h
def sees(X:Cx)(i:Nat)(x:Str):Bool:=decide (X.N[i]?=some x)&&(match X.env.scope.names.lookup x with|some .local=>true|some .cell=>true|some .free=>true|_=>false)&&!(x==("__debug__" : Str))&&!(x==("__classdict__" : Str))
def sets(X:Cx)(i:Nat)(x:Str):Bool:=decide X.N.Nodup&&decide (X.N[i]?=some x)&&(match X.env.scope.names.lookup x with|some .local=>true|some .cell=>X.fn x|_=>false)
section
variable{X:Cx}{B:Bz}{k j i n c0:Nat}{x m:Str}{e e' o tg it:Expr}{es:List Expr}{p p2 p3 pos apos:Pos}{f f' f2:FE}{a:FA}{g:D->D->Option D}
theorem pvI(h:sees X i x=true):PE X (.Name x p) (vp i):=by
 unfold sees at h;simp only[bo,bG,eX]at h;obtain⟨⟨⟨h1,h2⟩,h3⟩,h4⟩:=h;refine pv i h1 ?_ h3 h4;unfold Vis;split at h2
 ·rename_i e;exact .inl e
 ·rename_i e;exact .inr (.inl e)
 ·rename_i e;exact .inr (.inr e)
 ·cases h2
theorem W5(h:sees X i x=true):ZE X B (.Name x p) (cV i):=⟨Ib (pvI h)⟩
theorem TX(h:sees X i x=true):ZE X B (.Name x p) (cFz i):=⟨WI (pvI h)⟩
theorem Qx(h:sees X i x=true):ZN X B (.Name x p) (KY i):=⟨PM (pvI h)⟩
theorem Fp(h:sets X i x=true):X.N.Nodup/\X.N[i]?=some x/\L2.Loc X.env.scope x/\(X.fn x=true\/X.env.scope.names.lookup x=some .local):=by
 unfold sets at h;simp only[bo,bG]at h;obtain⟨⟨h1,h2⟩,h3⟩:=h;unfold L2.Loc;split at h3
 ·rename_i e;exact⟨h1,h2,.inl e,.inr e⟩
 ·rename_i e;exact⟨h1,h2,.inr e,.inl h3⟩
 ·cases h3
theorem pgI(h:sets X i x=true):PG X (.Name x p) (vK i):=by obtain⟨h1,h2,h3,h4⟩:=Fp h;exact Jo h1 h2 h3 h4
theorem TY(h:sets X i x=true)(hi:Nat.blt i n=true):ZG X B (.Name x p) n (gN i):=⟨Mx n (pgI h) (Nat.blt_eq.mp hi)⟩
theorem stW(h:sets X i x=true)(he:PE X e te)(hs:Wz X e (.Name x p) pos):PS X (.Assign [.Name x p] e pos) (Ab te (vK i)):=by obtain⟨h1,h2,h3,h4⟩:=Fp h;exact Sa h1 h2 h3 he hs h4
theorem TZ(h:sets X i x=true)(he:ZE X B e f)(hs:Wz X e (.Name x p) pos):ZS X B (.Assign [.Name x p] e pos) (oP i f):=⟨JC (stW h he.p hs)⟩
theorem T2(h:sets X i x=true)(he:ZN X B e a)(hs:Wz X e (.Name x p) pos):ZS X B (.Assign [.Name x p] e pos) (rS i a):=⟨Mz (stW h he.p hs)⟩
theorem T4(h:sets X i x=true)(hs:Wz X (.Dict [] [] p2) (.Name x p) pos):ZS X B (.Assign [.Name x p] (.Dict [] [] p2) pos) (zu i):=⟨M5 (stW h B6 hs)⟩
theorem T5{op:iA}[O:OpC op g](ha:ZE X B e f)(hb:ZE X B e' f'):ZE X B (.BinOp e op e' pos) (c2 g f f'):=by obtain⟨r,h1,h2⟩:=O.p X B.G;exact⟨Wy h1 h2 ha.p hb.p⟩
theorem T6 [C:Cz X B k](ha:ZE X B e f)(hb:ZE X B e' f')(hs:Iz e'):ZE X B (.Subscript e e' pos) (c2 dIx f f'):=⟨WA (XX C.K) WQ ha.p hb.p λo i=>congrFun (congrFun hs o) i⟩
theorem Qy [C:Cz X B k](h:sees X i x=true)(hb:ZE X B e' f')(hs:Iz e'):ZE X B (.Subscript (.Name x p) e' pos) (Ai i f'):=⟨SX (Rm (Mm B.G.K C.K) (pvI h) hb.p λo i=>congrFun (congrFun hs o) i)⟩
theorem T7 [C:Cz X B k](ha:ZE X B e f)(hb:ZE X B e' f')(hs:Iz e'):ZE X B (.Subscript e e' pos) (c2 qt f f'):=⟨P8 (Mi C.r) ha.p hb.p λo i=>congrFun (congrFun hs o) i⟩
section
variable{op op':cI}{g':D->D->Option D}
theorem T8 [O:CmC op g][C:Cz X B k](ha:ZE X B e f)(hb:ZE X B e' f')(hm:behindInMarks op e'=false):ZE X B (.Compare e [op] [e'] pos) (c2 g f f'):=by obtain⟨r,h1,h2⟩:=O.p X B.G C.K C.r.units;exact⟨SL h1 h2 ha.p hb.p hm⟩
theorem T9 [O:CmC op g][C:Cz X B k](ha:ZE X B e f)(hb:ZE X B e' f')(hm:behindInMarks op e'=false):ZT X B (.Compare e [op] [e'] pos) (cT (c2 g f f')):=by obtain⟨r,h1,h2⟩:=O.p X B.G C.K C.r.units;exact⟨Pf h1 h2 ha.p hb.p hm⟩
theorem Ua [O:CmC op g][O':CmC op' g'][C:Cz X B k](ha:ZE X B e f)(hb:ZE X B e' f')(hc:ZE X B o f2)(hm:lastMarks [op,op'] [e',o]=false):ZE X B (.Compare e [op,op'] [e',o] pos) (rW g g' f f' f2):=by obtain⟨r,h1,h2⟩:=O.p X B.G C.K C.r.units;obtain⟨r',h3,h4⟩:=O'.p X B.G C.K C.r.units;exact⟨MR h1 h3 h2 h4 ha.p hb.p hc.p hm⟩
theorem Ub [O:CmC op g][O':CmC op' g'][C:Cz X B k](ha:ZE X B e f)(hb:ZE X B e' f')(hc:ZE X B o f2)(hm:lastMarks [op,op'] [e',o]=false):ZT X B (.Compare e [op,op'] [e',o] pos) (cT (rW g g' f f' f2)):=by obtain⟨r,h1,h2⟩:=O.p X B.G C.K C.r.units;obtain⟨r',h3,h4⟩:=O'.p X B.G C.K C.r.units;exact⟨K8 h1 h3 h2 h4 ha.p hb.p hc.p hm⟩
end
theorem Uc(h:ZE X B e f)(he:(λwhole=>isTrue e X.env whole)=λwhole=>(do let v<-whole;standAt e.pos;holding [v] (truthy v))):ZT X B e (cT f):=⟨Pg h.p λw=>congrFun he w⟩
theorem Ud(ha:ZT X B e ft)(hb:ZW X B (.BoolOp .Or (e'::es) pos) fu):ZT X B (.BoolOp .Or (e::e'::es) pos) (rG ft fu):=⟨PW.pt (Mq ha.p hb.p)⟩
theorem Ue(ha:ZT X B e ft)(hb:ZW X B (.BoolOp .And (e'::es) pos) fu):ZT X B (.BoolOp .And (e::e'::es) pos) (sA ft fu):=⟨PW.pt (Pj ha.p hb.p)⟩
theorem Ug [C:Cz X B k][Q:Co B x d](hg:Gz X x)(hd:Dz x):ZE X B (.Name x pos) (cC d):=⟨MV (C.mg▸Q.p) hg hd⟩
theorem Uh{ok:Nat->Bool}[C:Cz X B k][Q:Ff B ok m](he:ZE X B e f)(hb:Az X e m):ZE X B (.Attribute e m pos) (c1 (oN ok m) f):=⟨MB he.p (C.K▸Q.p) hb⟩
section
variable(hg:Gz X x)(hd:Dz x)(hs:Sz X e es)(hl:Lz X pos es)
include hg hd
theorem dz [C:Cz X B k][Q:Df B j x sp]:∃ps,vO X.prog X.w X.K X.mg X.base j x ps sp:=by rw[C.P,C.w,C.K,C.mg,C.b];exact Q.p
theorem Ui{g:az->Option az}[C:Cz X B k][Q:Df B j x (spN B.G g)](hj:c9 j k=true):ZN X B (.Call (.Name x p) [] [] pos) (pe g oq):=by obtain⟨ps,q⟩:=dz hg hd (X:=X) (Q:=Q);exact⟨MS q (C.r.mono (c6.mp hj)) hg hd⟩
include hs hl
theorem Uj{g:az->Option D}[C:Cz X B k][Q:Df B j x (spF B.G g)](ha:ZA X B (e::es) a)(hj:c9 j k=true):ZE X B (.Call (.Name x p) (e::es) [] pos) (oa g a):=by obtain⟨ps,q⟩:=dz hg hd (X:=X) (Q:=Q);exact⟨Tq q (C.r.mono (c6.mp hj)) ha.p hg hd hs hl⟩
theorem Uk{g:az->Option az}[C:Cz X B k][Q:Df B j x (spN B.G g)](ha:ZA X B (e::es) a)(hj:c9 j k=true):ZN X B (.Call (.Name x p) (e::es) [] pos) (pe g a):=by obtain⟨ps,q⟩:=dz hg hd (X:=X) (Q:=Q);exact⟨PZ q (C.r.mono (c6.mp hj)) ha.p hg hd hs hl⟩
theorem Ul{g:az->az->Option (D×az)}[C:Cz X B k][Q:Df B j x (spM B.G g)](hv:ZV X e i)(ha:ZA X B es a)(hj:c9 j k=true):ZE X B (.Call (.Name x p) (e::es) [] pos) (pb g i a):=by obtain⟨ps,q⟩:=dz hg hd (X:=X) (Q:=Q);exact⟨P3 q (C.r.mono (c6.mp hj)) hv.p ha.p hg hd hs hl⟩
theorem Um{g:az->az->Option (D×az)}[C:Cz X B k][Q:Df B j x (spL B.G g)](ha:ZM X B (e::es) i a)(hj:c9 j k=true):ZE X B (.Call (.Name x p) (e::es) [] pos) (pJ g i a):=by obtain⟨ps,q⟩:=dz hg hd (X:=X) (Q:=Q);exact⟨Qt q (C.r.mono (c6.mp hj)) ha.p hg hd hs hl⟩
theorem Uo{g:az->Option (aB×az)}[C:Cz X B k][Q:Kf B j x c0 g dds](ha:ZA X B (e::es) a)(hj:c9 (j+1) k=true):ZE X B (.Call (.Name x p) (e::es) [] pos) (o7 c0 (λds=>g (ds++dds)) a):=by obtain⟨ps,q⟩:=Q.p;exact⟨P4 (by rw[C.P,C.w,C.mg,C.b];exact q) (λH=>RD Q.f) (C.r.mono (c6.mp hj)) ha.p C.K hg hd hs hl⟩
end
theorem mz{g:Nat->Option (az->Option D)}[C:Cz X B k][Q:Mf B j m g]:∀c h,g c=some h->wm B.G X.prog X.w X.mg X.base j m c h:=by rw[C.P,C.w,C.mg,C.b];exact Q.p
theorem Up{g:Nat->Option (az->Option D)}{pl:Sem Bool}[C:Cz X B k][Q:Mf B j m g](ho:ZE X B o f)(hj:c9 j k=true)
  (ht:eval (.Call (.Attribute o m apos) [] [] pos) X.env=(do
   let ov<-eval o X.env
   standAt apos.atName
   let (f,first)<-holding [ov] (getMethod ov m pl)
   callWith pos f first (backTo pos (starEach [] X.env)) (backToKw pos (keywordEach [] X.env)))):ZE X B (.Call (.Attribute o m apos) [] [] pos) (o6 g m f oq):=⟨Ih mz (C.r.mono (c6.mp hj)) ho.p C.K ht⟩
theorem Uq{g:Nat->Option (az->Option D)}{pl:Sem Bool}[C:Cz X B k][Q:Mf B j m g](ho:ZE X B o f)(ha:ZA X B (e::es) a)(hj:c9 j k=true)(hs:Sz X e es)(hl:Lz X pos es)
  (ht:eval (.Call (.Attribute o m apos) (e::es) [] pos) X.env=(do
   let ov<-eval o X.env
   standAt apos.atName
   let (f,first)<-holding [ov] (getMethod ov m pl)
   callWith pos f first (backTo pos (starEach (e::es) X.env)) (backToKw pos (keywordEach [] X.env)))):ZE X B (.Call (.Attribute o m apos) (e::es) [] pos) (o6 g m f a):=⟨K9 mz (C.r.mono (c6.mp hj)) ho.p ha.p C.K hs hl ht⟩
section
variable(hg:Gz X x)(hd:Nz x)(hs:S1 X e)
include hg hd hs
theorem cbI{id:String}{t:TA}[C:Cz X B k][N:Nb B x](hc:qr X (.builtin id) r)(hv:bootBuiltins x=some (.builtin id))(ha:PA X [e] t):PE X (.Call (.Name x p) [e] [] pos) (tCB r t):=by simp only[bo,bG,eX]at hd;exact B3 hc hg (C.mg▸N.p) hv ha hd.1 hd.2 hs rfl
theorem ctI{t:TA}[C:Cz X B k][N:Nb B x](hc:qr X (.type T) r)(hv:bootBuiltins x=some (.type T))(ha:PA X [e] t):PE X (.Call (.Name x p) [e] [] pos) (tCB r t):=by simp only[bo,bG,eX]at hd;exact KD hc hg (C.mg▸N.p) hv ha hd.1 hd.2 hs rfl
theorem Ur{g:D->Option D}[Q:B1 x g][C:Cz X B k][N:Nb B x](ha:ZE X B e f):ZE X B (.Call (.Name x p) [e] [] pos) (c1 g f):=by obtain⟨id,r,h1,h2,h3⟩:=Q.p X B.G C.K C.c;exact⟨Rt h2 (cbI hg hd hs h1 h3 (rR ha.p tH hs))⟩
end
section
variable(hs:S1 X e)
include hs
theorem Us [C:Cz X B k][N:Nb B "list"](hg:Gz X "list")(ha:ZE X B e f):ZN X B (.Call (.Name "list" p) [e] [] pos) (xA f):=⟨MO (ctI hg (by decide) hs (Ig C.K) Pv.boot_list (rR ha.p tH hs))⟩
theorem Ut [C:Cz X B k][N:Nb B "tuple"](hg:Gz X "tuple")(ha:ZE X B e f):ZE X B (.Call (.Name "tuple" p) [e] [] pos) (AO f):=⟨MP (ctI hg (by decide) hs (K6 C.K) Pv.boot_tuple (rR ha.p tH hs))⟩
theorem Uu [C:Cz X B k][N:Nb B "sorted"](hg:Gz X "sorted")(ha:ZE X B e f):ZN X B (.Call (.Name "sorted" p) [e] [] pos) (CI f):=⟨IE (cbI hg (by decide) hs (Fm C.r.units C.K) boot_sorted (rR ha.p tH hs))⟩
theorem Uv [C:Cz X B k][N:Nb B "len"][N':Nb B "set"](hg:Gz X "len")(hg':Gz X "set")(ha:ZE X B e f)(z:starEach [Expr.Call (.Name "set" p2) [e] [] p3] X.env=[(false,eval (.Call (.Name "set" p2) [e] [] p3) X.env)]):ZE X B (.Call (.Name "len" p) [.Call (.Name "set" p2) [e] [] p3] [] pos) (c1 Fg f):=⟨Lf C.K (Le W0 C.r.units C.c hg (C.mg▸N.p) hg' (C.mg▸N'.p) ha.p z hs)⟩
theorem Uw [C:Cz X B k][N:Nb B "range"](hg:Gz X "range")(ha:ZE X B e f):ZI X B tg (.Call (.Name "range" p) [e] [] pos) (iR1 f):=⟨Ie (Kv hg (C.mg▸N.p) (rR ha.p tH hs) hs)⟩
end
section
variable(hi:Gz X "isinstance")(hg:Gz X x)(hs:starEach [e,.Name x p2] X.env=[(false,eval e X.env),(false,eval (.Name x p2) X.env)])(hs':S1 X (.Name x p2))
include hi hg hs hs'
theorem Ux [Q:KtC x T][C:Cz X B k][N:Nb B "isinstance"][N':Nb B x](ha:ZE X B e f)(hd:Nz x):ZE X B (.Call (.Name "isinstance" p) [e,.Name x p2] [] pos) (c1 (pQ (qU T)) f):=by
 simp only[bo,bG,eX]at hd;refine⟨JK (c:=.b T) (B3 (Ef (.b T) (Q.p.1 X B.G) MX C.K) hi (C.mg▸N.p) boot_isinstance (qg ha.p (qg (OH (v:=.ty T) hg (C.mg▸N'.p) Q.p.2 rfl hd.1 hd.2) uA ?_) ?_) (by decide) (by decide) ?_ ?_)⟩
 ·exact hs'
 ·rw[hs,hs']
 ·rw[hs,hs']
 ·rw[hs'];rfl
theorem Uy{t:Ty->Option Bool}[Q:Ic B x t][C:Cz X B k][N:Nb B "isinstance"](ha:ZE X B e f)(hd:Dz x):ZE X B (.Call (.Name "isinstance" p) [e,.Name x p2] [] pos) (c1 (pQ t) f):=by
 obtain⟨c,q1,q2⟩:=Q.p;refine⟨JK (c:=.c c) (B3 (Il q1 C.K) hi (C.mg▸N.p) boot_isinstance (qg ha.p (qg (Jm (v:=.ref (B.G.ca c)) hg (C.mg▸q2) rfl hd) uA ?_) ?_) (by decide) (by decide) ?_ ?_)⟩
 ·exact hs'
 ·rw[hs,hs']
 ·rw[hs,hs']
 ·rw[hs'];rfl
end
section
variable(hb:Az X o m)(hl:Ez apos pos)(hs:S1 X e)
include hb hl hs
theorem bmI{id:String}{t:TA}[C:Cz X B k](pa:kh T)(slot:Slot T m id)(hty:typeOf (.builtin id)=pure (.type "method_descriptor"))(hm:MtR X id r)(ho:PE X o to)(ha:PA X [e] t):PE X (.Call (.Attribute o m apos) [e] [] pos) (tBM B.G.K T r to t):=
 Mn B.G.K pa slot hty hm ho ha hb (by rw[hs];rfl) hl hs rfl C.K
end
section
variable(h:sees X i x=true)(hb:Az X (.Name x p) m)(hl:Ez apos pos)(hs:S1 X e)
include h hb hl hs
theorem Uz [C:Cz X B k](hm:m="append")(ha:ZE X B e f):ZE X B (.Call (.Attribute (.Name x p) m apos) [e] [] pos) (uC i f):=by subst hm;exact⟨KW (bmI hb hl hs fX jr l4 Ad (pvI h) (rR ha.p tH hs))⟩
theorem UA [C:Cz X B k](hm:m="extend")(ha:ZE X B e f):ZE X B (.Call (.Attribute (.Name x p) m apos) [e] [] pos) (AS i f):=by subst hm;exact⟨Io (bmI hb hl hs fX jt F.type_list_extend (C.K▸Im) (pvI h) (qg ha.p uA hs))⟩
theorem UB [C:Cz X B k](hm:m="pop")(ha:ZE X B e f):ZE X B (.Call (.Attribute (.Name x p) m apos) [e] [] pos) (y4 i f):=by subst hm;exact⟨Nw (bmI hb hl hs fX jB mI F6 (pvI h) (rR ha.p tH hs))⟩
end
theorem UC [C:Cz X B k](h:sees X i x=true)(hb:Az X (.Name x p) "pop")(hl:Ez apos pos)(hs:S1 X (.Constant (.int 0) j p2)):ZE X B (.Call (.Attribute (.Name x p) "pop" apos) [.Constant (.int 0) j p2] [] pos) (JE i):=⟨PL (bmI hb hl hs fX jB mI F6 (pvI h) (qg HH uA hs))⟩
theorem UD [C:Cz X B k](ha:ZE X B e f)(hb:ZE X B e' f')(h1:Az X e "get")(h2:Ez apos pos)(h3:S1 X e'):ZE X B (.Call (.Attribute e "get" apos) [e'] [] pos) (c2 Cu f f'):=⟨M4 (Mi C.r) ha.p hb.p ⟨h1,by rw[h3];rfl,h2,by rw[h3];rfl⟩⟩
theorem UE [C:Cz X B k][Q:Af B c0 xs](hx:xs.contains m=true)(h:sees X i x=true)(hv:ZE X B e f)(hs:Wz X e (.Attribute (.Name x p) m apos) pos):ZS X B (.Assign [.Attribute (.Name x p) m apos] e pos) (pz c0 i m f):=⟨PK (Sq (pvI h) hv.p hs) (by obtain⟨i,_,e⟩:=jm (lD.mp hx);exact C.K▸Q.p.at i (bQ.mpr ⟨_,e⟩))⟩
theorem UF [C:Cz X B k](h:sees X i x=true)(hk:ZE X B e' f')(hv:ZE X B e f)(hs:Wz X e (.Subscript (.Name x p) e' apos) pos):ZS X B (.Assign [.Subscript (.Name x p) e' apos] e pos) (pF i f' f):=⟨M6 (O4 (Mi C.r) (pvI h) hk.p hv.p hs)⟩
theorem UG{n:Nat}[Q:Ij B n](h:ZE X B e f):ZE X B e (u0 n f):=⟨Ql Q.p h.p⟩
section
variable{ks:List (Option Expr)}{kfs:List (Str×FE)}
theorem UH:ZP X B pos [] [] []:=⟨O5⟩
theorem UI(hv:ZE X B e f)(hr:ZP X B pos ks es kfs):ZP X B pos (some (.Constant (.str y) j p)::ks) (e::es) ((y,f)::kfs):=⟨Md LL hv.p hr.p⟩
theorem UJ(h:ZP X B pos ks es kfs)(h1:(ks.all (·.isSome)&&decide (ks.length=es.length)&&!ks.isEmpty&&decide (ks.length<=15)&&decide (kfs.map λq=>(Sum.inr q.1:Key)).Nodup&&decide (kfs.length<=15))=true):ZE X B (.Dict ks es pos) (u4 kfs):=by simp only[bo,bG,eX]at h1;obtain⟨⟨⟨⟨⟨a1,a2⟩,a3⟩,a4⟩,a5⟩,a6⟩:=h1;exact⟨JS (O6 h.p a1 a2 (λz=>by rw[z]at a3;cases a3) a4) a5 a6⟩
end
theorem UK{lo:Option Expr}{fl:FO}[C:Cz X B k](he:ZE X B e f)(hl:ZO X B lo fl)(hh:ZO X B hi fh):ZN X B (.Subscript e (.Slice lo hi none p) pos) (vq f fl fh):=⟨Ii (F3 (WS C.K) he.p hl.p hh.p)⟩
theorem UL{lo:Option Expr}[C:Cz X B k](he:ZE X B e f)(hl:ZK X lo l)(hh:ZK X hi h):ZN X B (.Subscript e (.Slice lo hi none p) pos) (cSl f l h):=⟨K7 (F3 (WS C.K) he.p hl.p hh.p)⟩
theorem UM:ZK X (some (.Constant (.int y) j pos)) (some y):=⟨MQ⟩
theorem UN:ZK X none none:=⟨WR⟩
theorem UO [C:Cz X B k](h:ZE X B e f):ZI X B tg e (iL f):=⟨Gp (Gd B.G.K h.p C.K)⟩
theorem UP [C:Cz X B k](h:ZE X B e f):ZI X B tg e (iT f):=⟨PR (Pb B.G.K h.p C.K)⟩
theorem UQ(h:ZE X B e f):ZI X B tg e (iD f):=⟨Nf (Qj h.p)⟩
theorem UR(h:ZE X B e f):ZI X B tg e (iS f):=⟨P9 (SF h.p)⟩
theorem US(h:ZE X B o f)(hb:Az X o "items")(hl:Ez apos pos):ZI X B (.Tuple elts x1 p) (.Call (.Attribute o "items" apos) [] [] pos) (iIt f):=⟨Li (Nt h.p hb hl)⟩
section
variable(hg:Gz X "zip")(hs:starEach [e,e'] X.env=[(false,eval e X.env),(false,eval e' X.env)])(hs2:S1 X e')
include hg hs hs2
theorem UT [C:Cz X B k][N:Nb B "zip"](ha:ZA X B [e,e'] a):ZI X B (.Tuple es i p2) (.Call (.Name "zip" p) [e,e'] [] pos) (iZ a):=⟨Qk (TM hg (C.mg▸N.p) ha.p hs hs2)⟩
end
section
variable{gg:FG}{gs:az->aZ->Option aZ}
theorem Qz:ZH X B [] n qv:=⟨Pr OK⟩
theorem QA(h1:ZG X B e n gg)(h2:ZH X B es n gs)(hs:(assignEach (e::es) X.env).map (·.2)=assign e X.env::(assignEach es X.env).map (·.2)):ZH X B (e::es) n (oK gg gs):=⟨My (LN h1.p h2.p hs)⟩
theorem QB [C:Cz X B k](h:ZH X B es n gs)(hn:(assignEach es X.env).length=n')(ht:(assignEach es X.env).findIdx? (·.1)=none):ZG X B (.Tuple es k' pos) n (gT gs n'):=⟨Pt (Pc B.G.K C.c h.p hn ht C.K)⟩
end
def tgN:Expr->aB
 |.Name x _=>[x]
 |.Tuple es _ _=>es.filterMap λe=>match e with|.Name x _=>some x|_=>none
 |_=>[]
def cpN(X:Cx)(tg:Expr)(cap:List Nat):aB:=tgN tg++cap.map λj=>X.N.getD j ""
instance inCz [C:Cz X B k]{N':aB}{sc:cD}{cl:List (Str×Addr)}{A:Addr}{fp:List Addr}{s:af}{H:Hp}:Cz (qb X N' sc cl A fp s H) B k:=⟨C.P,C.w,C.K,C.mg,C.b,C.c,C.r⟩
def UU(X:Cx)(N':aB)(sc:cD)(n:Nat)(cap:List Nat):Bool:=decide cap.Nodup&&decide (sc.kind=.function)&&(sc.names.all λy=>y.2 != .cell)&&(sc.names.all λy=>y.2 != .local||sc.names.lookup y.1==some .local)&&(sc.names.all λy=>y.2 != .free||(X.env.kindOf y.1==some .cell||X.env.kindOf y.1==some .free))&&decide (N'.length=n+cap.length)&&decide ((N'.drop n).map some=cap.map λj=>X.N[j]?)&&((N'.drop n).all λx=>sc.names.lookup x==some .free)
section
variable{sc:cD}{cap:List Nat}{ifs:List Expr}{gg:FG}{ft:FT}{s:FA}
 (h0:UU X (cpN X tg cap) sc n cap=true) (hs:Fz X it) (hi:ZI X B tg it s)
 (h1:∀(cl:List (Str×Addr)) (A:Addr) (fp:List Addr) (s:af) (H:Hp),ZG (qb X (cpN X tg cap) sc cl A fp s H) B tg n gg)
 (h2:∀(cl:List (Str×Addr)) (A:Addr) (fp:List Addr) (s:af) (H:Hp),ZF (qb X (cpN X tg cap) sc cl A fp s H) B ifs ft)
 (h3:∀(cl:List (Str×Addr)) (A:Addr) (fp:List Addr) (s:af) (H:Hp),ZE (qb X (cpN X tg cap) sc cl A fp s H) B e f)
include h0 hs hi h1 h2 h3
theorem UV [C:Cz X B k]:ZN X B (.ListComp e [⟨tg,it,ifs,0⟩] sc pos) (oT n cap s gg ft f):=by unfold UU at h0;simp only[bo,bG]at h0;obtain⟨⟨⟨⟨⟨⟨⟨a1,a2⟩,a3⟩,a4⟩,a5⟩,a6⟩,a7⟩,a8⟩:=h0;exact⟨MI a1 (Pa (N':=cpN X tg cap) C.c hi.p (λcl A fp s H=>⟨(h1 cl A fp s H).p,(h2 cl A fp s H).p,(h3 cl A fp s H).p⟩) a2 a3 a4 a5 a6 a7 a8 λx=>congrFun hs x)⟩
theorem cpW [C:Cz X B k](h:sets X i x=true)(hw:swapsWith (.ListComp e [⟨tg,it,ifs,0⟩] sc pos) (some (.Name x p)) apos.line X.env=pure true):PS X (.Assign [.Name x p] (.ListComp e [⟨tg,it,ifs,0⟩] sc pos) apos) (Ab (Ca (tFI B.G s) (tFG B.G n gg) (tFT B.G ft) (tF B.G f) n cap) (vK i))/\cap.Nodup:=by unfold UU at h0;simp only[bo,bG]at h0;obtain⟨⟨⟨⟨⟨⟨⟨a1,a2⟩,a3⟩,a4⟩,a5⟩,a6⟩,a7⟩,a8⟩:=h0;obtain⟨b1,b2,b3,b4⟩:=Fp h;exact⟨P6 (N':=cpN X tg cap) C.c b1 b2 b3 hi.p (λcl A fp s H=>⟨(h1 cl A fp s H).p,(h2 cl A fp s H).p,(h3 cl A fp s H).p⟩) a2 a3 a4 a5 a6 a7 a8 (λx=>congrFun hs x) hw b4,a1⟩
theorem UW [C:Cz X B k](h:sets X i x=true)(hw:swapsWith (.ListComp e [⟨tg,it,ifs,0⟩] sc pos) (some (.Name x p)) apos.line X.env=pure true):ZS X B (.Assign [.Name x p] (.ListComp e [⟨tg,it,ifs,0⟩] sc pos) apos) (oP i (cL (oT n cap s gg ft f))):=by have z:=cpW (k:=k) h0 hs hi h1 h2 h3 h hw;exact⟨MZ z.2 z.1⟩
end
section
variable{st:Stmt}{sts:List Stmt}{fs fs':FS}{ft:FT}{a':FA}{z1:Nat}
theorem W6(ha:ZE X B e f)(hr:ZA X B es a)(hs:Sz X e es):ZA X B (e::es) (nY f a):=⟨rR ha.p hr.p hs⟩
theorem W7:ZA X B [] oq:=⟨tH⟩
theorem UX(ha:ZE X B e f)(hr:ZM X B es i a)(hs:Sz X e es):ZM X B (e::es) i (nY f a):=⟨Lk ha.p hr.p hs⟩
theorem UY(h:sees X i x=true)(hs:S1 X (.Name x p)):ZM X B [.Name x p] i oq:=⟨Nv (pvI h) hs⟩
theorem UZ(h:sees X i x=true):ZV X (.Name x p) i:=⟨pvI h⟩
theorem U0(h:ZN X B e a):ZE X B e (cL a):=⟨SU h.p⟩
theorem W8:ZE X B (.Constant (.str y) j pos) (cC (.str y)):=⟨SJ⟩
theorem W9:ZE X B (.Constant (.int y) j pos) (cC (.int y)):=⟨SI⟩
theorem Xa:ZE X B (.Constant (.bool y) j pos) (cC (.bl y)):=⟨Wx⟩
theorem Xb:ZE X B (.Constant .none j pos) (cC .non):=⟨SK⟩
theorem NK(h1:ZS X B st fs)(h2:ZB X B sts fs'):ZB X B (st::sts) (oe fs fs'):=⟨Ms h1.p h2.p⟩
theorem Xc(h1:ZS X B st fs):ZB X B [st] fs:=⟨Po h1.p⟩
theorem Xd:ZB X B [] oA:=⟨Pn⟩
theorem U1(h:ZE X B e f):ZS X B (.Return (some e) pos) (oj f):=⟨Pp h.p⟩
theorem U2(h:ZN X B e a):ZS X B (.Return (some e) pos) (qK a):=⟨Mt h.p⟩
theorem U3(h:ZE X B e f)(hs:swapsWith e none pos.line X.env=pure false):ZS X B (.Expr e pos) (o9 f):=⟨Mu h.p hs⟩
theorem U4(h:ZT X B e ft)(h1:ZB X B sts fs)(h2:ZB X B sts' fs'):ZS X B (.If e sts sts' pos) (sIf ft fs fs'):=⟨SW h.p h1.p h2.p⟩
theorem U5:ZE X B e Cv:=⟨M7⟩
theorem U6(h:ZA X B es a):ZN X B (.List es pos) (oG a):=⟨Pk h.p⟩
theorem U7(h:ZA X B es a):ZE X B (.Tuple es z1 pos) (pd a):=⟨SR h.p⟩
theorem U8(ha:ZE X B e f)(hb:ZE X B e' f'):ZN X B (.BinOp e .Add e' pos) (qz f f'):=⟨PX ha.p hb.p⟩
theorem U9 [C:Cz X B k](ha:ZE X B e f)(hb:ZE X B e' f'):ZE X B (.BinOp e .Add e' pos) (AR f f'):=⟨Qa ha.p hb.p C.K⟩
theorem Va(ha:ZE X B e f)(hb:ZE X B (.BoolOp .And (e'::es) pos) f'):ZE X B (.BoolOp .And (e::e'::es) pos) (p8 f f'):=⟨SO ha.p hb.p⟩
theorem Vb(ha:ZE X B e f)(hb:ZE X B (.BoolOp .Or (e'::es) pos) f'):ZE X B (.BoolOp .Or (e::e'::es) pos) (cOr f f'):=⟨WC ha.p hb.p⟩
theorem Vc{op}(ha:ZE X B e f):ZE X B (.BoolOp op [e] pos) f:=⟨SN ha.p⟩
theorem Vd(ha:ZE X B e f):ZE X B (.UnaryOp .Not e pos) (BF f):=⟨SQ ha.p⟩
theorem Ve(ha:ZT X B e ft):ZT X B (.UnaryOp .Not e pos) (qu ft):=⟨Ph ha.p⟩
theorem Vf(h:ZT X B o ft)(ha:ZE X B e f)(hb:ZE X B e' f'):ZE X B (.IfExp o e e' pos) (cIf ft f f'):=⟨WD h.p ha.p hb.p⟩
theorem Xe(h:ZT X B e ft):ZF X B [e] ft:=⟨O9 h.p⟩
theorem Xf:ZF X B [] pM:=⟨MJ⟩
theorem Vg(h:ZE X B e f):ZE X B e (zr f):=⟨Tp h.p⟩
theorem Vh(h:ZT X B e ft):ZT X B e (yF ft):=⟨PY h.p⟩
theorem Vi(h:ZE X B e f):ZO X B (some e) (oAt f):=⟨Tw h.p⟩
theorem Vj:ZO X B none oNo:=⟨Tv⟩
theorem Vk(ha:ZT X B e ft)(hb:ZW X B (.BoolOp .Or (e'::es) pos) fu):ZW X B (.BoolOp .Or (e::e'::es) pos) (rG ft fu):=⟨Mq ha.p hb.p⟩
theorem Vl(h:ZT X B e ft):ZW X B (.BoolOp .Or [e] pos) ft:=⟨Pi h.p⟩
theorem Vm(h:ZT X B e ft):ZW X B (.BoolOp .And [e] pos) ft:=⟨Mp h.p⟩
end
theorem Vn{s:FA}[C:Cz X B k](hp:iz (model X.prog X.w) X.A X.env X.xe)(hn:X.N.length=n)(hi:ZI X B tg it s)(hg:ZG X B tg n gg)(hb:ZB X B body b)(hs:Fz X it):ZS X B (.For tg it body [] pos) (sS s gg b):=⟨PU (LS hp C.c hi.p hg.p hb.p λx=>congrFun hs x)⟩
theorem Vo(hp:iz (model X.prog X.w) X.A X.env X.xe)(hc:ZT X B e ft)(hb:ZB X B body b):ZS X B (.While e body [] pos) (whL ft b n):=⟨KZ n (LP hp hc.p hb.p)⟩
end
end L4
namespace L4
open PySem PySem.Spec PyProof.Rows L2 L3
open PySem.W (fnOf)
def nmO(st:Stmt):aB:=(oJ st).names.filterMap λy=>match y.2 with|.local=>some y.1|.cell=>some y.1|_=>none
def psO(st:Stmt):aB:=(sv st).args.map (·.arg)
def okO(N ps:aB)(st:Stmt)(np n:Nat):Bool:=decide ((oJ st).kind=.function)&&(oJ st).isCoroutine==false&&(oJ st).isGenerator==false&&decide N.Nodup&&decide (N.take ps.length=ps)&&(ps.all λx=>match (oJ st).names.lookup x with|some .local=>true|some .cell=>true|_=>false)&&((oJ st).names.all λy=>y.2 != .free)&&decide (ps.length=np)&&decide (N.length=n)
theorem okk{st:Stmt}{n:Nat}(h:okO N ps st np n=true):p5 N ps (oJ st)/\ps.length=np/\N.length=n:=by
 unfold okO at h;simp only[bo,bG,beq_iff_eq]at h;obtain⟨⟨⟨⟨⟨⟨⟨⟨h1,h2⟩,h3⟩,h4⟩,h5⟩,h6⟩,h7⟩,h8⟩,h9⟩:=h;refine⟨⟨h1,h2,h3,h4,h5,λx hx=>?_,λy hy e=>?_⟩,h8,h9⟩
 ·have z:=bC.mp h6 x hx;split at z
  ·rename_i e;exact .inl e
  ·rename_i e;exact .inr e
  ·cases z
 ·have z:=bC.mp h7 y hy;rw[e]at z;exact ao z (by decide)
section
variable{B:Bz}[Y:Yb B]{x m qual:Str}{st s0:Stmt}{l:List Stmt}{k c np n:Nat}{b:FS}{p:Str}{ps xs:aB}{N:aB}
abbrev Bdz(B:Bz)(N:aB)(qual:Str)(st:Stmt)(l:List Stmt)(k:Nat)(b:FS):Prop:=∀{f:Addr} {cdv:ae} {A:aQ} {outer:List Env} {s:af} {H:Hp} {E:XK} [Cz (yG B.P B.w B.G.K B.mg B.base N qual st f cdv A outer s H E) B k],ZB (yG B.P B.w B.G.K B.mg B.base N qual st f cdv A outer s H E) B l b
omit Y in
theorem Bdz.ok(h:Bdz B N qual st l k b)(hl:pf st=l):Bdy B.P B.w B.G.K B.mg B.base N qual st k (tFS B.G b):=λf cdv A outer s H E hr=>by subst hl;exact(@h f cdv A outer s H E ⟨rfl,rfl,rfl,rfl,rfl,rfl,hr⟩).p
theorem gF4{g:az->Option D}(hg:g=fnD np n b)(q:GD B.G.K x st)(hl:pf st=s0::l)(body:Bdz B (nmO st) x st (s0::l) k b)(S:okO (nmO st) (psO st) st np n=true:=by kernel_rfl)(bd:Bds x x st (psO st):=by (repeat intro _);rfl):Df B (k+1) x (spF B.G g):=
 ⟨_,gF hg Y.y q (okk S).1 (body.ok hl) (okk S).2.1 (okk S).2.2 bd⟩
theorem gF5(N:aB){g:az->Option D}(hg:g=fnD np n b)(q:GD B.G.K x st)(hl:pf st=s0::l)(body:Bdz B N x st (s0::l) k b)(S:okO N (psO st) st np n=true:=by kernel_rfl)(bd:Bds x x st (psO st):=by (repeat intro _);rfl):Df B (k+1) x (spF B.G g):=
 ⟨_,gF hg Y.y q (okk S).1 (body.ok hl) (okk S).2.1 (okk S).2.2 bd⟩
theorem gN4{g:az->Option az}(hg:g=fnN np n b)(q:GD B.G.K x st)(hl:pf st=s0::l)(body:Bdz B (nmO st) x st (s0::l) k b)(S:okO (nmO st) (psO st) st np n=true:=by kernel_rfl)(bd:Bds x x st (psO st):=by (repeat intro _);rfl):Df B (k+1) x (spN B.G g):=
 ⟨_,gN' hg Y.y q (okk S).1 (body.ok hl) (okk S).2.1 (okk S).2.2 bd⟩
theorem gL4{g:az->az->Option (D×az)}(hg:g=fnL np n b)(q:GD B.G.K x st)(hl:pf st=s0::l)(body:Bdz B (nmO st) x st (s0::l) k b)(S:okO (nmO st) (psO st) st (np+1) n=true:=by kernel_rfl)(bd:Bds x x st (psO st):=by (repeat intro _);rfl):Df B (k+1) x (spL B.G g):=
 ⟨_,gL hg Y.y q (okk S).1 (body.ok hl) (okk S).2.1 (okk S).2.2 bd⟩
theorem gM4{g:az->az->Option (D×az)}(hg:g=fnM np n b)(q:GD B.G.K x st)(hl:pf st=s0::l)(hp:psO st=p::ps)(body:Bdz B (nmO st) x st (s0::l) k b)(S:okO (nmO st) (p::ps) st (np+1) n=true:=by kernel_rfl)(bd:Bds x x st (p::ps):=by (repeat intro _);rfl):Df B (k+1) x (spM B.G g):=
 ⟨_,gM hg Y.y q (okk S).1 (body.ok hl) (gd (okk S).2.1) (okk S).2.2 bd⟩
theorem hF4{g:az->Option D}(C:CF B.G.K (B.G.ca c) xs)(hg:g=fnD np n b)(q:GM B.G.K (B.G.ca c) m qual st)(hl:pf st=s0::l)(body:Bdz B (nmO st) qual st (s0::l) k b)(S:okO (nmO st) (psO st) st np n=true:=by kernel_rfl)(bd:Bds m qual st (psO st):=by (repeat intro _);rfl):wm B.G B.P B.w B.mg B.base (k+1) m c g:=by obtain⟨f,fd,a,i,F⟩:=q;exact⟨f,fd,_,C.ci.cl,⟨a,i,F.kp⟩,bd.ok F,MU hg (okk S).2.1 (okk S).2.2 F (okk S).1 (body.ok hl f)⟩
theorem gI4{g:az->Option (aB×az)}(C:CF B.G.K (B.G.ca c) xs)(a:gu B.G.K mainGlobals x=some (some (.ref (B.G.ca c))))(hg:g=fnI c np n b)(q:GM B.G.K (B.G.ca c) "__init__" qual st)(hl:pf st=s0::l)(hp:psO st=p::ps)(body:Bdz B (nmO st) qual st (s0::l) k b)(S:okO (nmO st) (p::ps) st (np+1) n=true:=by kernel_rfl)(bd:Bds "__init__" qual st (p::ps):=by (repeat intro _);rfl):Kf B (k+1) x c g []:=
 ⟨⟨_,gI hg Y.y C a q (okk S).1 (body.ok hl) (gd (okk S).2.1) (okk S).2.2 bd⟩,rfl⟩
theorem gJ4{g:az->Option (aB×az)}{dds:az}(C:CF B.G.K (B.G.ca c) xs)(a:gu B.G.K mainGlobals x=some (some (.ref (B.G.ca c))))(hg:g=fnI c np n b)(q:GJ B.G.K (B.G.ca c) qual st (dds.map vD))(hl:pf st=s0::l)(hp:psO st=p::ps)(body:Bdz B (nmO st) qual st (s0::l) k b)(j:Nat)(S:okO (nmO st) (p::ps) st (np+1) n=true:=by kernel_rfl)(hf:dds.all rg=true:=by rfl)
  (bd:IG (dds.map vD).length λdl=>IG ((p::ps).length - ((dds.map vD).drop j).length) λus=>∀(T:Addr) (kV doc pm:ae) (an:Option Addr) (cdv ct:ae),∃k,bindArgs (fnOf "__init__" qual (sv st) (pf st) (oJ st) (.ref T) kV doc pm an cdv ct) ⟨us,[]⟩=seqItems? (.ref T)>>=k/\k (some dl.toArray)=pure ((p::ps).zip (us++dl.drop j)):=by (repeat intro _);exact⟨_,rfl,rfl⟩):Kf B (k+1) x c g (dds.drop j):=
 ⟨⟨_,by rw[fi];exact gJ hg Y.y C a q (okk S).1 (body.ok hl) j (gd (okk S).2.1) (okk S).2.2 bd⟩,by
  rw[bC]at hf ⊢;exact λd h=>hf d (jj h)⟩
theorem zC(n:Nat)(ca:Nat->Addr):∀k,k<n->((bz n).map ca).getD k 0=ca k:=λk h=>by rw[ck,bj,lL h];rfl
theorem XY{n:Nat}{ca:Nat->Addr}(h:decide ((bz n).map ca).Nodup=true):∀j k,j<n->k<n->ca j=ca k->j=k:=λj k hj hk e=>by rw[<-zC n ca j hj,<- zC n ca k hk]at e;exact TU (bq h) (by simpa using hj) (by simpa using hk) e
def yA:Nat->(Nat->Prop)->Prop
 |0,_=>True
 |n+1,Q=>Q 0/\yA n λk=>Q (k+1)
theorem yA.at:∀{n:Nat} {Q:Nat->Prop},yA n Q->∀k,k<n->Q k
 |_+1,_,h,0,_=>h.1
 |_+1,_,h,k+1,hk=>yA.at (Q:=λk=>_) h.2 k (Nat.lt_of_succ_lt_succ hk)
end
section
variable{X:Cx}{B:Bz}{k j i n:Nat}{x y:Str}{e e' tg:Expr}{es:List Expr}{p p2 p3 pos apos:Pos}{f f':FE}{a:FA}{st:Stmt}{sts:List Stmt}{fs fs':FS}{ft:FT}
theorem Vp(hn:X.N.length=n)(he:ZE X B e f)(hg:ZG X B tg n gg)(hs:swapsWithSole [tg] e pos.line X.env=pure false)(hw:swappedStores [tg] e X.env=pure none)(h1:(assignEach [tg] X.env).map (·.2)=[assign tg X.env]):ZS X B (.Assign [tg] e pos) (Gh f gg):=⟨Pu (R9 he.p hg.p hs hw h1)⟩
theorem Vq [C:Cz X B k][N:Nb B "int"](hg:Gz X "int")(hs:S1 X e)(ha:ZE X B e f):ZE X B (.Call (.Name "int" p) [e] [] pos) (c1 Gu f):=⟨Rt Tj (ctI hg (by decide) hs Kx Pv.boot_int (rR ha.p tH hs))⟩
end
end L4
namespace L4
open PySem PySem.Spec PyProof.Rows L2 L3
section
variable{X:Cx}{G:Bg}
def QC:D->D->Option D
 |.dic ks _,.dic [] _=>some (.bl (!ks.isEmpty))
 |_,_=>none
def Xg:R2:=λx y H Q=>∃a b kvs,x=.ref a/\y=.ref b/\Rd H a (.dK kvs)/\Rd H b (.dK [])/\Q (.bl (!kvs.isEmpty)) H
theorem Vr(hu:X.A.units<cLine):OpR X (compareOp .NotEq) Xg:=by
 intro pins s σ H x y v u Q I rx ry h;obtain⟨a,b,kvs,ex,ey,ea,eb,q⟩:=h;subst ex ey;cases (show v=Value.ref a from rx);cases (show u=Value.ref b from ry);obtain⟨z,hd,vs,rel,dd⟩:=yC I.hok ea;obtain⟨z',hd',vs',rel',dd'⟩:=yC I.hok eb;cases rel';refine W.keq_ne hd hd' dd dd' hu (r:=true) (λe=>?_) ?_
 ·cases vs with
  |nil=>exact .nil
  |cons _ _=>cases e
 ·refine⟨.bl (!kvs.isEmpty),H,I,?_,q⟩;show Value.bool _=Value.bool _;cases rel<;>rfl
theorem Vs:OpD G Xg QC:=λx y z H0 H v u Q e s rx ry k=>by
 cases x with
 |dic ks ds=>
  cases y with
  |dic ks' ds'=>
   cases ks' with
   |nil=>
    cases e;unfold Rep at rx ry;obtain⟨p,ob,xs,rfl,h1,h2,h3⟩:=rx;obtain⟨p',ob',xs',rfl,h1',h2',h3'⟩:=ry;refine⟨p,p',ks.zip xs,rfl,rfl,.inr ⟨ob,s _ _ h1⟩,.inr ⟨ob',?_⟩,?_⟩
    ·exact s _ _ h1'
    ·have:(ks.zip xs).isEmpty=ks.isEmpty:=by
      cases ks with
      |nil=>rfl
      |cons a r=>cases xs with
       |nil=>cases h2
       |cons _ _=>rfl
     rw[this];exact k _ λ_ _=>rb _
   |cons _ _=>cases e
  |_=>cases e
 |_=>cases e
theorem NL:PE X (.Dict [] [] pos) (Me []):=PE.weak B6 λσ H Q hh p e=>by
 obtain⟨_,kvs,e1,_,q⟩:=hh p e;cases kvs with
 |nil=>
  have:upd (upd H p (.dK [])) p (.dK (xt [] []))=upd H p (.dK []):=by
   funext a
   unfold upd;split<;>rfl
  rw[this]at q;exact q
 |cons _ _=>cases e1
theorem NM:PE X (.Dict [] [] pos) (tF G (u4 [])):=JS NL f9 (cj _)
end
instance inNeE:CmC .NotEq QC:=⟨λ_ _ _ u=>⟨_,Vr (by omega),Vs⟩⟩
theorem Vt:ZE X B (.Dict [] [] pos) (u4 []):=⟨NM⟩
theorem sub_dict_dict:isSubtype (.type "dict") (.type "dict")=pure true:=by rw[jI];kernel_rfl
section
variable{prog:aS}{w:aI}{A:aQ}{E:ae->af->Prop}{s:af}
theorem Fq(hh:A.handled=none)(hd:(d==sysModules)=false)(ho:s.heap.get? d=some o)(hc:o.cls=.type "dict")(hm:s.heap.DictAt (oQ prog w) d kvs ep)(hn:kvs.length<=1000)
  (hQ:∀h2 k2 acc,s.heap.objs.size<=h2.objs.size->(∀b o,s.heap.get? b=some o->h2.get? b=some o)->ItemsOf (λi v=>∃k x,kvs[i]?=some (k,x)/\(oQ prog w).is k v=true) acc kvs.length->Q acc.toList { s with heap:=h2,toks:=k2 }):wpAny (model prog w) A (collect (.ref d)) Q E s:=by
 have hlt:=aN ho;let lO:Obj:={ cls:=.type "list", data:=.seq ([]:List ae).toArray };unfold collect;refine au (wpAny_runValue (dg F.entry_proto_collect ?_));rw[dB F.plain_proto_collect _];show wpAny _ A.in1 (newList []>>=λl=>again (.builtin "list.__iadd__" ⟨[l,.ref d],[]⟩)) _ _ s;refine au (me ?_);refine aD ⟨fg ml _,dg F.entry_list_iadd ?_⟩;rw[dB ml _];show wpAny _ A.in1 (kR (.ref s.heap.objs.size) (.ref d) (.ref s.heap.objs.size)) _ _ _;have o1:(s.heap.push lO).get? d=some o:=aK _ ho;have T1:jO { s with heap:=s.heap.push lO } (.ref d) "dict" := ⟨o,o1,hc⟩;unfold kR;refine au (jY T1 ?_);rw[aj (by
  have:lj (.ref s.heap.objs.size) (.ref d)=false:=by simp[lj];exact λe=>ao e (fq hlt)
  rw[this];decide)]
 have m1:(s.heap.push lO).DictAt (oQ prog w) d kvs ep:=hm.at' λo e=>aK _ e;refine au (mf (knd:=oQ prog w) (kvs:=kvs) (ep:=ep) hd m1 ?_);let h3:=(s.heap.push lO).push { cls:=.type "dict_keyiterator", data:=.fields #[.ref d,.int 0 0,.int kvs.length 0,.int ep 0] };have T3:jO { s with heap:=h3 } (.ref d) "dict" := ⟨o,aK _ o1,hc⟩;have ez:(s.heap.push lO).objs.size=s.heap.objs.size+1:=dh _ _;have L3:h3.get? s.heap.objs.size=some lO:=aK _ (bu _ rfl);have I3:h3.IsKeyIter (s.heap.objs.size+1) d 0 kvs.length ep:=⟨_,by rw[<-ez];exact bu _ rfl,rfl,rfl⟩;have M3:h3.DictAt (oQ prog w) d kvs ep:=m1.at' λo e=>aK _ e;have K3:∀b o,s.heap.get? b=some o->h3.get? b=some o:=λb o e=>aK _ (aK _ e);show wpAny _ A.in1 (holding [.ref (s.heap.push lO).objs.size] (kU (.ref d))>>=_) _ _ { s with heap:=h3 };rw[ez];refine au (cG ?_);unfold kU;refine au (jC T3 F.slot_dict_len.lookup ?_);generalize hid:("dict.__len__" : String)=id0;wp_delta;rw[show splitId id0=some ("dict", "__len__") from by subst hid;decide +kernel];subst hid;refine au (wpAny_isInstance T3 sub_dict_dict ?_);dsimp only;rw[aj (by decide),ai (by decide +kernel)];refine au (jY T3 ?_);refine aD ?_;rw[ai (by decide +kernel)];refine au (wpAny_rule ?_);refine au ?_;show wpAny _ A.in1 (updateSeq s.heap.objs.size (·.push .none)>>=λ_=>updateSeq s.heap.objs.size (·.pop)) _ _ _
 refine au (jF L3 rfl ?_);have S2:=jc (cP (·.push Value.none)) L3 rfl
 refine jF S2 rfl ?_;have S3:=jc (cP (·.pop)) S2 rfl
 have oth:∀b o,b≠s.heap.objs.size->h3.get? b=some o->((h3.update s.heap.objs.size (cP (·.push Value.none))).update s.heap.objs.size (cP (·.pop))).get? b=some o:=
  λb o hb e=>(fO _ _ (cQ hb)).trans ((fO _ _ (cQ hb)).trans e)
 have hne:d≠s.heap.objs.size+1:=aX (cX hlt);have hSf:s.heap.objs.size∉[s.heap.objs.size+1,d]:=by
  intro z;rcases aM.mp z with z|z
  ·exact ao z (aX (dE _))
  ·exact ao (aO.mp z) (fq hlt)
 have W:=(mO (prog:=prog) (w:=w) (knd:=oQ prog w) (A:=A.in1) (by simp[hh]) (s.heap.objs.size+1) d hne kvs ep).toS;refine aD ⟨fg F.plain_extend_loop _,codeAny_extend_loopS W (by rw[bJ];omega) _ hSf _ kvs.length 0 _ _ _ rfl (cj _)
  ⟨I3.at λo e=>oth _ o (fq (dE _)) e,M3.at' λo e=>oth _ o (aX hlt) e⟩ S3 (ItemsOf.nil _) λs' acc' c' hm hS' hacc=>?_⟩
 show wpAny _ A (load s.heap.objs.size>>=_) _ _ s';refine au (wpAny_load hS' ?_);obtain⟨h2,g2,d2,k2,o2⟩:=s';have eg:g2=s.gens:=hm.gens;have ed:d2=s.drawn:=hm.drawn;have eo:o2=s.os:=hm.os;subst eg ed eo;refine aD (hQ h2 k2 acc' (fm (aN hS')) (λb o e=>?_) hacc);have hb:=aN e;exact hm.heap b o (λz=>by
  rcases aM.mp z with z|z
  ·exact ao z (aX hb)
  ·exact ao (aO.mp z) (aX (cX hb))) (oth b o (aX hb) (K3 b o e))
theorem JY:∀(vs:List ae) (ss:aB),vs.length=ss.length->(∀(j:Nat) (v:ae) (z:Str),vs[j]?=some v->ss[j]?=some z->∃t,v=.str z t)->gY vs ss
 |[],[],_,_=>.nil
 |v::vs,z::ss,h,k=>by obtain⟨t,rfl⟩:=k 0 v z rfl rfl;exact .cons z t (JY vs ss (gd h) λj=>k (j+1))
 |[],_::_,h,_=>by cases h
 |_::_,[],h,_=>by cases h
theorem G1{ss:aB}(hh:A.handled=none)(hd:(d==sysModules)=false)(ho:s.heap.get? d=some o)(hc:o.cls=.type "dict")(hm:s.heap.DictAt (oQ prog w) d kvs ep)(hn:kvs.length<64)(hk:kvs.map aC=ss.map Sum.inr)
  (hQ:∀p h2 k2 out e,s.heap.objs.size<=p->(∀b o,s.heap.get? b=some o->h2.get? b=some o)->gY out (AX ss)->h2.get? p=some (seqObj "list" out.toArray e)->Q (.ref p) { s with heap:=h2,toks:=k2 }):wpAny (model prog w) A (call (.builtin "sorted") [.ref d]) Q E s:=by
 refine kZ kind_sorted plain_sorted entry_sorted (args_sorted1 _) ?_;unfold dP.«sorted»;refine au (m:=checkCount "sorted" 1 1 _) (aD ?_);refine au (Fq (by simp[hh]) hd ho hc hm (by omega) λh2 k2 acc hz kk ia=>?_);have hl:acc.toList.length=ss.length:=by have:=aR bT hk;rw[ah,ah]at this;rw[eW,ia.1,this]
 have hS:gY acc.toList ss:=JY _ _ hl λj v z e1 e2=>by
  rw[jb]at e1;obtain⟨k,x,e3,e4⟩:=ia.2 j v e1;have e5:(kvs.map aC)[j]?=some k:=by rw[bj,e3];rfl
  rw[hk,bj,e2]at e5;cases e5;exact Fh e4
 have h64:acc.toList.length<64:=by rw[eW,ia.1];exact hn
 refine au (jQ ?_);have hoL:(h2.push (seqObj "list" acc.toList.toArray 0)).get? h2.objs.size=some (seqObj "list" acc.toList.toArray 0):=bu _ rfl;show wpAny _ _ _ _ _ { s with heap:=h2.push (seqObj "list" acc.toList.toArray 0),toks:=k2 };refine au (cG (jA slot_list_sort ⟨_,hoL,rfl⟩ entry_list_sort (list_sort_treeK strKind_oneLt hoL hS.keysOf (λv₁ v₂ rest e=>keyKind_strs (by rw[<-e];exact hS)) h64 λst' a1 a2=>⟨_,rfl,?_⟩) (args_list_sort _)));obtain⟨ss',b1,b2,b3⟩:=sorted_out_str hS a1 a2;rw[II b2 b3]at b1;obtain⟨e,he⟩:=sortedHeap_at (vs:=acc.toList) (out:=(arrOf st').map (·.2)) hoL
 refine aD ⟨_,rfl,hQ h2.objs.size _ k2 _ e hz (λb o z=>?_) b1 he⟩;have:=kk b o z;rw[sortedHeap_old (aX (aN this)) (by rw[dh];exact cX (aN this))];exact aK _ this
end
section
variable{X:Cx}{G:Bg}{B:Bz}{k:Bool}{pins:cy}{σ:St}{H:Hp}{s:af}
theorem Fs(hc:X.calm=true):qr X (.builtin "sorted") (λxs H Q=>∃(a:Addr) (o:Obj) (kvs:List (Key×V)) (ss:aB),xs=[.ref a]/\H a=some (.frz o (.dK kvs))/\kvs.map aC=ss.map Sum.inr/\ss.length<64/\∀p,H p=none->Q (.ref p) (upd H p (.lst ((AX ss).map V.str)))):=by
 intro pins s σ H xs us Q I r h;obtain⟨a,o,kvs,ss,rfl,he,hk,h64,q⟩:=h;obtain⟨u,rfl,ru⟩:=vals1 r;cases ru;obtain⟨q0,_,y,vs,r,ob,es,ep,e1,e2,e3,e4⟩:=(show pI X.prog X.w H s.heap a (.frz o (.dK kvs)) from I.hok a _ he);rw[q0]at e1;cases e1;have hl:kvs.length=vs.length:=r.length;have hl2:=aR bT hk;rw[ah,ah]at hl2;have kv:∀{kvs:List (Key×V)} {vs:List (Key×ae)},KV kvs vs->vs.map aC=kvs.map aC:=λ{kvs vs} r=>by
  induction r with
  |nil=>rfl
  |cons h _ ih=>rw[ay,ay,ih,show _=_ from h.1]
 refine G1 (I.ok.hd hc) y q0 e2.1 ⟨o,es,q0,e2,e3,e4⟩ (by omega) ((kv r).trans hk) λp h2 k2 out e hp kk hs hg=>?_;refine⟨.ref p,_,I.laid (t':=k2) kk hp ?_,rfl,q _ (I.hok.fresh hp)⟩;refine⟨?_,out,e,RB hs,hg⟩;rw[ah,show (AX ss).length=ss.length from(jo ss leS).length_eq,bJ];omega
def AY:List Key->Option aB
 |[]=>some []
 |.inr x::ks=>(AY ks).map (x::·)
 |_=>none
theorem G2:∀{ks:List Key} {ss:aB},AY ks=some ss->ks=ss.map Sum.inr
 |[],ss,e=>by cases e;rfl
 |.inl _::_,ss,e=>by cases e
 |.inr x::ks,ss,e=>by
  unfold AY at e;cases e1:AY ks with
  |none=>rw[e1]at e;cases e
  |some l=>rw[e1]at e;cases e;rw[G2 e1];rfl
def Au(f:FE):FA:=λρ=>match f ρ with
 |some (.dic ks ds,ρ')=>match AY ks with
  |some ss=>if ss.length<64 then some ((AX ss).map D.str,ρ')else none
  |none=>none
 |_=>none
theorem G3(h:PE X e (tCB (λxs H Q=>∃(a:Addr) (o:Obj) (kvs:List (Key×V)) (ss:aB),xs=[.ref a]/\H a=some (.frz o (.dK kvs))/\kvs.map aC=ss.map Sum.inr/\ss.length<64/\∀p,H p=none->Q (.ref p) (upd H p (.lst ((AX ss).map V.str)))) (tFA G (nY f oq)))):PE X e (tFN G (Au f)):=PE.weak h λσ H Q hh=>by
 obtain⟨F,ρ,H0,es,ρ',R,e,k⟩:=hh;unfold Au at e;split at e
 ·rename_i ks ds ρ1 e1;cases e2:AY ks with
  |none=>simp only[e2]at e;cases e
  |some ss=>
   simp only[e2]at e;split at e
   ·rename_i h64;cases e;refine⟨F,ρ,H0,[.dic ks ds],_,R,by unfold nY;rw[e1];rfl,λys H1 H1' s R' rs=>?_⟩;unfold oh at rs;obtain⟨v,r0,rfl,rv,rn⟩:=rs;unfold oh at rn;subst rn;unfold Rep at rv;obtain⟨a,o,xs,rfl,r1,r2,r3⟩:=rv;refine⟨a,o,_,ss,rfl,R'.sub _ _ r1,?_,h64,λp hp=>?_⟩
    ·rw[mD (jU r2)];exact G2 e2
    ·exact k p _ _ _ s (R'.newOwn hp _) om (R'.h0none hp) (R'.bNone hp) (R'.apart hp) (CN _)
   ·cases e
 ·cases e
end
section
variable{X:Cx}{B:Bz}{k:Nat}{e:Expr}{f:FE}{p pos:Pos}
theorem Vu [C:Cz X B k][N:Nb B "sorted"](hs:S1 X e)(hg:Gz X "sorted")(ha:ZE X B e f):ZN X B (.Call (.Name "sorted" p) [e] [] pos) (Au f):=⟨G3 (cbI hg (by decide) hs (Fs C.c) boot_sorted (rR ha.p tH hs))⟩
end
section
variable{t:iE}{m n:Nat}
def rs(m i q:Nat):ic:=⟨i,jG m i - i,i,q,none⟩
end
section
variable{ow:Array (Option Nat)}
def lv(ow:Array (Option Nat)):List (Nat×Nat):=(bz 32).filterMap λj=>(ow.getD j none).map (j,·)
end
section
variable{X:Cx}{G:Bg}
def NN:D->D->Option D
 |.dic ks _,.dic [] _=>some (.bl ks.isEmpty)
 |_,_=>none
def Xh:R2:=λx y H Q=>∃a b kvs,x=.ref a/\y=.ref b/\Rd H a (.dK kvs)/\Rd H b (.dK [])/\Q (.bl kvs.isEmpty) H
theorem Vv(hu:X.A.units<cLine):OpR X (compareOp .Eq) Xh:=by
 intro pins s σ H x y v u Q I rx ry h;obtain⟨a,b,kvs,ex,ey,ea,eb,q⟩:=h;subst ex ey;cases (show v=Value.ref a from rx);cases (show u=Value.ref b from ry);obtain⟨z,hd,vs,rel,dd⟩:=yC I.hok ea;obtain⟨z',hd',vs',rel',dd'⟩:=yC I.hok eb;cases rel';refine W.keq_eq hd hd' dd dd' hu (r:=true) (λe=>?_) ?_
 ·cases vs with
  |nil=>exact .nil
  |cons _ _=>cases e
 ·refine⟨.bl kvs.isEmpty,H,I,?_,q⟩;show Value.bool _=Value.bool _;cases rel<;>rfl
theorem Vw:OpD G Xh NN:=λx y z H0 H v u Q e s rx ry k=>by
 cases x with
 |dic ks ds=>
  cases y with
  |dic ks' ds'=>
   cases ks' with
   |nil=>
    cases e;unfold Rep at rx ry;obtain⟨p,ob,xs,rfl,h1,h2,h3⟩:=rx;obtain⟨p',ob',xs',rfl,h1',h2',h3'⟩:=ry;refine⟨p,p',ks.zip xs,rfl,rfl,.inr ⟨ob,s _ _ h1⟩,.inr ⟨ob',?_⟩,?_⟩
    ·exact s _ _ h1'
    ·have:(ks.zip xs).isEmpty=ks.isEmpty:=by
      cases ks with
      |nil=>rfl
      |cons a r=>cases xs with
       |nil=>cases h2
       |cons _ _=>rfl
     rw[this];exact k _ λ_ _=>rb _
   |cons _ _=>cases e
  |_=>cases e
 |_=>cases e
theorem NO{g:az->az->Option (D×az)}(hh:tF G (pJ g i a) σ H Q):xp (spL G g) [] E (IA G i a) σ H Q:=by
 obtain⟨F,ρ,H0,d,ρ',R,e,k⟩:=hh;unfold pJ at e;rcases o5 (f:=a) (ρ:=ρ)with e1|⟨ds,ρ1,e1⟩<;>simp only[e1]at e
 ·cases e
 ·cases e2:pZ ρ1 i with
  |none=>simp only[e2]at e;cases e
  |some es=>
   simp only[e2]at e;cases e3:g es ds with
   |none=>simp only[e3]at e;cases e
   |some q=>obtain⟨d1,es'⟩:=q;simp only[e3]at e;cases e;refine⟨F,ρ,H0,ds,ρ1,es,R,e1,e2,λys b H1 H1' s R' rs sb=>?_⟩;obtain⟨s,es0,es1⟩:=rJ e2;obtain⟨b',xs',t1,t2,t3,t4⟩:=(R'.sl i s es0).lst es1;rw[rf t1]at sb;cases sb;refine⟨b,ys,bt _,b,ys,xs',H1,es,ds,d,es',rfl,t2,t3,R'.sub,t4,rs,e3,λv zs H2 H2' u1 u2 u3 fr w0 w1 w2 w3=>?_⟩;refine k _ _ _ (oB.trans ‹oB H0 H1› u1) ?_ w3;unfold putAt;rw[es0];exact R'.call1 es0 es1 t1 u1 u2 u3 fr w0 w1 w2
end
instance inEqE:CmC .Eq NN:=⟨λ_ _ _ u=>⟨_,Vv (by omega),Vw⟩⟩
end L4
namespace L4
open PySem PySem.Spec PySem.Calls PyProof.Rows PySem.W L2 L3
noncomputable abbrev cS(s:Str):FE:=cC (.str s)
noncomputable abbrev a1(e:FE):FA:=nY e oq
section
variable{X:Cx}{G:Bg}{C:Addr}{x:Str}{p pos:Pos}{e:Expr}{c:Nat}
structure Mk0(K:aw)(C:Addr):Prop where
 makes:makesIn K C=true
 init:findIn K (.ref C) "__init__" = some (some (.builtin "object.__init__"))
 kp:keepIn K (.ref C)=true
theorem Lp(M:Mk0 X.K C)(hg:Gl X x)(hm:X.mg x=some (.ref C))(hdb:(x==("__debug__" : Str))=false):PE X (.Call (.Name x p) [] [] pos) (λσ H Q=>∀y dx,H y=none->H dx=none->dx≠y->Q (.ref y) (upd (upd H dx (.own y)) y (.ins C dx []))):=by
 intro pins s σ H Q I h;refine dD (zg I hg hm ?_ hdb);refine jM I.kIn M.kp ?_;have hq:=h (s.heap.objs.size+1) s.heap.objs.size (I.hok.fresh (gf _)) (I.hok.fresh (aG _)) (aX (dE _));have I2:=Inv.made (C:=C) I;have Y:=km (M:=model X.prog X.w) I.kIn M.makes;refine ir (KA I.kIn M.makes M.init (λself=>Looks.of_pure (oi_bind self)) ?_);have e2:((s.heap.push emptyDict).push (instObj C s.heap.objs.size)).get? (s.heap.objs.size+1)=some (instObj C s.heap.objs.size):=by rw[<-dh s.heap emptyDict];exact bu _ rfl
 have t2:Looks (model X.prog X.w) ((s.heap.push emptyDict).push (instObj C s.heap.objs.size)) (isInstance (.ref (s.heap.objs.size+1)) (.type "object")) true:=
  ((Looks.ld e2).andThen .now:Looks (model X.prog X.w) _ (typeOf (.ref (s.heap.objs.size+1))) (.ref C)).andThen (Y.top.keeps λb o e=>aK _ (aK _ e))
 refine lG oi_plain entry_oi (check_slot oi_kind oi_split t2 (oi_args _) ?_);rw[oi_run];exact aD (And.intro rfl ⟨V.ref (s.heap.objs.size+1),_,I2,rfl,hq⟩)
def QD(c:Nat):FE:=λρ=>some (.obj c [] [],ρ)
theorem Lq(h:PE X e (λσ H Q=>∀y dx,H y=none->H dx=none->dx≠y->Q (.ref y) (upd (upd H dx (.own y)) y (.ins (G.ca c) dx [])))):PE X e (tF G (QD c)):=PE.weak h λσ H Q hh=>by
 obtain⟨F,ρ,H0,d,ρ',R,e,k⟩:=hh;cases e;intro x dx hx hdx ne;have hx2:(upd H dx (.own x)) x=none:=by rw[oo (λz=>ne z.symm)];exact hx
 have sx:oB H (upd (upd H dx (.own x)) x (.ins (G.ca c) dx [])):=(oF hdx _).trans (oF hx2 _);have R2:=R.grow sx (λ_ _ e=>e) (R.sub.trans sx) (λb o e=>.inl e);have h0:=R.h0none hx;have R3:=R2.freeze om h0 (R.bNone hx) (λi t ei to z=>R.apart hx i t ei to z);refine k _ _ _ (oF h0 _) R3 ?_;unfold Rep;exact⟨x,dx,[],rfl,om,rfl,oZ⟩
end
section
variable{X:Cx}{B:Bz}{k:Nat}{p pos:Pos}{x:Str}{c:Nat}
class K0f(B:Bz)(x:Str)(c:Nat):Prop where p:Mk0 B.G.K (B.G.ca c)/\B.mg x=some (.ref (B.G.ca c))
theorem Vx [C:Cz X B k][Q:K0f B x c](hg:Gz X x)(hd:(x==("__debug__" : Str))=false):ZE X B (.Call (.Name x p) [] [] pos) (QD c):=⟨Lq (Lp (by rw[C.K];exact Q.p.1) hg (by rw[C.mg];exact Q.p.2) hd)⟩
end
end L4
namespace L4
open PySem PySem.Spec PyProof.Rows L2 L3
def spJ(G:Bg)(j:Nat)(g:az->az->Option (D×az)):Sp:=λvs H Q E=>∃(a:Addr) (us:bA),vs=us.take j++.ref a::us.drop j/\spM G g (.ref a::us) H Q E
def stJ(j n:Nat)(es ds:az):aZ:=(ds.take j).map Sl.im++.pm es::((ds.drop j).map Sl.im++dJ (n - ds.length - 1) .un)
def fnJ(j np n:Nat)(f:FS):az->az->Option (D×az):=λes ds=>if ds.length=np then match f (stJ j n es ds)with
 |some (.rt d ρ)=>match GT j ρ with
  |some es'=>some (d,es')
  |none=>none
 |_=>none
 else none
theorem G4{n:Nat}(h:fnJ j np n f es ds=some (d,es')):ds.length=np/\∃ρ,f (stJ j n es ds)=some (.rt d ρ)/\ρ[j]?=some (.pm es'):=by
 unfold fnJ at h;split at h
 ·rename_i hl;refine⟨hl,?_⟩;split at h
  ·rename_i x ρ e;cases e2:GT j ρ with
   |none=>simp only[e2]at h;cases h
   |some q=>simp only[e2]at h;cases h;exact⟨ρ,e,Ao e2⟩
  ·cases h
 ·cases h
theorem Ft{n:Nat}{ds:az}{t:Sl}(hj:j<=ds.length)(h:(stJ j n es ds)[i]?=some t):(i=j/\t=.pm es)\/t=.un\/∃(m:Nat) (d:D),ds[m]?=some d/\t=.im d/\∀(us:bA) (v w:V),us.length=ds.length->us[m]?=some v->(us.take j++w::us.drop j)[i]?=some v:=by
 unfold stJ at h;have lt:(ds.take j).length=j:=by rw[br];omega
 by_cases hi:i<j
 ·rw[cF (by rw[ah,lt];exact hi),bj,l5,ai hi,aL (by omega)]at h;cases h;refine .inr (.inr ⟨i,_,aL (by omega),rfl,λus v w hl hv=>?_⟩);rw[cF (by rw[br];omega),l5,ai hi];exact hv
 ·rw[cz (by rw[ah,lt];omega),ah,lt]at h;cases q:i - j with
  |zero=>rw[q]at h;cases h;exact .inl ⟨by omega,rfl⟩
  |succ m=>
   rw[q,gV]at h;by_cases hm:m<(ds.drop j).length
   ·have hm':j+m<ds.length:=by rw[cc]at hm;omega
    rw[cF (by rw[ah];exact hm),bj,cW,aL hm']at h;cases h;refine .inr (.inr ⟨j+m,_,aL hm',rfl,λus v w hl hv=>?_⟩);rw[cz (by rw[br];omega),br,eE (by omega),q,gV,cW];exact hv
   ·rw[cz (by rw[ah];omega),eV]at h;split at h
    ·cases h;exact .inr (.inl rfl)
    ·cases h
section
variable{X:Cx}{G:Bg}
theorem QE{N:aB}{ds:az}(hj:j<=ds.length)(ha:H a=some (.lst xs))(h0:H0 a=none)(s:oB H0 H)(r1:oh G H0 es xs)(r:oh G H0 ds us)(hN:us.length+1<=N.length):oI G ⟨H0,H,[a]⟩ (L2.start N (us.take j++.ref a::us.drop j)) (stJ j N.length es ds) H0 H:={
  sub:=s
  g0:=oB.refl _
  keep:=λb o e _=>e
  fr:=λb o e=>.inl e
  am:=λb hb=>by rw[aO]at hb;subst hb;exact⟨_,ha⟩
  len:=by unfold L2.start stJ;simp only[aA,ah,cb,aE,cN,br,cc];have:=oi r;omega
  sl:=λi t e=>by
   have hl:=oi r;rcases Ft hj e with ⟨rfl,rfl⟩|rfl|⟨m,d,e1,rfl,e4⟩
   ·exact⟨a,xs,rH (by rw[cz (by rw[br];omega),br,eE (by omega),il];rfl),ha,h0,aO.mpr rfl,r1⟩
   ·trivial
   ·obtain⟨v,e2,e3⟩:=qj r e1;exact⟨v,rH (e4 us v _ hl.symm e2),e3⟩
  ap:=λi k t u b hij ei ej ht hu=>by
   rcases Ft hj ei with ⟨rfl,rfl⟩|rfl|⟨_,_,_,rfl,_⟩
   ·rcases Ft hj ej with ⟨rfl,rfl⟩|rfl|⟨_,_,_,rfl,_⟩
    ·exact ao rfl hij
    ·cases hu
    ·cases hu
   ·cases ht
   ·cases ht }
theorem QF{N:aB}(hj:j<=np)(hN:np+1<=N.length)(h:spJ G j (fnJ j np N.length f) vs H Q E):tFS G f { nx:=λ_ H'=>Q .non H',rt:=Q } (L2.start N vs) H:=by obtain⟨a,us,rfl,b,us',xs,H0,es,ds,d,es',e0,ha,h0,s,r1,r,e,k⟩:=h;cases e0;obtain⟨hl,ρ,e1,e2⟩:=G4 e;have R:=QE (N:=N) (j:=j) (by omega) ha h0 s r1 r (by rw[<-oi r,hl];exact hN);refine⟨_,_,H0,_,R,e1,λv σ' H0' H' s' R' rv=>?_,λ_=>rfl⟩;obtain⟨a',ys,q1,q2,q3,q4,q5⟩:=R'.sl j _ e2;have ea:a'=a:=aO.mp q4;subst ea;exact k _ ys _ _ s' R'.sub (λb o e n=>R'.keep b o e (λz=>n (aO.mp z))) R'.fr q3 q2 q5 rv
def Lr(G:Bg)(j i:Nat)(a:FA):TA:=λσ H Q=>∃F ρ H0 ds ρ' es,oI G F σ ρ H0 H/\a ρ=some (ds,ρ')/\pZ ρ' i=some es/\∀xs b H0' H',oB H0 H0'->oI G F σ ρ' H0' H'->oh G H0' ds xs->σ[i]?=some (some (.ref b))->Q (xs.take j++.ref b::xs.drop j) H'
theorem NP(hv:PE X e (vp i))(hc:PE X e' (tF G (cC d)))(hs:starEach [e,e'] X.env=(false,eval e X.env)::starEach [e'] X.env)(hs':starEach [e'] X.env=[(false,eval e' X.env)]):PA X [e,e'] (Lr G 0 i (nY (cC d) oq)):=PA.weak (qg hv (qg hc uA hs') hs) λσ H Q hh=>by obtain⟨F,ρ,H0,ds,ρ',es,R,e,el,k⟩:=hh;cases e;obtain⟨b,xs,s1,_⟩:=qw R el;exact⟨.ref b,s1,F,ρ,H0,d,ρ,R,rfl,λv H1 H1' s R' rv=>k [v] b _ _ s R' (oW rv oZ) s1⟩
theorem Ls{g:FA}(ha:PE X e (tF G f))(hr:PA X es (Lr G j i g))(hs:starEach (e::es) X.env=(false,eval e X.env)::starEach es X.env:=by rfl):PA X (e::es) (Lr G (j+1) i (nY f g)):=PA.weak (qg ha hr hs) λσ H Q hh=>by obtain⟨F,ρ,H0,d,ρ',es,R,e,el,k⟩:=hh;obtain⟨x,r,ρ1,e1,e2,rfl⟩:=we e;exact⟨F,ρ,H0,x,ρ1,R,e1,λv H1 H1' s R' rv=>⟨F,ρ1,H1,r,ρ',es,R',e2,el,λxs b H2 H2' s2 R2 rs sb=>k (v::xs) _ _ _ (s.trans s2) R2 (oW (Rep.mono s2 _ _ rv) rs) sb⟩⟩
theorem NQ{g:az->az->Option (D×az)}(hh:tF G (pJ g i a) σ H Q):xp (spJ G j g) [] E (Lr G j i a) σ H Q:=by obtain⟨F,ρ,H0,ds,ρ',es,R,e,el,k⟩:=NO (E:=E) hh;refine⟨F,ρ,H0,ds,ρ',es,R,e,el,λxs b H1 H1' s R' rs sb=>?_⟩;obtain⟨a',us,e1,q⟩:=k xs b H1 H1' s R' rs sb;rw[bt]at e1;obtain⟨rfl,e2⟩:=List.append_inj' e1 rfl;cases e2;exact⟨b,xs,bt _,q⟩
theorem QG{k:Nat}{g:az->az->Option (D×az)}(D:vO X.prog X.w X.K X.mg X.base k x ps (spJ G j g))(hr:qa k X.A)(ha:PA X (e::es) (Lr G j i a))(hg:Gl X x)(hdb:(x==("__debug__" : Str))=false)(he:starEach (e::es) X.env=(false,eval e X.env)::starEach es X.env)(hpl:(backTo pos (starEach es X.env)).any (·.1)=false):
  PE X (.Call (.Name x p) (e::es) [] pos) (tF G (pJ g i a)):=by
 obtain⟨f,fd,h1,h2,h3,h4⟩:=D;exact PE.weak (zh (p:=p) (pos:=pos) h4 hr hg h1 h2 h3 .nil AL ha hdb he hpl) λσ H Q hh=>NQ hh
end
section
variable{P:aS}{w:aI}{K:aw}{mg:Str->Option ae}{base:Heap}{x qual:Str}{st:Stmt}{f T:Addr}{fd:bW}{N ps:aB}{k:Nat}{G:Bg}
theorem Xi{n:Nat}{g:az->az->Option (D×az)}(hg:g=fnJ j np n b)(hj:j<=np)(hp:ps.length=np+1)(hN:N.length=n)(F:Fun K x qual st f fd)(S:p5 N ps (oJ st))(body:∀(cdv:ae) (A:aQ) (outer:List Env) (s:af) (H:Hp) (E:XK),qa k (A.deeper (envOfC qual (oJ st) s.heap.objs.size f cdv))->PSs (yG P w K mg base N qual st f cdv A outer s H E) (pf st) (tFS G b)):
  su P w K mg base CX0 (k+1) f fd ps (spJ G j g):=by
 subst hg hN;refine F.ok S (λvs H Q E h=>?_) λcdv A outer s H vs Q E hr h=>⟨_,body cdv A outer s H E hr,QF hj (by have:=aR bT S.pre;rw[br]at this;omega) h⟩;obtain⟨a,us,rfl,h⟩:=h;have:=MF (λ_ _ d h=>(G4 (d:=d.1) (es':=d.2) h).1) _ _ _ _ h;simp only[aA,aE,br,cc]at this ⊢;omega
end
section
variable{X:Cx}{B:Bz}{k j i j' np n:Nat}{x y:Str}{e e':Expr}{es:List Expr}{a:FA}{f:FE}{d:D}{p pos:Pos}{g:az->az->Option (D×az)}
structure ZJ(X:Cx)(B:Bz)(e:List Expr)(j i:Nat)(f:FA):Prop where p:PA X e (Lr B.G j i f)
theorem Vy(h:sees X i x=true)(hc:ZE X B e' (cC d))(hs:Sz X (.Name x p) [e'])(hs':S1 X e'):ZJ X B [.Name x p,e'] 0 i (nY (cC d) oq):=⟨NP (pvI h) hc.p hs hs'⟩
theorem Vz(ha:ZE X B e f)(hr:ZJ X B es j i a)(hs:Sz X e es):ZJ X B (e::es) (j+1) i (nY f a):=⟨Ls ha.p hr.p hs⟩
class Dj(B:Bz)(j':outParam Nat)(x:Str)(j:outParam Nat)(g:az->az->Option (D×az)):Prop where p:Df B j' x (spJ B.G j g)
theorem VA [C:Cz X B k][Q:Dj B j' x j g](hg:Gz X x)(hd:Dz x)(hs:Sz X e es)(hl:Lz X pos es)(ha:ZJ X B (e::es) j i a)(hj:c9 j' k=true):ZE X B (.Call (.Name x p) (e::es) [] pos) (pJ g i a):=by obtain⟨ps,q⟩:=dz hg hd (X:=X) (Q:=Q.p);exact⟨QG q (C.r.mono (c6.mp hj)) ha.p hg hd hs hl⟩
end
section
variable{B:Bz}[Y:Yb B]{x:Str}{st s0:Stmt}{l:List Stmt}{j np n k:Nat}{b:FS}
theorem gJ5{g:az->az->Option (D×az)}(hg:g=fnJ j np n b)(hj:j<=np)(q:GD B.G.K x st)(hl:pf st=s0::l)(body:Bdz B (nmO st) x st (s0::l) k b)(S:okO (nmO st) (psO st) st (np+1) n=true:=by kernel_rfl)(bd:Bds x x st (psO st):=by (repeat intro _);rfl):Df B (k+1) x (spJ B.G j g):=
 ⟨_,gD Y.y q bd λf fd F=>Xi hg hj (okk S).2.1 (okk S).2.2 F (okk S).1 (body.ok hl f)⟩
end
section
variable{X:Cx}{B:Bz}{k j i m:Nat}{x:Str}{e e':Expr}{es:List Expr}{d:D}{p pos:Pos}{g:D->D->Option D}
theorem Xj:ZB X B l MW:=⟨λpins s σ H D I h=>by
 obtain⟨F,ρ,H0,o,R,e,_⟩:=h;cases e⟩
theorem Xk(h:c2 g (cV m) (cC d) ρ=some (z,ρ')):ρ'=ρ:=by
 unfold c2 cV at h;split at h
 ·rename_i e;split at e
  ·cases e;unfold cC at h;simp only at h;split at h
   ·cases h;rfl
   ·cases h
  ·cases e
 ·cases h
theorem VB(h:sees X i x=true)(hc:ZE X B e' (c2 g (cV m) (cC d)))(hs:Sz X (.Name x p) [e'])(hs':S1 X e'):ZJ X B [.Name x p,e'] 0 i (nY (c2 g (cV m) (cC d)) oq):=⟨PA.weak (qg (pvI h) (qg hc.p uA hs') hs) λσ H Q hh=>by
 obtain⟨F,ρ,H0,ds,ρ',es,R,e,el,k⟩:=hh;obtain⟨z,r,ρ1,e1,e2,rfl⟩:=we e;cases e2;have q:=Xk e1;subst q;obtain⟨b,xs,s1,_⟩:=qw R el;exact⟨.ref b,s1,F,_,H0,z,_,R,e1,λv H1 H1' s R' rv=>k [v] b _ _ s R' (oW rv oZ) s1⟩⟩
end
theorem wm.mono{k:Nat}(M:wm G P w mg base j m c h)(hk:c9 j k=true):wm G P w mg base k m c h:=by obtain⟨f,fd,ps,a,b,c,F⟩:=M;exact⟨f,fd,ps,a,b,c,F.mono (c6.mp hk)⟩
mutual
def CO:D->Bool
 |.non=>true
 |.bl _=>true
 |.int _=>true
 |.str _=>true
 |.tup ds=>CP ds
 |.lst ds=>CP ds
 |_=>false
def CP:az->Bool
 |[]=>true
 |d::ds=>CO d&&CP ds
end
mutual
theorem Rep.but(e:∀b o,H b=some o->(∀u kvs,o≠HO.frz u (.dK kvs))->H1 b=some o):∀(d:D) (v:V),CO d=true->Rep G H d v->Rep G H1 d v
 |.non,v,_,h=>by unfold Rep at h ⊢;exact h
 |.bl b,v,_,h=>by unfold Rep at h ⊢;exact h
 |.int i,v,_,h=>by unfold Rep at h ⊢;exact h
 |.str x,v,_,h=>by unfold Rep at h ⊢;exact h
 |.tup ds,v,n,h=>by
  unfold Rep at h ⊢;unfold CO at n;obtain⟨a,xs,rfl,h1,h2⟩:=h;refine⟨a,xs,rfl,?_,oh.but e ds xs n h2⟩;rcases h1 with (h|⟨o,h⟩)|h
  ·exact .inl (.inl (e _ _ h λ_ _ z=>nomatch z))
  ·exact .inl (.inr ⟨o,e _ _ h λ_ _ z=>nomatch z⟩)
  ·exact .inr h
 |.lst ds,v,n,h=>by unfold Rep at h ⊢;unfold CO at n;obtain⟨a,xs,rfl,h1,h2⟩:=h;exact⟨a,xs,rfl,e _ _ h1 (λ_ _ z=>nomatch z),oh.but e ds xs n h2⟩
 |.fzl ds,v,n,h=>by unfold CO at n;cases n
 |.obj c ns ds,v,n,h=>by unfold CO at n;cases n
 |.dic ks ds,v,n,h=>by unfold CO at n;cases n
theorem oh.but(e:∀b o,H b=some o->(∀u kvs,o≠HO.frz u (.dK kvs))->H1 b=some o):∀(ds:az) (xs:bA),CP ds=true->oh G H ds xs->oh G H1 ds xs
 |[],xs,_,h=>by unfold oh at h ⊢;exact h
 |d::ds,xs,n,h=>by unfold oh at h ⊢;unfold CP at n;rw[bo]at n;obtain⟨v,r,rfl,h1,h2⟩:=h;exact⟨v,r,rfl,Rep.but e d v n.1 h1,oh.but e ds r n.2 h2⟩
end
end L4
namespace K29x
open PySem L2 L3 L4
abbrev D:=L4.D
def top(i:Nat):Stmt:=PySem.Challenge.pw_tellworld_k29_tests_and_deeds_told.main.body.getD i (.Pass ⟨0,0,0,0⟩)
def tf:Nat->Bool:=λc=>c==14
def G5:Nat->Bool:=λc=>c==2
def Av:Nat->Bool:=λc=>c==9
def xD:Nat->Bool:=λc=>c==2
def yI:Nat->Bool:=λc=>c==14
def w9:Nat->Bool:=λc=>c==14
def xE:Nat->Bool:=λc=>c==14
def pB:Nat->Bool:=λc=>c==0||c==7
def uE:Nat->Bool:=λc=>c==1
def u5:Nat->Bool:=λc=>c==14
def oX:Nat->Bool:=λc=>c==0||c==1||c==2
def Fu:Nat->Bool:=λc=>c==10
def Aw:Nat->Bool:=λc=>c==10
def y7:Nat->Bool:=λc=>c==2
def Ax:Nat->Bool:=λc=>c==3||c==11
def tq:Nat->Bool:=λc=>c==14
def vQ:Nat->Bool:=λc=>c==14
def qd:Nat->Bool:=λc=>c==0||c==1
def vR:Nat->Bool:=λc=>c==3||c==4||c==5||c==6||c==7||c==11||c==12
def uF:Nat->Bool:=λc=>c==14
def yq:Nat->Bool:=λc=>c==6||c==12
def G6:Nat->Bool:=λc=>c==13
def u6:Nat->Bool:=λc=>c==14
def CQ:Nat->Bool:=λc=>c==8
def qN:Nat->Bool:=λc=>c==0
def tI:Nat->Bool:=λc=>c==14
abbrev VC:Ty->Option Bool:=ua 16 3
abbrev IJ:Ty->Option Bool:=ua 16 10
abbrev NR:Ty->Option Bool:=ua 16 4
abbrev IK:Ty->Option Bool:=ua 16 7
abbrev NS:Ty->Option Bool:=ua 16 1
abbrev CS:Ty->Option Bool:=ua 16 6
abbrev NT:Ty->Option Bool:=ua 16 11
abbrev NU:Ty->Option Bool:=ua 16 9
abbrev RE:Ty->Option Bool:=ua 16 12
abbrev IM:Ty->Option Bool:=ua 16 5
abbrev JZ:Ty->Option Bool:=ua 16 0
abbrev IP:Ty->Option Bool:=ua 16 8
def xF:L4.D:=(D.int 8)
def xG:L4.D:=(D.int 12)
def CT:L4.D:=(D.tup [(D.str "it"),(D.str "other"),(D.str "here"),(D.str "the"),(D.str "a"),(D.str "undo"),(D.str "restart")])
def CU:L4.D:=(D.tup [(D.str "the"),(D.str "a")])
def Fv:L4.D:=(D.tup [(D.str "room"),(D.str "plain"),(D.str "fixed"),(D.str "box"),(D.str "lamp"),(D.str "you")])
def u7:L4.D:=(D.tup [(D.str "room"),(D.str "box"),(D.str "you")])
def u9:L4.D:=(D.tup [(D.str "box"),(D.str "lamp")])
def yJ:L4.D:=(D.tup [(D.str "room"),(D.str "you")])
def zD:L4.D:=(D.int 5)
def yK:L4.D:=(D.int 7)
def ud:L4.D:=(D.int 4)
def xH:L4.D:=(D.int 3)
def AZ:L4.D:=(D.int 10)
def zE:L4.D:=(D.int 6)
def wz:L4.D:=(D.int 4)
def uG:L4.D:=(D.tup [(D.str "the"),(D.str "a"),(D.str "undo"),(D.str "restart")])
def zF:L4.D:=(D.int 20)
abbrev aa:=(cV 0)
abbrev ag:=(cV 1)
abbrev aJ:=(cC (.int 1))
def uH:FS:=(oj (p8 (c1 (pQ (qU "str")) aa) (p8 (rW uT uT aJ (c1 p9 aa) ag) (c1 uU (cL (oT 1 [] (iS aa) (gN 0) pM (rW MK MK (cS "a") aa (cS "z"))))))))
def rZ:=fnD 2 2 uH
def Ep:FS:=(oj (p8 (oa rZ (nY aa (a1 (cC xF)))) (c2 (dIn true) aa (cC CT))))
def yt:=fnD 1 1 Ep
def Er:FS:=(oj (p8 (oa rZ (nY aa (a1 (cC xG)))) (c2 (dIn true) aa (cC CU))))
def sd:=fnD 1 1 Er
def A0:FS:=(oj (p8 (c1 (pQ (qU "str")) aa) (c2 (dIn false) aa ag)))
def pK:=fnD 2 2 A0
def CV:FS:=(oj (p8 (c1 (pQ (qU "int")) aa) (BF (c1 (pQ (qU "bool")) aa))))
def y8:=fnD 1 1 CV
def xa:FS:=(oj (p8 (c1 (pQ (qU "list")) aa) (c2 uT (c1 p9 aa) ag)))
def qe:=fnD 2 2 xa
def CW:FS:=(oj (cIf (cT (c1 (pQ (qU "list")) aa)) (cL (xA aa)) aa))
def y9:=fnD 1 1 CW
abbrev ar:=(cV 2)
abbrev aq:=(cV 3)
abbrev av:=(cV 4)
def zG:FS:=(oe (pz 0 0 "name" ag)
 (oe (pz 0 0 "words" ar)
 (oe (pz 0 0 "kind" aq)
 (pz 0 0 "start" av))))
def zH:=fnI 0 4 5 zG
def A3:FS:=(oe (pz 1 0 "name" ag)
 (oe (pz 1 0 "start" ar)
 (pz 1 0 "most" aq)))
def A4:=fnI 1 3 4 A3
abbrev aY:=(cC D.non)
def xI:FS:=(oe (pz 2 0 "name" ag)
 (oe (pz 2 0 "others" (cIf (cT (c2 wj ar aY)) (pd oq) ar))
 (oe (pz 2 0 "form" aq)
 (pz 2 0 "joining" av))))
def rl:=fnI 2 4 5 xI
def Es:FS:=(oe (pz 3 0 "term" ag)
 (pz 3 0 "place" ar))
def vS:=fnI 3 2 3 Es
def CY:FS:=(pz 4 0 "term" ag)
def uI:=fnI 4 1 2 CY
def A5:FS:=(pz 5 0 "term" ag)
def xJ:=fnI 5 1 2 A5
def yL:FS:=(oe (pz 6 0 "term" ag)
 (pz 6 0 "value" ar))
def pN:=fnI 6 2 3 yL
def A6:FS:=(oe (pz 7 0 "term" ag)
 (pz 7 0 "kind" ar))
def qk:=fnI 7 2 3 A6
def A7:FS:=(pz 8 0 "word" ag)
def va:=fnI 8 1 2 A7
def CZ:FS:=(pz 9 0 "inner" ag)
def qq:=fnI 9 1 2 CZ
def A8:FS:=(oe (pz 10 0 "one" ag)
 (pz 10 0 "other" ar))
def xK:=fnI 10 2 3 A8
def A9:FS:=(oe (pz 11 0 "term" ag)
 (pz 11 0 "place" ar))
def ro:=fnI 11 2 3 A9
def Da:FS:=(oe (pz 12 0 "term" ag)
 (pz 12 0 "value" ar))
def r6:=fnI 12 2 3 Da
abbrev aP:=(cV 5)
abbrev dw:=(a1 ar)
abbrev eR:=(a1 aq)
def Ba:FS:=(oe (pz 13 0 "verb" ag)
 (oe (pz 13 0 "tests" (oa y9 dw))
 (oe (pz 13 0 "deeds" (oa y9 eR))
 (oe (pz 13 0 "text" av)
 (pz 13 0 "refuses" aP)))))
def xM:=fnI 13 5 6 Ba
def vT:FS:=(oj (c2 (dIn false) (c1 (oN pB "kind") aa) (cC u7)))
def vU:=fnD 1 1 vT
def pR:Nat->Option (List D->Option D):=λc=>match c with
 |0=>some vU
 |_=>none
def vV:FS:=(oj (c2 (dIn false) (c1 (oN pB "kind") aa) (cC u9)))
def vW:=fnD 1 1 vV
def qB:Nat->Option (List D->Option D):=λc=>match c with
 |0=>some vW
 |_=>none
def uJ:FS:=(oj (c2 (dIn true) (c1 (oN pB "kind") aa) (cC yJ)))
def uK:=fnD 1 1 uJ
def qC:Nat->Option (List D->Option D):=λc=>match c with
 |0=>some uK
 |_=>none
def xb:FS:=(sIf (qu (cT aa)) MW oA)
def oE:=fnD 2 2 xb
def Dc:FS:=(oj (c1 p9 (cL (oT 1 [1] (iL aa) (gN 0) (cT (c2 (dEq false) (c1 (oN pB "kind") aa) ag)) aa))))
def wA:=fnD 2 2 Dc
def zI:FS:=(qK (oT 1 [] (iL aa) (gN 0) (cT (o6 qC "is_plainly" aa oq)) aa))
def rL:=fnN 1 1 zI
abbrev aU:=(cC (.int 0))
abbrev bM:=(cC (.bl false))
def Ay:FS:=(oe (sIf (rG (qu (cT (c1 (pQ NS) aa))) (rG (qu (cT (oa y8 (a1 (c1 (oN qd "start") aa))))) (qu (cT (oa y8 (a1 (c1 (oN uE "most") aa))))))) (oj bM) oA)
 (oj (p8 (rW uT uT aJ (c1 (oN uE "most") aa) (cC xH)) (rW uT uT aU (c1 (oN qd "start") aa) (c1 (oN uE "most") aa)))))
def AA:=fnD 1 1 Ay
abbrev cU:=(cS "room")
abbrev dt:=(cS "you")
abbrev bw:=(a1 aa)
def uL:FS:=(oe (oP 1 (p8 (c1 (pQ (qU "list")) aa) (c1 uU (cL (oT 1 [] (iL aa) (gN 0) pM (c1 (pQ JZ) aa))))))
 (oe (o9 (oa oE (nY ag (a1 (cS "things are a list of things")))))
 (oe (o9 (oa oE (nY (c1 uU (cL (oT 1 [] (iL aa) (gN 0) pM (oa pK (nY (c1 (oN pB "kind") aa) (a1 (cC Fv))))))) (a1 (cS "a thing is of no kind")))))
 (oe (o9 (oa oE (nY (rW uT uT aJ (oa wA (nY aa (a1 cU))) (cC zD)) (a1 (cS "a world has 1 to 5 rooms")))))
 (oe (o9 (oa oE (nY (c2 (dEq false) (oa wA (nY aa (a1 dt))) aJ) (a1 (cS "a world has just one you")))))
 (o9 (oa oE (nY (c2 uT (c1 p9 (cL (pe rL bw))) (cC yK)) (a1 (cS "a world has at most 7 things beside rooms and you"))))))))))
def uM:=fnD 1 2 uL
def vt:FS:=(oe (oP 1 (p8 (oa qe (nY aa (a1 (cC ud)))) (c1 uU (cL (oT 1 [] (iL aa) (gN 0) pM (oa AA bw))))))
 (o9 (oa oE (nY ag (a1 (cS "marks are a list of at most 4 marks, each from 0 to at most 3"))))))
def vv:=fnD 1 2 vt
def zJ:FS:=(oj (c2 (dEq false) (c1 Fg aa) (c1 p9 aa)))
def pV:=fnD 1 1 zJ
def vz:FS:=(oe (oP 2 (cL (qz (cL (oT 1 [] (iL aa) (gN 0) pM (c1 (oN oX "name") aa))) (cL (oT 1 [] (iL ag) (gN 0) pM (c1 (oN oX "name") aa))))))
 (oe (o9 (oa oE (nY (c1 uU (cL (oT 1 [] (iL ar) (gN 0) pM (oa yt bw)))) (a1 (cS "a name is no name")))))
 (o9 (oa oE (nY (oa pV dw) (a1 (cS "two things or marks have one name")))))))
def vA:=fnD 2 3 vz
def zK:FS:=(qK (qz (cL (oT 1 [] (iL aa) (gN 0) (cT (o6 qB "has_mark" aa oq)) (c1 (oN oX "name") aa))) (cL (oT 1 [] (iL ag) (gN 0) pM (c1 (oN oX "name") aa)))))
def ue:=fnN 2 2 zK
def za:FS:=(oe (sIf (cT (c2 (dEq false) (c1 (oN pB "kind") ag) cU)) (oj (c2 wj (c1 (oN qd "start") ag) aY)) oA)
 (oe (sIf (cT (c2 (dEq false) (c1 (oN pB "kind") ag) dt)) (oj (oa pK (nY (c1 (oN qd "start") ag) (a1 (cL (oT 1 [] (iL aa) (gN 0) (cT (c2 (dEq false) (c1 (oN pB "kind") aa) cU)) (c1 (oN oX "name") aa))))))) oA)
 (oj (oa pK (nY (c1 (oN qd "start") ag) (a1 (cL (oT 1 [] (iL aa) (gN 0) (cT (o6 pR "can_hold" aa oq)) (c1 (oN oX "name") aa)))))))))
def zb:=fnD 2 2 za
abbrev cE:=(cC (.bl true))
def xc:FS:=(oe (oP 2 (c2 qt aa ag))
 (oe (sS (iR1 (c1 p9 aa)) (gN 3) (oe (sIf (cT (c2 wj ar aY)) (oj cE) oA)
 (oP 2 (c2 qt aa ar))))
 (oj (c2 wj ar aY))))
def tW:=fnD 2 4 xc
abbrev iY:=(nY ag bw)
def uN:FS:=(oe (o9 (oa oE (nY (c1 uU (cL (oT 1 [0] (iL aa) (gN 0) pM (oa zb iY)))) (a1 (cS "a start is none")))))
 (oe (zu 1)
 (oe (sS (iL aa) (gN 2) (pF 1 (c1 (oN oX "name") ar) (c1 (oN qd "start") ar)))
 (o9 (oa oE (nY (c1 uU (cL (oT 1 [1] (iD (cFz 1)) (gN 0) pM (oa tW iY)))) (a1 (cS "a thing starts within itself"))))))))
def uO:=fnD 1 3 uN
def xN:FS:=(oe (sIf (rG (qu (cT (c1 (pQ (qU "tuple")) aa))) (qu (cT (rW uT uT aJ (c1 p9 aa) (cC wz))))) (oj bM) oA)
 (oj (p8 (c1 uU (cL (oT 1 [] (iT aa) (gN 0) pM (oa sd bw)))) (oa pV bw))))
def xO:=fnD 1 1 xN
def Et:FS:=(oj (c1 uU (cL (oT 1 [0] (iT ag) (gN 0) pM (c2 (dIn false) aa ag)))))
def yu:=fnD 2 2 Et
def tX:FS:=(oe (oP 2 (cL (oT 1 [1] (iL aa) (gN 0) (cT (c2 (dEq true) (c1 (oN oX "name") aa) (c1 (oN oX "name") ag))) aa)))
 (oj (BF (c1 BH (cL (oT 1 [1] (iL ar) (gN 0) pM (oa yu (nY (c1 (oN qN "words") aa) (a1 (c1 (oN qN "words") ag))))))))))
def tY:=fnD 2 3 tX
def qD:FS:=(oe (o9 (oa oE (nY (c1 uU (cL (oT 1 [] (iL aa) (gN 0) pM (oa xO (a1 (c1 (oN qN "words") aa)))))) (a1 (cS "a thing has 1 to 4 unlike words, as a tuple")))))
 (oe (oP 1 (cL (pe rL bw)))
 (o9 (oa oE (nY (c1 uU (cL (oT 1 [1] (iL ag) (gN 0) pM (oa tY iY)))) (a1 (cS "one thing has all words of another")))))))
def qE:=fnD 1 2 qD
abbrev bP:=(nY aa (a1 ag))
def wB:FS:=(oe (oP 2 (p8 (c1 (pQ (qU "list")) aa) (p8 (c1 uU (cL (oT 1 [1] (iL aa) (gN 0) pM (oa pK bP)))) (oa pV bw))))
 (o9 (oa oE (nY ar (a1 (cS "dark is a list of rooms' names, each once"))))))
def wC:=fnD 2 3 wB
abbrev b0:=(cC (.int 2))
abbrev dS:=(cC (.int 4))
abbrev dU:=(cC (.int 3))
abbrev bY:=(a1 ag)
abbrev cJ:=(a1 (c2 dIx aa aJ))
def Dd:FS:=(oe (sIf (rG (qu (cT (c1 (pQ (qU "tuple")) aa))) (cT (c2 (dEq true) (c1 p9 aa) dS))) (oj bM) oA)
 (oe (oP 3 (cOr (c2 wj (c2 dIx aa dU) aY) (oa pK (nY (c2 dIx aa dU) dw))))
 (oj (p8 (oa pK (nY (c2 dIx aa aU) bY)) (p8 (oa sd cJ) (p8 (oa pK (nY (c2 dIx aa b0) bY)) aq))))))
def De:=fnD 3 4 Dd
abbrev eQ:=(nY ag (a1 ar))
abbrev dX:=(nY aa eQ)
def wD:FS:=(oe (oP 3 (p8 (oa qe (nY aa (a1 (cC AZ)))) (c1 uU (cL (oT 1 [1,2] (iL aa) (gN 0) pM (oa De dX))))))
 (oe (o9 (oa oE (nY aq (a1 (cS "ways are a list of at most 10 tuples (room, word, room, mark)")))))
 (o9 (oa oE (nY (oa pV (a1 (cL (oT 1 [] (iL aa) (gN 0) pM (pd (nY (c2 dIx aa aU) cJ)))))) (a1 (cS "two ways lead from one room by one word")))))))
def uf:=fnD 3 4 wD
def yM:FS:=(oe (oP 1 (p8 (oa qe (nY aa (a1 (cC zE)))) (c1 uU (cL (oT 1 [] (iL aa) (gN 0) pM Cv)))))
 (o9 (oa oE (nY ag (a1 (cS "verbs are a list of at most 6 verbs"))))))
def vB:=fnD 1 2 yM
def Bb:FS:=(oj (BF (c1 BH (cL (oT 1 [1] (iL aa) (gN 0) pM (c2 (dIn false) aa ag))))))
def tQ:=fnD 2 2 Bb
abbrev bD:=(cV 6)
abbrev bV:=(cV 7)
def r9:FS:=(oe (rS 3 (oG oq))
 (oe (sS (iL (cL (pe rL bw))) (gN 4) (o9 (AS 3 (c1 (oN qN "words") av))))
 (oe (rS 5 (oG oq))
 (oe (sS (iL ar) (gN 6) (o9 (AS 5 (AR (pd (a1 (c1 (oN oX "name") bD))) (c1 (oN y7 "others") bD)))))
 (oe (oP 7 (cL (qz (cL (oT 1 [] (iL ar) (gN 0) (cT (c2 uY (c1 (oN xD "joining") aa) aY)) (c1 (oN xD "joining") aa))) (cL (oT 1 [] (iL ag) (gN 0) pM (c2 dIx aa aJ))))))
 (oe (o9 (oa oE (nY (oa pV (a1 (cFz 5))) (a1 (cS "two verbs' names are alike")))))
 (oe (o9 (oa oE (nY (oa tQ (nY (cL (qz (cFz 5) bV)) (a1 (cFz 3)))) (a1 (cS "a verb's, way's or joining word is a word of a thing")))))
 (oe (o9 (oa oE (nY (oa tQ (nY (cL (qz (cFz 5) bV)) (a1 (cC uG)))) (a1 (cS "the, a, undo or restart is a word of the world")))))
 (o9 (oa oE (nY (oa tQ (nY bV (a1 (cFz 5)))) (a1 (cS "a way's or joining word is a verb's name")))))))))))))
def qH:=fnD 3 8 r9
abbrev dW:=(a1 av)
def vC:FS:=(oe (o9 (oa uM bw))
 (oe (o9 (oa vv bY))
 (oe (o9 (oa vA bP))
 (oe (o9 (oa uO bw))
 (oe (o9 (oa qE bw))
 (oe (oP 6 (cL (oT 1 [] (iL aa) (gN 0) (cT (c2 (dEq false) (c1 (oN pB "kind") aa) cU)) (c1 (oN oX "name") aa))))
 (oe (o9 (oa wC (nY ar (a1 bD))))
 (oe (o9 (oa uf (nY aq (nY bD (a1 (cL (pe ue bP)))))))
 (oe (o9 (oa vB dW))
 (o9 (oa qH (nY aa (nY aq (a1 (cL (qz av aP))))))))))))))))
def vE:=fnD 6 7 vC
def NV:FS:=(oj (o7 13 (λds=>xM (ds++[])) (nY aa (nY ag (nY ar (nY aq (a1 bM)))))))
def vF:=fnD 4 4 NV
def Eu:FS:=(oj (o7 13 (λds=>xM (ds++[])) (nY aa (nY ag (nY (cL (oG oq)) (nY ar (a1 cE)))))))
def pH:=fnD 3 3 Eu
abbrev bN:=(cS "it")
abbrev fI:=(cS "fixed")
abbrev gx:=(cS "take")
def zL:FS:=(qK (oG (nY (oa pH (nY gx (nY (cL (oG (a1 (o7 7 (λds=>qk (ds++[])) (nY bN (a1 fI)))))) (a1 (cS "That stays."))))) (nY (oa pH (nY gx (nY (cL (oG (a1 (o7 3 (λds=>vS (ds++[])) (nY bN bw))))) (a1 (cS "You have that."))))) (nY (oa vF (nY gx (nY (cL (oG oq)) (nY (cL (oG (a1 (o7 11 (λds=>ro (ds++[])) (nY bN bw))))) (a1 (cS "Taken.")))))) (nY (oa vF (nY (cS "drop") (nY (cL (oG (a1 (o7 4 (λds=>uI (ds++[])) (a1 bN))))) (nY (cL (oG (a1 (o7 11 (λds=>ro (ds++[])) (nY bN (a1 (cS "here"))))))) (a1 (cS "Dropped.")))))) (a1 (oa pH (nY (cS "drop") (nY (cL (oG oq)) (a1 (cS "You lack that."))))))))))))
def zM:=fnN 1 1 zL
abbrev eJ:=(cS "other")
abbrev de:=(cS "box")
abbrev du:=(cS "put")
abbrev gO:=(a1 de)
def Bc:FS:=(qK (oG (nY (oa pH (nY du (nY (cL (oG (a1 (o7 9 (λds=>qq (ds++[])) (a1 (o7 4 (λds=>uI (ds++[])) (a1 bN))))))) (a1 (cS "You lack that."))))) (nY (oa pH (nY du (nY (cL (oG (a1 (o7 9 (λds=>qq (ds++[])) (a1 (o7 7 (λds=>qk (ds++[])) (nY eJ gO))))))) (a1 (cS "It holds nothing."))))) (nY (oa pH (nY du (nY (cL (oG (a1 (o7 6 (λds=>pN (ds++[])) (nY eJ (a1 aU)))))) (a1 (cS "It is shut."))))) (a1 (oa vF (nY du (nY (cL (oG oq)) (nY (cL (oG (a1 (o7 11 (λds=>ro (ds++[])) (nY bN (a1 eJ)))))) (a1 (cS "Done."))))))))))))
def Bd:=fnN 0 0 Bc
abbrev iU:=(nY bN (a1 aJ))
abbrev iV:=(nY bN (a1 aU))
def Be:FS:=(qK (oG (nY (oa pH (nY (cS "open") (nY (cL (oG (a1 (o7 9 (λds=>qq (ds++[])) (a1 (o7 7 (λds=>qk (ds++[])) (nY bN gO))))))) (a1 (cS "It has no lid."))))) (nY (oa pH (nY (cS "open") (nY (cL (oG (a1 (o7 6 (λds=>pN (ds++[])) iU)))) (a1 (cS "It is open."))))) (nY (oa vF (nY (cS "open") (nY (cL (oG oq)) (nY (cL (oG (a1 (o7 12 (λds=>r6 (ds++[])) iU)))) (a1 (cS "Opened.")))))) (nY (oa pH (nY (cS "shut") (nY (cL (oG (a1 (o7 9 (λds=>qq (ds++[])) (a1 (o7 7 (λds=>qk (ds++[])) (nY bN gO))))))) (a1 (cS "It has no lid."))))) (nY (oa pH (nY (cS "shut") (nY (cL (oG (a1 (o7 6 (λds=>pN (ds++[])) iV)))) (a1 (cS "It is shut."))))) (a1 (oa vF (nY (cS "shut") (nY (cL (oG oq)) (nY (cL (oG (a1 (o7 12 (λds=>r6 (ds++[])) iV)))) (a1 (cS "Shut."))))))))))))))
def Bf:=fnN 0 0 Be
abbrev gv:=(cS "lamp")
abbrev gK:=(a1 gv)
def yN:FS:=(qK (oG (nY (oa pH (nY (cS "light") (nY (cL (oG (a1 (o7 9 (λds=>qq (ds++[])) (a1 (o7 7 (λds=>qk (ds++[])) (nY bN gK))))))) (a1 (cS "It burns not."))))) (nY (oa pH (nY (cS "light") (nY (cL (oG (a1 (o7 6 (λds=>pN (ds++[])) iU)))) (a1 (cS "It is lit."))))) (nY (oa vF (nY (cS "light") (nY (cL (oG oq)) (nY (cL (oG (a1 (o7 12 (λds=>r6 (ds++[])) iU)))) (a1 (cS "Lit.")))))) (nY (oa pH (nY (cS "douse") (nY (cL (oG (a1 (o7 9 (λds=>qq (ds++[])) (a1 (o7 7 (λds=>qk (ds++[])) (nY bN gK))))))) (a1 (cS "It burns not."))))) (nY (oa pH (nY (cS "douse") (nY (cL (oG (a1 (o7 6 (λds=>pN (ds++[])) iV)))) (a1 (cS "It is out."))))) (a1 (oa vF (nY (cS "douse") (nY (cL (oG oq)) (nY (cL (oG (a1 (o7 12 (λds=>r6 (ds++[])) iV)))) (a1 (cS "Doused."))))))))))))))
def yO:=fnN 0 0 yN
def Bh:FS:=(oe (rS 2 (oG (nY (o7 3 (λds=>vS (ds++[])) (nY aa (a1 (c2 dIx ag aU)))) (a1 (o7 8 (λds=>va (ds++[])) (a1 (c2 dIx ag aJ)))))))
 (oe (sIf (cT (c2 uY (c2 dIx ag dU) aY)) (o9 (uC 2 (o7 9 (λds=>qq (ds++[])) (a1 (o7 6 (λds=>pN (ds++[])) (nY (c2 dIx ag dU) (a1 aU))))))) oA)
 (qK (KY 2))))
def Bi:=fnN 2 3 Bh
abbrev kx:=(a1 (c2 dIx aa b0))
def Dg:FS:=(oe (oP 2 (cL (oT 1 [0] (iL ag) (gN 0) pM (oa vF (nY (cS "go") (nY (cL (pe Bi iY)) (nY (cL (oG (a1 (o7 11 (λds=>ro (ds++[])) (nY ag kx))))) (a1 (cS "You go.")))))))))
 (qK (qz ar (cL (oG (a1 (oa pH (nY (cS "go") (nY (cL (oG oq)) (a1 (cS "No way there.")))))))))))
def Dh:=fnN 2 3 Dg
def zN:FS:=(qK (oG (a1 (oa vF (nY (cS "wait") (nY (cL (oG oq)) (nY (cL (oG oq)) (a1 (cS "Time goes by.")))))))))
def zO:=fnN 0 0 zN
def xP:FS:=(qK (qz (cL (qz (cL (qz (cL (qz (cL (qz (cL (pe zM bw)) (cL (pe Bd oq)))) (cL (pe Bf oq)))) (cL (pe yO oq)))) (cL (pe Dh bP)))) (cL (pe zO oq))))
def rq:=fnN 2 2 xP
abbrev fG:=(cS "two")
abbrev gB:=(cS "way")
def xQ:FS:=(qK (qz (cL (oT 1 [] (iT (pd (nY gx (nY (cS "drop") (nY (cS "open") (nY (cS "shut") (nY (cS "light") (a1 (cS "douse"))))))))) (gN 0) pM (o7 2 (λds=>rl (ds++[D.non,(D.str "one"),D.non])) bw))) (cL (oG (nY (o7 2 (λds=>rl (ds++[])) (nY du (nY (pd oq) (nY fG (a1 (cS "in")))))) (nY (o7 2 (λds=>rl (ds++[D.non])) (nY (cS "go") (nY (pd oq) (a1 gB)))) (a1 (o7 2 (λds=>rl (ds++[D.non])) (nY (cS "wait") (nY (pd oq) (a1 (cS "alone"))))))))))))
def qF:=fnN 0 0 xQ
def AB:FS:=(oe (zu 1)
 (oe (sS (iL aa) (gN 2) (pF 1 (c1 (oN oX "name") ar) ar))
 (oj (cFz 1))))
def AC:=fnD 1 3 AB
def tZ:FS:=(oe (zu 2)
 (oe (sS (iL aa) (gN 3) (sIf (cT (o6 qB "has_mark" aq oq)) (pF 2 (c1 (oN oX "name") aq) aJ) oA))
 (oe (sS (iL ag) (gN 4) (pF 2 (c1 (oN oX "name") av) (c1 (oN uE "most") av)))
 (oj (cFz 2)))))
def qL:=fnD 2 5 tZ
def xf:FS:=(oe (zu 1)
 (oe (sS (iL aa) (gN 2) (sS (iT (AR (pd (a1 (c1 (oN oX "name") ar))) (c1 (oN y7 "others") ar))) (gN 3) (pF 1 aq ar)))
 (oj (cFz 1))))
def qM:=fnD 1 4 xf
def Ew:FS:=(Iw (oN G6 "verb"))
def vX:=fnD 1 3 Ew
def xg:FS:=(qK (oT 1 [1] (iL (c1 (oN w9 "kept_things") aa)) (gN 0) (cT (c2 (dEq false) (c1 (oN pB "kind") aa) ag)) (c1 (oN oX "name") aa)))
def t8:=fnD 2 2 xg
def qO:Nat->Option (List D->Option D):=λc=>match c with
 |14=>some t8
 |_=>none
def vc:FS:=(qK (qz (c1 (oN xE "kept_verbs") aa) (c1 (oN vQ "shared_verbs") aa)))
def sG:=fnD 1 1 vc
def rV:Nat->Option (List D->Option D):=λc=>match c with
 |14=>some sG
 |_=>none
def sH:FS:=(oe (o9 (oa vE (nY ag (nY ar (nY aq (nY av (nY aP (a1 (cL (pe qF oq))))))))))
 (oe (pz 14 0 "kept_things" (cL (xA ag)))
 (oe (pz 14 0 "kept_marks" (cL (xA ar)))
 (oe (pz 14 0 "kept_dark" (cL (xA aq)))
 (oe (pz 14 0 "kept_ways" (cL (xA av)))
 (oe (pz 14 0 "kept_verbs" (cL (xA aP)))
 (oe (pz 14 0 "shared_verbs" (cL (pe qF oq)))
 (oe (pz 14 0 "your_name" (u0 16 (c2 dIx (o6 qO "of_kind" aa (a1 dt)) aU)))
 (oe (pz 14 0 "things_by_name" (oa AC bY))
 (oe (pz 14 0 "mosts_by_name" (oa qL eQ))
 (oe (pz 14 0 "verbs_by_word" (u0 16 (oa qM (a1 (o6 rV "all_verbs" aa oq)))))
 (oe (oP 7 (u0 16 (p8 (oa qe (nY bD (a1 (cC zF)))) (c1 uU (cL (oT 1 [0] (iL bD) (gN 0) pM Cv))))))
 (oe (o9 (oa oE (nY bV (a1 (cS "rules are a list of at most 20 rules, each as it may be")))))
 (oe (pz 14 0 "kept_rules" (cL (xA bD)))
 (oe (pz 14 0 "shared_rules" (u0 16 (cL (pe rq (nY (c1 (oN tI "your_name") aa) dW)))))
 (oe (pz 14 0 "copied_rules" (cL (oT 1 [] (iL bD) (gN 0) pM Cv)))
 (pz 14 0 "rules_by_verb" (u0 16 (oa vX (a1 (cL (qz (c1 (oN tf "copied_rules") aa) (c1 (oN tq "shared_rules") aa)))))))))))))))))))))))
def sI:=fnI 14 6 8 sH
def Bj:FS:=(oj (c1 (oN tI "your_name") aa))
def Bk:=fnD 1 1 Bj
def vY:Nat->Option (List D->Option D):=λc=>match c with
 |14=>some Bk
 |_=>none
def vZ:FS:=(oj (c2 Cu (c1 (oN uF "things_by_name") aa) ag))
def rM:=fnD 2 2 vZ
def pG:Nat->Option (List D->Option D):=λc=>match c with
 |14=>some rM
 |_=>none
def xh:FS:=(oj (c2 (dIn false) ag (c1 (oN yI "kept_dark") aa)))
def xi:=fnD 2 2 xh
def tJ:Nat->Option (List D->Option D):=λc=>match c with
 |14=>some xi
 |_=>none
def xj:FS:=(oj (c2 Cu (c1 (oN u5 "mosts_by_name") aa) ag))
def qf:=fnD 2 2 xj
def qP:Nat->Option (List D->Option D):=λc=>match c with
 |14=>some qf
 |_=>none
def Di:FS:=(oe (sS (iT aa) (gN 2) (sIf (cT (c2 (dEq false) (c2 dIx ar aU) ag)) (oj (c2 dIx ar aJ)) oA))
 (oj aY))
def uP:=fnD 2 3 Di
abbrev eO:=(cS "at")
abbrev nP:=(a1 (pd (nY eO bY)))
def J0:FS:=(oj (oa uP (nY aa nP)))
def rN:=fnD 2 2 J0
abbrev nL:=(a1 (pd (nY (cS "mark") bY)))
def Ex:FS:=(oj (oa uP (nY aa nL)))
def se:=fnD 2 2 Ex
def Bl:FS:=(oj (AO (cL (oT 1 [1,2] (iT aa) (gN 0) pM (cIf (cT (c2 (dEq false) (c2 dIx aa aU) ag)) (pd eQ) aa)))))
def vd:=fnD 3 3 Bl
def zP:FS:=(oe (rS 3 (oG oq))
 (oe (oP 4 (oa rN eQ))
 (oe (whL (cT (c2 uY av aY)) (oe (o9 (uC 3 av))
 (oP 4 (oa rN (nY ag dW)))) 50)
 (qK (KY 3)))))
def qI:=fnN 3 5 zP
abbrev nz:=(a1 (o6 vY "you" aa oq))
def Ey:FS:=(oj (oa rN (nY ag nz)))
def sf:=fnD 2 2 Ey
def EA:FS:=(oj (p8 (c2 (dEq false) (c1 (oN pB "kind") (o6 pG "thing_of" aa dw)) de) (c2 (dEq false) (oa se eQ) aU)))
def sj:=fnD 3 3 EA
def EB:FS:=(oe (sS (iL (cL (pe qI dX))) (gN 4) (oe (sIf (cT (c2 (dEq false) av aq)) (oj cE) oA)
 (sIf (cT (oa sj (nY aa (nY ag dW)))) (oj bM) oA)))
 (oj bM))
def sq:=fnD 4 5 EB
def RF:FS:=(oj (c2 (dIn false) (o6 vY "you" aa oq) (cL (pe qI dX))))
def RG:=fnD 3 3 RF
abbrev iP:=(nY ag (nY ar (a1 aq)))
def Dk:FS:=(oj (p8 (c2 (dEq false) (oa se eQ) aJ) (oa sq (nY aa iP))))
def wF:=fnD 4 4 Dk
def G7:FS:=(oe (oP 2 (oa sf bP))
 (oe (sIf (qu (cT (o6 tJ "is_dark" aa dw))) (oj cE) oA)
 (oj (c1 BH (cL (oT 1 [0,1,2] (iL (o6 qO "of_kind" aa gK)) (gN 0) pM (oa wF (nY ag (nY ar (nY aa eR))))))))))
def zQ:=fnD 2 3 G7
def EC:FS:=(oe (oP 3 (o6 pG "thing_of" aa dw))
 (oe (sIf (rG (cT (c2 wj aq aY)) (qu (cT (o6 qC "is_plainly" aq oq)))) (oj bM) oA)
 (oe (sIf (cT (oa sq (nY aa (nY ag (nY ar nz))))) (oj cE) oA)
 (oj (p8 (oa sq (nY aa (nY ag (nY ar (a1 (oa sf bP)))))) (oa zQ bP))))))
def AD:=fnD 3 4 EC
def xk:FS:=(oj (c2 Cu (c1 (oN u6 "verbs_by_word") aa) ag))
def BI:=fnD 2 2 xk
def vG:Nat->Option (List D->Option D):=λc=>match c with
 |14=>some BI
 |_=>none
def Bm:FS:=(oe (oP 2 (cIf (cT (c2 wj ag aY)) aY (o6 vG "verb_of" aa (a1 (c2 dIx ag aU)))))
 (oj (p8 (c2 uY ar aY) (c2 (dEq false) (c1 (oN G5 "form") ar) gB))))
def xR:=fnD 2 3 Bm
abbrev eS:=(a1 aY)
def Bn:FS:=(oe (sIf (rG (cT (c2 wj ag aY)) (cT (oa xR bP))) (oj (pd (nY aY eS))) oA)
 (oj (pd (nY (c2 dIx ag aJ) (a1 (c2 dIx ag b0))))))
def rA:=fnD 2 2 Bn
def yw:FS:=(oe (sIf (cT (c2 (dEq false) aq (cS "here"))) (oj (oa sf bP)) oA)
 (oe (sIf (cT (c2 (dEq false) aq bN)) (oj (c2 dIx (oa rA (nY aa dw)) aU)) oA)
 (oe (sIf (cT (c2 (dEq false) aq eJ)) (oj (c2 dIx (oa rA (nY aa dw)) aJ)) oA)
 (oj aq))))
def p6:=fnD 4 4 yw
def zc:FS:=(oe (oP 2 (o6 pG "thing_of" aa bY))
 (oj (cIf (rG (cT (c2 wj ar aY)) (cT (c2 (dEq false) (c1 (oN pB "kind") ar) cU))) (cL (oG oq)) (cL (oG nP)))))
def wG:=fnD 2 3 zc
def zR:FS:=(oj (cIf (cT (c2 wj (o6 qP "most_of" aa bY) aY)) (cL (oG oq)) (cL (oG nL))))
def rO:=fnD 2 2 zR
def Dl:FS:=(oe (oP 3 (o6 pG "thing_of" aa dw))
 (oj (p8 (c2 (dEq true) (oa wG bP) (cL (oG oq))) (p8 (c2 uY aq aY) (p8 (o6 pR "can_hold" aq oq) (c2 (dEq true) ar ag))))))
def xS:=fnD 3 4 Dl
def Dm:FS:=(oj (p8 (c2 (dEq true) (oa rO bP) (cL (oG oq))) (c2 uT ar (o6 qP "most_of" aa bY))))
def tu:=fnD 3 3 Dm
abbrev nJ:=(a1 (c1 (oN vR "term") aa))
abbrev gG:=(nY ag (nY ar (nY aq nJ)))
abbrev nI:=(a1 (c1 (oN Ax "place") aa))
abbrev ky:=(nY ag (nY ar (nY aq nI)))
def zd:FS:=(oe (oP 4 (oa p6 gG))
 (oe (oP 5 (oa rN (nY ar dW)))
 (oj (p8 (c2 uY aP aY) (c2 (dEq false) aP (oa p6 ky))))))
def wH:=fnD 4 6 zd
abbrev kL:=(nY ar (a1 (oa p6 gG)))
def Bo:FS:=(oj (oa RG (nY ag kL)))
def Bp:=fnD 4 4 Bo
def zS:FS:=(oj (oa AD (nY ag kL)))
def zT:=fnD 4 4 zS
def uQ:FS:=(oe (oP 4 (oa se kL))
 (oj (p8 (c2 uY av aY) (c2 (dEq false) av (c1 (oN yq "value") aa)))))
def sJ:=fnD 4 5 uQ
def wI:FS:=(oe (oP 4 (o6 pG "thing_of" ag (a1 (oa p6 gG))))
 (oj (p8 (c2 uY av aY) (c2 (dEq false) (c1 (oN pB "kind") av) (c1 (oN pB "kind") aa)))))
def zU:=fnD 4 5 wI
def zV:FS:=(oj (p8 (oa xR (nY ag eR)) (c2 (dEq false) (c2 dIx aq aJ) (c1 (oN CQ "word") aa))))
def zW:=fnD 4 4 zV
def Bq:FS:=(oj (oa zQ eQ))
def Br:=fnD 4 4 Bq
def ve(g:Nat->Option (List D->Option D)):FS:=(oj (BF (o6 g "holds" (c1 (oN Av "inner") aa) iP)))
def ug(g:Nat->Option (List D->Option D)):FS:=(oj (p8 (o6 g "holds" (c1 (oN Fu "one") aa) iP) (o6 g "holds" (c1 (oN Aw "other") aa) iP)))
def wJ:Nat->Option (List D->Option D):=λc=>match c with
 |3=>some wH
 |4=>some Bp
 |5=>some zT
 |6=>some sJ
 |7=>some zU
 |8=>some zW
 |15=>some Br
 |_=>none
def pj:Nat->Nat->Option (List D->Option D)
 |0=>wJ
 |n+1=>λc=>match c with
  |9=>some (fnD 4 4 (ve (pj n)))
  |10=>some (fnD 4 4 (ug (pj n)))
  |c=>wJ c
def vg:FS:=(oe (oP 4 (oa p6 gG))
 (oe (oP 5 (oa p6 ky))
 (oe (sIf (rG (qu (cT (oa xS (nY ag (nY av (a1 aP)))))) (cT (c2 (dIn false) av (cL (pe qI (nY ag (nY ar (a1 aP)))))))) (oj aY) oA)
 (oj (oa vd (nY ar (nY (pd (nY eO dW)) (a1 aP))))))))
def xT:=fnD 4 6 vg
abbrev kA:=(a1 (c1 (oN yq "value") aa))
def wK:FS:=(oe (oP 4 (oa p6 gG))
 (oe (sIf (qu (cT (oa tu (nY ag (nY av kA))))) (oj aY) oA)
 (oj (oa vd (nY ar (nY (pd (nY (cS "mark") dW)) kA))))))
def tD:=fnD 4 5 wK
def uR:Nat->Option (List D->Option D):=λc=>match c with
 |11=>some xT
 |12=>some tD
 |_=>none
abbrev nW:=nI
abbrev nF:=(nY (c1 (oN vR "term") aa) nW)
def ED:FS:=(oj (pd (nY eO nF)))
def Lu:=fnD 1 1 ED
abbrev m6:=nJ
def Dn:FS:=(oj (pd (nY (cS "has") m6)))
def IQ:=fnD 1 1 Dn
def Bs:FS:=(oj (pd (nY (cS "seen") m6)))
def G8:=fnD 1 1 Bs
abbrev iM:=(cS "marked")
abbrev nG:=(nY (c1 (oN vR "term") aa) kA)
def yP:FS:=(oj (pd (nY iM nG)))
def DQ:=fnD 1 1 yP
def Bt:FS:=(oj (pd (nY (cS "kind") (nY (c1 (oN vR "term") aa) (a1 (c1 (oN pB "kind") aa))))))
def G9:=fnD 1 1 Bt
def Bu:FS:=(oj (pd (nY (cS "word") (a1 (c1 (oN CQ "word") aa)))))
def He:=fnD 1 1 Bu
abbrev iN:=(a1 (cS "lit"))
def Do:FS:=(oj (pd iN))
def IR:=fnD 1 1 Do
abbrev fK:=(cS "move")
def Bv:FS:=(oj (pd (nY fK nF)))
def xU:=fnD 1 1 Bv
def Dp:FS:=(oj (pd (nY du nG)))
def ze:=fnD 1 1 Dp
abbrev gE:=(cS "not")
def wN(g:Nat->Option (List D->Option D)):FS:=(oj (pd (nY gE (a1 (o6 g "told" (c1 (oN Av "inner") aa) oq)))))
abbrev gz:=(cS "both")
def vm(g:Nat->Option (List D->Option D)):FS:=(oj (pd (nY gz (nY (o6 g "told" (c1 (oN Fu "one") aa) oq) (a1 (o6 g "told" (c1 (oN Aw "other") aa) oq))))))
def xV:Nat->Option (List D->Option D):=λc=>match c with
 |3=>some Lu
 |4=>some IQ
 |5=>some G8
 |6=>some DQ
 |7=>some G9
 |8=>some He
 |11=>some xU
 |12=>some ze
 |15=>some IR
 |_=>none
def oU:Nat->Nat->Option (List D->Option D)
 |0=>xV
 |n+1=>λc=>match c with
  |9=>some (fnD 1 1 (wN (oU n)))
  |10=>some (fnD 1 1 (vm (oU n)))
  |c=>xV c
abbrev dv:=(nY (c2 dIx aa aJ) (a1 (c2 dIx aa b0)))
def tE(g:List D->Option D):FS:=(oe (oP 1 (c2 dIx aa aU))
 (oe (sIf (cT (c2 (dEq false) ag gE)) (oj (o7 9 (λds=>qq (ds++[])) (a1 (oa g cJ)))) oA)
 (oe (sIf (cT (c2 (dEq false) ag gz)) (oj (o7 10 (λds=>xK (ds++[])) (nY (oa g cJ) (a1 (oa g kx))))) oA)
 (oe (sIf (cT (c2 (dEq false) ag eO)) (oj (o7 3 (λds=>vS (ds++[])) dv)) oA)
 (oe (sIf (cT (c2 (dEq false) ag (cS "has"))) (oj (o7 4 (λds=>uI (ds++[])) cJ)) oA)
 (oe (sIf (cT (c2 (dEq false) ag (cS "seen"))) (oj (o7 5 (λds=>xJ (ds++[])) cJ)) oA)
 (oe (sIf (cT (c2 (dEq false) ag iM)) (oj (o7 6 (λds=>pN (ds++[])) dv)) oA)
 (oe (sIf (cT (c2 (dEq false) ag (cS "kind"))) (oj (o7 7 (λds=>qk (ds++[])) dv)) oA)
 (oe (sIf (cT (c2 (dEq false) ag (cS "word"))) (oj (o7 8 (λds=>va (ds++[])) cJ)) oA)
 (oj (QD 15)))))))))))
def qQ:Nat->List D->Option D
 |0=>fnD 1 2 MW
 |n+1=>fnD 1 2 (tE (qQ n))
def EE:FS:=(oe (sIf (cT (c2 (dEq false) (c2 dIx aa aU) fK)) (oj (o7 11 (λds=>ro (ds++[])) dv)) oA)
 (oj (o7 12 (λds=>r6 (ds++[])) dv)))
def AE:=fnD 1 1 EE
def xW:FS:=(oe (sIf (cT (c2 yy ag (c1 p9 aa))) (oj (c2 dIx aa ag)) oA)
 (oj aU))
def sL:=fnD 2 2 xW
abbrev cx:=(cC (.int 6))
abbrev dR:=(cC (.int 2147483647))
abbrev eK:=(cC (.int 10))
abbrev iK:=(cC (.int 48271))
def zX:FS:=(oe (rS 2 (oG oq))
 (oe (oP 3 aU)
 (oe (sIf (cT (c2 SZ aa (c2 AN eK (cC (.int 18))))) (oP 3 (c2 Gr aa (c2 AN eK (cC (.int 18))))) oA)
 (oe (whL (yF (sA (cT (c2 Cn aq aU)) (cT (c2 yy (c1 p9 ar) ag)))) (oe (o9 (uC 2 (c2 rh aq (c2 AN eK cx))))
 (oP 3 (c2 yE aq (c2 AN eK cx)))) 200)
 (oe (oP 4 (c2 rh (c2 tP (c2 pE (c2 rh aa dR) aJ) iK) dR))
 (oe (sS (iR1 ag) (gN 5) (oe (oP 4 (c2 rh (c2 tP (c2 pE (c2 pE av (c2 tP (cC (.int 7919)) aP)) aJ) iK) dR))
 (oe (oP 6 (c2 rh (c2 tP av (c2 pE (c2 yE av (cC (.int 1009))) (cC (.int 69621)))) dR))
 (o9 (uC 2 (c2 rh (c2 tP bD (c2 pE (c2 yE bD (cC (.int 2003))) (cC (.int 40692)))) (cC (.int 2147483399))))))))
 (qK (vq (cFz 2) oNo (oAt ag)))))))))
def sM:=fnN 2 7 zX
def Bw:FS:=(oe (sIf (yF (cT (c2 (dEq false) aa (cL (oG oq))))) (oj aU) oA)
 (oj (c2 rh (JE 0) ag)))
def n8:=fnM 1 2 Bw
abbrev dc:=(cC (.int 7))
abbrev nV:=(cC (.int 8))
abbrev iO:=(cC (.int 25))
abbrev gQ:=(a1 nV)
def wQ:FS:=(oe (oP 1 (pb n8 0 (a1 iO)))
 (oe (oP 2 (cS "bcdefghijklmnopqrstuvwxyz"))
 (qK (oT 1 [2,0,1] (iR1 (cC (.int 17))) (gN 0) pM (c2 GB (c2 dIx ag (c2 rh (c2 pE aq (c2 tP dc aa)) iO)) (c2 pE aJ (pb n8 2 gQ)))))))
def wU:=fnM 0 3 wQ
abbrev dr:=(cC (.int 5))
abbrev fJ:=(cS "plain")
abbrev kG:=(a1 (zr (c1 p9 av)))
def tK:FS:=(oe (rS 3 (oG oq))
 (oe (rS 4 (qz ag (cL (oG (a1 (c2 dIx aa dr))))))
 (oe (sS (iL (cL (vq aa (oAt cx) (oAt (c2 pE cx (pb n8 2 gQ)))))) (gN 5) (oe (oP 6 (c2 dIx (cL (oG (nY fJ (nY de (nY gv (nY fI (nY de (nY gv (nY de (a1 fJ)))))))))) (pb n8 2 gQ)))
 (oe (o9 (uC 3 (pd (nY aP (nY bD (a1 (Ai 4 (pb n8 2 kG))))))))
 (sIf (cT (c2 (dEq false) bD de)) (o9 (uC 4 aP)) oA))))
 (qK (KY 3)))))
def qR:=fnL 2 7 tK
abbrev fL:=(a1 (c1 p9 aq))
def xX:FS:=(oe (rS 1 (pe sM (nY aa (a1 (cC (.int 110))))))
 (oe (oP 2 (pb wU 1 oq))
 (oe (oP 3 (cL (vq ar oNo (oAt (c2 pE aJ (pb n8 1 (a1 dr)))))))
 (oe (oP 4 (cL (qz (cL (oT 1 [] (iL aq) (gN 0) pM (pd (nY aa (nY cU eS))))) (cL (oG (a1 (pd (nY (c2 dIx ar dr) (nY dt (a1 (c2 dIx aq (pb n8 1 fL))))))))))))
 (oe (oP 5 (cL (oG oq)))
 (oe (sS (iL (cL (qz av (pJ qR 1 (nY ar eR))))) (gN 6) (oe (oP 7 (pb n8 1 (a1 (c2 pE (c1 p9 aP) aJ))))
 (oP 5 (cL (qz (cL (qz (cL (vq aP oNo (oAt bV))) (cL (oG (a1 bD))))) (cL (vq aP (oAt bV) oNo)))))))
 (oe (rS 8 (oG oq))
 (oe (sS (iL (cL (vq ar (oAt (cC (.int 13))) (oAt (c2 pE (cC (.int 13)) (pb n8 1 (a1 dr))))))) (gN 9) (oe (oP 10 (c2 pE aJ (pb n8 1 (a1 dU))))
 (o9 (uC 8 (pd (nY (cV 9) (nY (pb n8 1 (a1 (c2 pE (cV 10) aJ))) (a1 (cV 10)))))))))
 (oe (oP 11 (cL (oT 1 [1] (iL aq) (gN 0) (cT (c2 (dEq false) (pb n8 1 (a1 b0)) aJ)) aa)))
 (oe (oP 12 (cL (oG (nY (pd oq) (nY (pd (a1 (cS "red"))) (a1 (pd (nY (cS "old") (a1 (cS "red"))))))))))
 (oe (oP 13 (cL (oT 3 [12,1] (iL aP) (gT (oK (gN 0) (oK (gN 1) (oK (gN 2) qv))) 3) pM (AR (pd bw) (c2 dIx aq (pb n8 4 (a1 dU)))))))
 (oj (u4 [("rows", aP),("marks", (cFz 8)),("dark", (cV 11)),("words", (cV 13)),("you", (c2 dIx ar dr))])))))))))))))
def xY:=fnD 1 14 xX
abbrev gA:=(cS "rows")
def xZ:FS:=(oe (oP 1 (cL (oT 3 [] (iL (c2 qt aa gA)) (gT (oK (gN 0) (oK (gN 1) (oK (gN 2) qv))) 3) (cT (c2 (dEq false) ag cU)) aa)))
 (qK (oG (nY (pd (nY (c2 dIx ag aU) (nY (cS "north") (nY (c2 dIx ag (c2 Gr (c1 p9 ag) aJ)) eS)))) (a1 (pd (nY (c2 dIx ag aU) (nY (cS "up") (nY (c2 dIx ag aU) eS)))))))))
def ya:=fnN 1 2 xZ
def wV:FS:=(oe (oP 1 (cL (oT 2 [] (iZ (nY (c2 qt aa gA) (a1 (c2 qt aa (cS "words"))))) (gT (oK (gN 0) (oK (gN 1) qv)) 2) pM (o7 0 (λds=>zH (ds++[])) (nY (c2 dIx aa aU) (nY ag dv))))))
 (oe (oP 2 (cL (oT 3 [] (iL (c2 qt aa (cS "marks"))) (gT (oK (gN 0) (oK (gN 1) (oK (gN 2) qv))) 3) pM (o7 1 (λds=>A4 (ds++[])) dX))))
 (oj (o7 14 (λds=>sI (ds++[])) (nY ag (nY ar (nY (cL (xA (c2 qt aa (cS "dark")))) (nY (cL (pe ya bw)) (nY (cL (oG oq)) (a1 (cL (oG oq))))))))))))
def wW:=fnD 1 3 wV
def EF:FS:=(qK (oT 3 [1] (iL (c2 qt aa gA)) (gT (oK (gN 0) (oK (gN 1) (oK (gN 2) qv))) 3) (cT (c2 (dIn false) ag aq)) aa))
def pY:=fnN 2 2 EF
abbrev kM:=(nY de gK)
def wX:FS:=(oe (zu 1)
 (oe (sS (iL (cL (pe pY (nY aa (a1 (cL (oG kM))))))) (gN 2) (pF 1 ar aJ))
 (oe (sS (iL (c2 qt aa (cS "marks"))) (gT (oK (gN 2) (oK (gN 3) (oK (gN 4) qv))) 3) (pF 1 ar av))
 (oj (cFz 1)))))
def pO:=fnD 1 5 wX
abbrev nt:=(nY aa (a1 (cL (oG (a1 cU)))))
def tL:FS:=(oe (zu 2)
 (oe (rS 3 (pe pY (nY aa (a1 (cL (oG (nY cU (a1 dt))))))))
 (oe (rS 4 (pe pY (nY aa (a1 (cL (oG gO))))))
 (oe (whL (yF (cT (c2 (dEq true) av (cL (oG oq))))) (oe (oP 5 (y4 4 (pb n8 1 kG)))
 (oe (pF 2 aP (Ai 3 (pb n8 1 (a1 (zr (c1 p9 aq))))))
 (o9 (uC 3 aP)))) 50)
 (oe (sS (iL (cL (pe pY (nY aa (a1 (cL (oG (nY fJ (nY fI gK))))))))) (gN 6) (pF 2 bD (Ai 3 (pb n8 1 (a1 (zr (c1 p9 aq)))))))
 (oe (oP 7 (cL (pe pY nt)))
 (oe (pF 2 (c2 qt aa dt) (c2 dIx bV (pb n8 1 (a1 (c1 p9 bV)))))
 (oj (cFz 2)))))))))
def rU:=fnL 1 8 tL
def uh:FS:=(oe (zu 2)
 (oe (sS (iIt (oa pO bw)) (gT (oK (gN 3) (oK (gN 4) qv)) 2) (pF 2 aq (pb n8 1 (a1 (c2 pE av aJ)))))
 (oj (cFz 2))))
def ui:=fnL 1 5 uh
def zY:FS:=(oe (oP 2 (cL (oT 2 [] (iIt aa) (gT (oK (gN 0) (oK (gN 1) qv)) 2) pM (pd (nY (pd (nY eO bw)) bY)))))
 (oj (AO (cL (CI (cL (qz ar (cL (oT 2 [] (iIt ag) (gT (oK (gN 0) (oK (gN 1) qv)) 2) pM (pd (nY (pd (nY (cS "mark") bw)) bY)))))))))))
def uj:=fnD 2 3 zY
def sN:FS:=(oe (oP 2 (cL (pe pY (nY aa (a1 (cL (oG (nY fJ (nY fI kM)))))))))
 (oe (oP 3 (pb n8 1 gQ))
 (oe (sIf (rG (cT (c2 (dEq false) ar (cL (oG oq)))) (cT (c2 Cn aq dr))) (oj (c2 dIx (cL (oG (nY (pd (nY (cS "go") (nY (c2 dIx (cL (oG (nY (cS "north") (a1 (cS "up"))))) (pb n8 1 (a1 b0))) eS))) (a1 (pd (nY (cS "wait") (nY aY eS))))))) (c2 rh aq b0))) oA)
 (oe (oP 4 (c2 dIx ar (pb n8 1 (a1 (c1 p9 ar)))))
 (oe (sIf (cT (c2 yy aq b0)) (oj (pd (nY gx (nY av eS)))) oA)
 (oj (pd (nY du (nY av (a1 (c2 dIx ar (pb n8 1 (a1 (c1 p9 ar))))))))))))))
def rB:=fnL 1 5 sN
def Bx:FS:=(oj (c2 qt (u4 [("go", gB),("wait", (cS "alone")),("take", (cS "one")),("put", fG)]) (c2 dIx aa aU)))
def vo:=fnD 1 1 Bx
abbrev cR:=(nY (cS "one") (a1 (cS "two")))
abbrev kC:=(nY bN (nY bN (a1 bN)))
abbrev iW:=(nY eJ (a1 eJ))
abbrev kI:=(a1 (c1 p9 av))
def tR:FS:=(oe (oP 3 (cL (oT 3 [] (iL (c2 qt aa gA)) (gT (oK (gN 0) (oK (gN 1) (oK (gN 2) qv))) 3) pM aa)))
 (oe (oP 4 (cL (qz (cL (cSl (cL (vq aq (oAt (pb n8 2 fL)) oNo)) none (some 3))) (cL (oG (a1 (cS "here")))))))
 (oe (sIf (cT (c2 (dIn false) ag (cL (oG cR)))) (oP 4 (cL (qz av (cL (oG kC))))) oA)
 (oe (sIf (cT (c2 (dEq false) ag fG)) (oP 4 (cL (qz av (cL (oG iW))))) oA)
 (oj (c2 dIx av (pb n8 2 kI)))))))
def rD:=fnL 2 5 tR
def um:FS:=(oe (oP 3 (cL (pe pY (nY aa (a1 (cL (oG (nY cU (nY de (a1 dt))))))))))
 (oe (rS 4 (oG (nY (c2 dIx aq (pb n8 2 fL)) (nY (c2 dIx aq (pb n8 2 fL)) (a1 (cS "here"))))))
 (oe (sIf (cT (c2 (dIn false) ag (cL (oG cR)))) (o9 (uC 4 bN)) oA)
 (oe (sIf (cT (c2 (dEq false) ag fG)) (rS 4 (qz (cFz 4) (cL (oG iW)))) oA)
 (oj (Ai 4 (pb n8 2 kG)))))))
def uo:=fnL 2 5 um
def tM:FS:=(oe (oP 3 (oa pO bw))
 (oe (oP 4 (cL (Au aq)))
 (oe (sIf (sA (cT (c2 (dIn false) ag (cL (oG cR)))) (rG (cT (c2 (dEq false) av (cL (oG oq)))) (cT (c2 (dEq false) (pb n8 2 (a1 b0)) aU)))) (oj (pd (nY (c2 dIx (cL (oG (nY bN (a1 (c2 dIx (cL (oG (nY bN (a1 eJ)))) (c1 Gu (c2 (dEq false) ag fG))))))) (pb n8 2 (a1 b0))) (a1 (pb n8 2 (a1 dS)))))) oA)
 (oe (oP 5 (c2 dIx av (pb n8 2 kI)))
 (oj (pd (nY aP (a1 (pb n8 2 (a1 (c2 pE (c2 qt aq aP) aJ)))))))))))
def qS:=fnL 2 6 tM
abbrev eP:=(nY aa (nY ag (a1 (c2 Gr aq aJ))))
abbrev kH:=(nY dc (a1 eK))
abbrev nu:=(nY iM (nY bD (a1 bV)))
abbrev nO:=(a1 (pJ uo 2 bP))
abbrev nQ:=(a1 (pJ rD 2 bP))
def pW(g:List D->List D->Option (D×List D)):FS:=(oe (oP 4 (pb n8 2 (a1 (c2 dIx (cL (oG kH)) (c1 Gu (c2 Cn aq aJ))))))
 (oe (sIf (cT (c2 (dEq false) av aU)) (oj (pd (nY eO (nY (pJ rD 2 bP) nO)))) oA)
 (oe (sIf (cT (c2 (dEq false) av aJ)) (oj (pd (nY (cS "has") nQ))) oA)
 (oe (sIf (cT (c2 (dEq false) av b0)) (oj (pd (nY (cS "seen") nQ))) oA)
 (oe (sIf (cT (c2 (dEq false) av dU)) (oe (oP 5 (cL (oG (nY cU (nY fJ (nY fI (nY de (nY gv (nY dt kM)))))))))
 (oj (pd (nY (cS "kind") (nY (pJ rD 2 bP) (a1 (c2 dIx aP (pb n8 2 gQ)))))))) oA)
 (oe (sIf (sA (cT (c2 (dEq false) av dS)) (cT (c2 (dEq false) ag gB))) (oj (pd (nY (cS "word") (a1 (c2 dIx (cL (oG (nY (cS "north") (nY (cS "up") (nY (cS "down") (a1 (cS "upp"))))))) (pb n8 2 (a1 dS))))))) oA)
 (oe (sIf (sA (cT (c2 yy av cx)) (rG (cT (c2 (dIn false) ag (cL (oG cR)))) (cT (c2 QC (oa pO bw) (u4 []))))) (oe (Gh (pJ qS 2 bP) (gT (oK (gN 6) (oK (gN 7) qv)) 2))
 (oj (pd nu))) oA)
 (oe (sIf (cT (c2 yy av dc)) (oj (pd iN)) oA)
 (oe (sIf (cT (c2 (dEq false) av dc)) (oj (pd (nY gE (a1 (pJ g 2 eP))))) oA)
 (oj (pd (nY gz (nY (pJ g 2 eP) (a1 (pJ g 2 eP)))))))))))))))
def oY:Nat->List D->List D->Option (D×List D)
 |0=>fnJ 2 3 8 MW
 |n+1=>fnJ 2 3 8 (pW (oY n))
def rE(g:List D->Option D):FS:=(oe (oP 1 (c2 dIx aa aU))
 (oe (sIf (cT (c2 (dEq false) ag eO)) (oj (o7 3 (λds=>vS (ds++[])) dv)) oA)
 (oe (sIf (cT (c2 (dEq false) ag (cS "has"))) (oj (o7 4 (λds=>uI (ds++[])) cJ)) oA)
 (oe (sIf (cT (c2 (dEq false) ag (cS "seen"))) (oj (o7 5 (λds=>xJ (ds++[])) cJ)) oA)
 (oe (sIf (cT (c2 (dEq false) ag iM)) (oj (o7 6 (λds=>pN (ds++[])) dv)) oA)
 (oe (sIf (cT (c2 (dEq false) ag (cS "kind"))) (oj (o7 7 (λds=>qk (ds++[])) dv)) oA)
 (oe (sIf (cT (c2 (dEq false) ag (cS "word"))) (oj (o7 8 (λds=>va (ds++[])) cJ)) oA)
 (oe (sIf (cT (c2 (dEq false) ag gE)) (oj (o7 9 (λds=>qq (ds++[])) (a1 (oa g cJ)))) oA)
 (oe (sIf (cT (c2 (dEq false) ag gz)) (oj (o7 10 (λds=>xK (ds++[])) (nY (oa g cJ) (a1 (oa g kx))))) oA)
 (oj (QD 15)))))))))))
def ql:Nat->List D->Option D
 |0=>fnD 1 2 MW
 |n+1=>fnD 1 2 (rE (ql n))
def uq:FS:=(oe (oP 3 (cL (pe pY (nY aa (a1 (cL (oG (nY fJ (nY fI (nY de (nY gv gO)))))))))))
 (oe (sIf (cT (c2 (dIn false) ag (cL (oG cR)))) (oP 3 (cL (qz aq (cL (oG kC))))) oA)
 (oe (sIf (cT (c2 (dEq false) ag fG)) (oP 3 (cL (qz aq (cL (oG iW))))) oA)
 (oe (sIf (rG (cT (c2 (dEq false) aq (cL (oG oq)))) (cT (c2 (dEq false) (pb n8 2 (a1 cx)) aU))) (oe (oP 4 (cL (pe pY nt)))
 (oj (pd (nY fK (nY (c2 qt aa dt) (a1 (c2 dIx av (pb n8 2 kI)))))))) oA)
 (oj (pd (nY fK (nY (c2 dIx aq (pb n8 2 fL)) nO))))))))
def sO:=fnL 2 5 uq
def tG:FS:=(oe (sIf (sA (cT (c2 (dIn true) ag (cL (oG cR)))) (cT (c2 NN (oa pO bw) (u4 [])))) (oj (pJ sO 2 bP)) oA)
 (oe (Gh (pJ qS 2 bP) (gT (oK (gN 3) (oK (gN 4) qv)) 2))
 (oj (pd (nY du (nY aq dW))))))
def wY:=fnL 2 5 tG
def By:FS:=(oe (sIf (rG (cT (c2 (dEq true) (c1 (pQ NU) aa) (c1 (pQ NU) ag))) (cT (c2 (dEq true) (c1 (pQ IJ) aa) (c1 (pQ IJ) ag)))) (oj bM) oA)
 (oe (sIf (rG (cT (c2 (dEq true) (c1 (pQ VC) aa) (c1 (pQ VC) ag))) (cT (c2 (dEq true) (c1 (pQ NR) aa) (c1 (pQ NR) ag)))) (oj bM) oA)
 (oe (sIf (rG (cT (c2 (dEq true) (c1 (pQ IM) aa) (c1 (pQ IM) ag))) (cT (c2 (dEq true) (c1 (pQ CS) aa) (c1 (pQ CS) ag)))) (oj bM) oA)
 (oj (p8 (c2 (dEq false) (c1 (pQ IK) aa) (c1 (pQ IK) ag)) (c2 (dEq false) (c1 (pQ IP) aa) (c1 (pQ IP) ag)))))))
def tS:=fnD 2 2 By
def sP:FS:=(oe (oP 4 (oa (ql 4) eR))
 (oe (oP 5 (oa (qQ 4) eR))
 (oe (sIf (rG (cT (c2 (dEq true) (o6 (oU 3) "told" av oq) aq)) (rG (cT (c2 (dEq true) (o6 (oU 3) "told" aP oq) aq)) (qu (cT (c1 (pQ (qU "tuple")) (o6 (oU 3) "told" av oq)))))) (oj bM) oA)
 (oe (sIf (rG (qu (cT (oa tS (nY av (a1 aP))))) (qu (cT (oa tS (nY aP (a1 (oa (qQ 4) (a1 (o6 (oU 3) "told" av oq))))))))) (oj bM) oA)
 (oj (c2 (dEq false) (o6 (pj 3) "holds" av dX) (o6 (pj 3) "holds" aP dX)))))))
def qX:=fnD 4 6 sP
abbrev nh:=(nY (c2 dIx aq aJ) (a1 (c2 dIx aq b0)))
def qY:FS:=(oe (sIf (cT (c2 (dEq false) (c2 dIx aq aU) fK)) (oP 4 (o7 11 (λds=>ro (ds++[])) nh)) (oP 4 (o7 12 (λds=>r6 (ds++[])) nh)))
 (oe (oP 5 (oa AE eR))
 (oe (sIf (rG (cT (c2 (dEq true) (o6 (oU 3) "told" av oq) aq)) (rG (cT (c2 (dEq true) (o6 (oU 3) "told" aP oq) aq)) (cT (c2 (dEq true) (c1 (pQ NT) aP) (c2 (dEq false) (c2 dIx aq aU) fK))))) (oj bM) oA)
 (oe (sIf (cT (c2 (dEq true) (c1 (pQ RE) aP) (c2 (dEq false) (c2 dIx aq aU) du))) (oj bM) oA)
 (oj (c2 (dEq false) (o6 uR "done" av dX) (o6 uR "done" aP dX)))))))
def qZ:=fnD 4 6 qY
abbrev m9:=(nY ar (nY bD (nY bV (a1 (pJ (oY 4) 4 (nY ag (nY (cV 8) (a1 dS))))))))
abbrev ng:=(nY (pJ sO 4 (nY ag (a1 (cV 8)))) (a1 (pJ wY 4 (nY ag (a1 (cV 8))))))
abbrev ni:=(nY ar (nY bD (nY bV (a1 (cV 9)))))
abbrev nD:=(nY aq (a1 (cC (.int 130))))
abbrev nH:=(nY aP (a1 (pJ ui 4 bY)))
def NW:FS:=(oe (oP 1 (oa xY (a1 (oa sL (nY aa (a1 aU))))))
 (oe (oP 2 (oa wW bY))
 (oe (sS (iL (cL (qz (cL (oG (a1 (oa sL (nY aa (a1 aJ)))))) (cL (cSl aa (some 2) (some 11)))))) (gN 3) (oe (rS 4 (pe sM nD))
 (oe (oP 5 (pJ rU 4 bY))
 (oe (oP 6 (oa uj nH))
 (oe (oP 7 (pJ rB 4 bY))
 (oe (oP 8 (oa vo (a1 bV)))
 (oe (sIf (qu (cT (oa qX m9))) (oj bM) oA)
 (sS (iL (cL (oG ng))) (gN 9) (sIf (qu (cT (oa qZ ni))) (oj bM) oA)))))))))
 (oj cE))))
def RH:=fnD 1 10 NW
section
variable{k:Nat}{cap:List Nat}{g:FG}{ft:FT}{fe e:FE}{s:FA}{ρ ρ1 ρ2:aZ}{α:Type}
theorem qG(h:e ρ=some (.bl true,ρ1)):o9 (oa oE (nY e (nY (cC m) oq))) ρ=some (.nx ρ1):=pU (n9 (nZ h (nZ rfl rfl)) rfl)
theorem xl(dd h:α->L4.D)(l:List α)(hs:s ρ=some (l.map dd,ρ1))(hl:l.length<=1000)(st:∀a∈l,∃ρ2 ρ3,g (dd a) (yV k cap ρ1)=some ρ2/\fe ρ2=some (h a,ρ3)/\rT cap (ρ3.drop k) ρ1=some ρ1):
  oT k cap s g pM fe ρ=some (l.map h,ρ1):=(wt hs (by rw[ah];exact hl)).trans (Fn dd h l st)
theorem wZ(dd h:α->L4.D)(p:α->Bool)(l:List α)(hs:s ρ=some (l.map dd,ρ1))(hl:l.length<=1000)
  (st:∀a∈l,∃ρ2 ρ3,g (dd a) (yV k cap ρ1)=some ρ2/\ft ρ2=some (p a,ρ3)/\(p a=true->∃ρ4,fe ρ3=some (h a,ρ4)/\rT cap (ρ4.drop k) ρ1=some ρ1)/\(p a=false->rT cap (ρ3.drop k) ρ1=some ρ1)):
  oT k cap s g ft fe ρ=some ((l.filter p).map h,ρ1):=(wt hs (by rw[ah];exact hl)).trans (CL dd p h l st)
theorem uS(dd:α->L4.D)(l:List α)(hs:s ρ=some (l.map dd,ρ1))(hl:l.length<=1000)(st:∀a∈l,∃ρ2 ρ3,g (dd a) (yV k cap ρ1)=some ρ2/\fe ρ2=some (.bl true,ρ3)/\rT cap (ρ3.drop k) ρ1=some ρ1):
  c1 uU (cL (oT k cap s g pM fe)) ρ=some (.bl true,ρ1):=
 pC (pD (xl dd (λ_=>.bl true) l hs hl st)) ((JW l λ_=>true).trans (by rw[bC.mpr λ_ _=>rfl]))
theorem NX(dd:α->L4.D)(l:List α)(hs:s ρ=some (l.map dd,ρ1))(hl:l.length<=1000)(st:∀a∈l,∃ρ2 ρ3,g (dd a) (yV k cap ρ1)=some ρ2/\fe ρ2=some (.bl false,ρ3)/\rT cap (ρ3.drop k) ρ1=some ρ1):
  c1 BH (cL (oT k cap s g pM fe)) ρ=some (.bl false,ρ1):=
 pC (pD (xl dd (λ_=>.bl false) l hs hl st)) ((JX l λ_=>false).trans (by rw[l7.mpr λ_ _=>bp]))
end
inductive Kd where
 |room|you|plain|fixed|box|lamp
deriving DecidableEq
def Kd.s:Kd->Str
 |.room=>"room" |.you=>"you" |.plain=>"plain" |.fixed=>"fixed" |.box=>"box" |.lamp=>"lamp"
def Kd.pl:Kd->Bool
 |.room=>false|.you=>false|_=>true
def Kd.hd:Kd->Bool
 |.room=>true|.you=>true|.box=>true|_=>false
def Kd.mk:Kd->Bool
 |.box=>true|.lamp=>true|_=>false
structure Th where
 n:Str
 w:aB
 k:Kd
 s:Option Str
def oS:Option Str->L4.D
 |none=>.non
 |some x=>.str x
def thD(t:Th):L4.D:=.obj 0 ["name", "words", "kind", "start"] [.str t.n,.tup (t.w.map D.str),.str t.k.s,oS t.s]
theorem vH(t:Th):oN oX "name" (thD t)=some (.str t.n):=rfl
theorem Fw(t:Th):oN qN "words" (thD t)=some (.tup (t.w.map D.str)):=rfl
theorem yb(t:Th):oN pB "kind" (thD t)=some (.str t.k.s):=rfl
theorem Fy(t:Th):oN qd "start" (thD t)=some (oS t.s):=rfl
theorem BA(a b:Kd):dEq false (.str a.s) (.str b.s)=some (.bl (decide (a=b))):=by cases a<;>cases b<;>kernel_rfl
theorem J1(t:Th):vU [thD t]=some (.bl t.k.hd):=by obtain⟨n,w,k,s⟩:=t;cases k<;>kernel_rfl
theorem J2(t:Th):vW [thD t]=some (.bl t.k.mk):=by obtain⟨n,w,k,s⟩:=t;cases k<;>kernel_rfl
theorem Hf(t:Th):uK [thD t]=some (.bl t.k.pl):=by obtain⟨n,w,k,s⟩:=t;cases k<;>kernel_rfl
theorem QH(t:Th):pK [.str t.k.s,Fv]=some (.bl true):=by obtain⟨n,w,k,s⟩:=t;cases k<;>kernel_rfl
abbrev TD(T:List Th):L4.D:=.lst (T.map thD)
theorem count_eq(T:List Th)(hl:T.length<=1000)(k:Kd):wA [TD T,.str k.s]=some (.int (T.filter λt=>decide (t.k=k)).length):=by refine ox (ρ:=[.im (TD T),.im (.str k.s)]) rfl ?_;refine ou (pC (pD (wZ thD thD (λt=>decide (t.k=k)) T (ρ1:=[.im (TD T),.im (.str k.s)]) rfl hl λt _=>⟨[.im (thD t),.im (.str k.s)],[.im (thD t),.im (.str k.s)],rfl,ph (og (pC rfl (yb t)) rfl (BA t.k k)),λ_=>⟨_,rfl,rfl⟩,λ_=>rfl⟩)) ?_);show some (D.int _)=_;rw[ah]
theorem vJ(T:List Th)(hl:T.length<=1000):rL [TD T]=some ((T.filter λt=>t.k.pl).map thD):=by refine yY (ρ:=[.im (TD T)]) rfl ?_;exact ym (wZ thD thD (λt=>t.k.pl) T (ρ1:=[.im (TD T)]) rfl hl λt _=>⟨[.im (thD t)],[.im (thD t)],rfl,ph (o8 (xs:=[.str t.n,.tup (t.w.map D.str),.str t.k.s,oS t.s]) (ys:=[]) rfl rfl rfl rfl (Hf t)),λ_=>⟨_,rfl,rfl⟩,λ_=>rfl⟩)
theorem zZ(h1:a ρ=some (.int x,ρ))(h2:b ρ=some (.int y,ρ))(h3:c ρ=some (.int z,ρ))(hx:x<=y)(hy:y<=z):rW uT uT a b c ρ=some (.bl true,ρ):=by
 unfold rW;rw[h1];simp only[h2];have e1:uT (.int x) (.int y)=some (.bl true):=by show some (D.bl (decide (x<=y)))=_;rw[aT hx]
 have e2:uT (.int y) (.int z)=some (.bl true):=by show some (D.bl (decide (y<=z)))=_;rw[aT hy]
 simp only[e1,h3,e2]
theorem RI(h1:a ρ=some (.int x,ρ))(h2:b ρ=some (.int y,ρ))(hx:x<=y):c2 uT a b ρ=some (.bl true,ρ):=og h1 h2 (by
 show some (D.bl (decide (x<=y)))=_;rw[aT hx])
theorem BJ(T:List Th)(hl:T.length<=1000)(h1:1<=(T.filter λt=>decide (t.k=.room)).length)(h5:(T.filter λt=>decide (t.k=.room)).length<=5)(hy:(T.filter λt=>decide (t.k=.you)).length=1)(h7:(T.filter λt=>t.k.pl).length<=7):
  uM [TD T]=some .non:=by
 let ρ:aZ:=[.im (TD T),.im (.bl true)];refine wy (ρ:=ρ) rfl ?_;unfold uL;rw[n4 (show _=some (Out.nx ρ) from(oH ((pA rfl).trans (uS thD T (ρ1:=[.im (TD T),.un]) rfl hl λt _=>⟨_,_,rfl,rfl,rfl⟩))).trans rfl)];rw[n4 (qG (ρ1:=ρ) rfl)];rw[n4 (qG (ρ1:=ρ) (uS thD T rfl hl λt _=>⟨[.im (thD t)],[.im (thD t)],rfl,n9 (nZ (pC rfl (yb t)) (nZ rfl rfl)) (QH t),rfl⟩))];rw[n4 (qG (ρ1:=ρ) (zZ (x:=1) (y:=(T.filter λt=>decide (t.k=.room)).length) (z:=5) rfl (n9 (ds:=[TD T,.str Kd.room.s]) rfl (count_eq T hl .room)) rfl (by omega) (by omega)))];rw[n4 (qG (ρ1:=ρ) (og (ρ1:=ρ) (x:=.int (T.filter λt=>decide (t.k=.you)).length) (y:=.int 1) (n9 (ds:=[TD T,.str Kd.you.s]) rfl (count_eq T hl .you)) rfl (by rw[hy];rfl)))];refine qG (ρ1:=ρ) (RI (x:=(T.filter λt=>t.k.pl).length) (y:=7) (pC (pD (n9 rfl (vJ T hl))) ?_) rfl (by omega));show some (D.int _)=_;rw[ah]
structure Mk where
 n:Str
 st:Int
 mo:Int
def mkD(m:Mk):L4.D:=.obj 1 ["name", "start", "most"] [.str m.n,.int m.st,.int m.mo]
def Mk.ok(m:Mk):Prop:=1<=m.mo/\m.mo<=3/\0<=m.st/\m.st<=m.mo
abbrev MD(M:List Mk):L4.D:=.lst (M.map mkD)
theorem FB(m:Mk):oN oX "name" (mkD m)=some (.str m.n):=rfl
theorem IS(m:Mk)(h:m.ok):AA [mkD m]=some (.bl true):=by obtain⟨h1,h2,h3,h4⟩:=h;refine ox (ρ:=[.im (mkD m)]) rfl ?_;unfold Ay;rw[n4 (show _=some (Out.nx [.im (mkD m)]) from rfl)];exact ou ((pA (zZ (x:=1) (y:=m.mo) (z:=3) rfl rfl rfl h1 h2)).trans (zZ (x:=0) (y:=m.st) (z:=m.mo) rfl rfl rfl h3 h4))
theorem Dr(M:List Mk)(hl:M.length<=4)(h:∀m∈M,m.ok):vv [MD M]=some .non:=by
 let ρ:aZ:=[.im (MD M),.im (.bl true)];refine wy (ρ:=ρ) rfl ?_;unfold vt;have e0:qe [MD M,ud]=some (.bl true):=by refine ox (ρ:=[.im (MD M),.im (.int 4)]) rfl ?_;refine ou ((pA rfl).trans (RI (x:=M.length) (y:=4) ?_ rfl (by omega)));refine pC rfl ?_;show some (D.int _)=_;rw[ah]
 rw[n4 (show _=some (Out.nx ρ) from(oH ((pA (n9 (ds:=[MD M,ud]) rfl e0)).trans (uS mkD M (ρ1:=[.im (MD M),.un]) rfl (by omega) λm hm=>⟨[.im (mkD m)],[.im (mkD m)],rfl,n9 rfl (IS m (h m hm)),rfl⟩))).trans rfl)];exact qG (ρ1:=ρ) rfl
def nmS(l c:Nat):Str:=gq ⟨#[98+l]⟩ (1+(c:Int))
def Nm(x:Str):Prop:=∃l c,l<25/\c<8/\x=nmS l c
def isT:Option L4.D->Bool
 |some (.bl b)=>b
 |_=>false
theorem NY(h:isT o=true):o=some (.bl true):=by
 unfold isT at h;split at h
 ·rw[h]
 ·cases h
theorem FC{p:Str->Bool}(h:((bz 25).all λl=>(bz 8).all λc=>p (nmS l c))=true){x:Str}(hx:Nm x):p x=true:=by obtain⟨l,c,hl,hc,rfl⟩:=hx;exact bC.mp (bC.mp h l (cq.mpr hl)) c (cq.mpr hc)
theorem IT(h:Nm x):yt [.str x]=some (.bl true):=NY (FC (p:=λx=>isT (yt [.str x])) (by kernel_rfl) h)
theorem IU(h:Nm x):sd [.str x]=some (.bl true):=NY (FC (p:=λx=>isT (sd [.str x])) (by kernel_rfl) h)
theorem Hg:sd [.str "red"]=some (.bl true):=by kernel_rfl
theorem Hh:sd [.str "old"]=some (.bl true):=by kernel_rfl
def noW(x:Str):Bool:=decide (x∉(["red", "old", "take", "drop", "open", "shut", "light", "douse", "put", "go", "wait", "in", "north", "up", "the", "a", "undo", "restart"]:aB))
theorem NZ(h:Nm x):x∉(["red", "old", "take", "drop", "open", "shut", "light", "douse", "put", "go", "wait", "in", "north", "up", "the", "a", "undo", "restart"]:aB):=bq (FC (p:=noW) (by kernel_rfl) h)
def sg(x:Str):Nat:=x.cps.getD 0 0
theorem Xl(hl:l<25)(hc:c<8):sg (nmS l c)=98+l:=by
 have h:((bz 25).all λl=>(bz 8).all λc=>sg (nmS l c)==98+l)=true:=by kernel_rfl
 exact gh (bC.mp (bC.mp h l (cq.mpr hl)) c (cq.mpr hc))
theorem Ds{l:aB}(h:l.Nodup)(hl:l.length<=1000):pV [.lst (l.map D.str)]=some (.bl true):=by
 refine ox (ρ:=[.im (.lst (l.map D.str))]) rfl ?_;refine ou (og (x:=.int l.length) (y:=.int l.length) (pC rfl (Qh (AW h hl))) (pC rfl ?_) ?_)
 ·show some (D.int _)=_;rw[ah]
 ·rw[sF];simp
theorem IV{l:aB}(h:l.Nodup)(hl:l.length<=1000):pV [.tup (l.map D.str)]=some (.bl true):=by
 refine ox (ρ:=[.im (.tup (l.map D.str))]) rfl ?_;refine ou (og (x:=.int l.length) (y:=.int l.length) (pC rfl (AW h hl)) (pC rfl ?_) ?_)
 ·show some (D.int _)=_;rw[ah]
 ·rw[sF];simp
theorem Dt(T:List Th)(M:List Mk)(hT:T.length<=400)(hM:M.length<=400)(hn:∀x∈T.map Th.n++M.map Mk.n,Nm x)(nd:(T.map Th.n++M.map Mk.n).Nodup):vA [TD T,MD M]=some .non:=by
 have hl:(T.map Th.n++M.map Mk.n).length<=1000:=by rw[aA,ah,ah];omega
 let ρ0:aZ:=[.im (TD T),.im (MD M),.un];let ρ:aZ:=[.im (TD T),.im (MD M),.im (.lst ((T.map Th.n++M.map Mk.n).map D.str))];refine wy (ρ:=ρ) rfl ?_;unfold vz;have e1:oT 1 [] (iL aa) (gN 0) pM (c1 (oN oX "name") aa) ρ0=some (T.map λt=>D.str t.n,ρ0):=xl thD (λt=>D.str t.n) T rfl (by omega) λt _=>⟨_,_,rfl,pC rfl (vH t),rfl⟩;have e2:oT 1 [] (iL ag) (gN 0) pM (c1 (oN oX "name") aa) ρ0=some (M.map λt=>D.str t.n,ρ0):=xl mkD (λt=>D.str t.n) M rfl (by omega) λt _=>⟨_,_,rfl,pC rfl (FB t),rfl⟩;have e3:=oH (i:=2) (pD (rX (pD e1) (pD e2) (by rw[ah,ah];omega)));refine(n4 (ρ':=ρ) (e3.trans (by
  have:(T.map λt=>D.str t.n)++(M.map λt=>D.str t.n)=(T.map Th.n++M.map Mk.n).map D.str:=by rw[aW,aV,aV];rfl
  rw[this];rfl))).trans ?_
 rw[n4 (qG (ρ1:=ρ) (uS D.str (T.map Th.n++M.map Mk.n) rfl hl λx hx=>⟨_,_,rfl,n9 rfl (IT (hn x hx)),rfl⟩))];exact qG (ρ1:=ρ) (n9 rfl (Ds nd hl))
def rmN(T:List Th):aB:=(T.filter λt=>decide (t.k=.room)).map Th.n
def hdN(T:List Th):aB:=(T.filter λt=>t.k.hd).map Th.n
abbrev eL:=(cC (.str "room"))
theorem Hk(T:List Th)(hl:T.length<=1000)(hi:cV i ρ=some (TD T,ρ)):oT 1 [] (iL (cV i)) (gN 0) (cT (c2 (dEq false) (c1 (oN pB "kind") aa) eL)) (c1 (oN oX "name") aa) ρ=some ((rmN T).map D.str,ρ):=by
 have hs:iL (cV i) ρ=some (T.map thD,ρ):=by unfold iL;rw[hi]
 have:=wZ (k:=1) (cap:=[]) (g:=gN 0) (ft:=cT (c2 (dEq false) (c1 (oN pB "kind") aa) eL)) (fe:=c1 (oN oX "name") aa) thD (λt=>D.str t.n) (λt=>decide (t.k=.room)) T hs hl λt _=>⟨[.im (thD t)],[.im (thD t)],rfl,ph (og (pC rfl (yb t)) rfl (BA t.k .room)),λ_=>⟨_,pC rfl (vH t),rfl⟩,λ_=>rfl⟩
 rw[this];unfold rmN;rw[aV];rfl
theorem IW(T:List Th)(hl:T.length<=1000)(hi:cV i ρ=some (TD T,ρ)):oT 1 [] (iL (cV i)) (gN 0) (cT (o6 pR "can_hold" aa oq)) (c1 (oN oX "name") aa) ρ=some ((hdN T).map D.str,ρ):=by
 have hs:iL (cV i) ρ=some (T.map thD,ρ):=by unfold iL;rw[hi]
 have:=wZ (k:=1) (cap:=[]) (g:=gN 0) (ft:=cT (o6 pR "can_hold" aa oq)) (fe:=c1 (oN oX "name") aa) thD (λt=>D.str t.n) (λt=>t.k.hd) T hs hl λt _=>⟨[.im (thD t)],[.im (thD t)],rfl,ph (o8 (xs:=[.str t.n,.tup (t.w.map D.str),.str t.k.s,oS t.s]) (ys:=[]) rfl rfl rfl rfl (J1 t)),λ_=>⟨_,pC rfl (vH t),rfl⟩,λ_=>rfl⟩
 rw[this];unfold hdN;rw[aV];rfl
theorem v3{x:Str}{l:aB}(h:x∈l):pK [.str x,.lst (l.map D.str)]=some (.bl true):=by refine ox (ρ:=[.im (.str x),.im (.lst (l.map D.str))]) rfl ?_;refine ou ((pA rfl).trans (og rfl rfl ?_));rw[uD];simp[h]
theorem DR(dk rm:aB)(hl:dk.length<=1000)(nd:dk.Nodup)(h:∀x∈dk,x∈rm):wC [.lst (dk.map D.str),.lst (rm.map D.str)]=some .non:=by let ρ0:aZ:=[.im (.lst (dk.map D.str)),.im (.lst (rm.map D.str)),.un];let ρ:aZ:=[.im (.lst (dk.map D.str)),.im (.lst (rm.map D.str)),.im (.bl true)];refine wy (ρ:=ρ) rfl ?_;unfold wB;rw[n4 (show _=some (Out.nx ρ) from(oH ((pA (ρ1:=ρ0) rfl).trans ((pA (uS D.str dk (ρ1:=ρ0) rfl hl λx hx=>⟨[.im (.str x),.im (.lst (rm.map D.str))],[.im (.str x),.im (.lst (rm.map D.str))],rfl,n9 rfl (v3 (h x hx)),rfl⟩)).trans (n9 (ρ1:=ρ0) rfl (Ds nd hl))))).trans rfl)];exact qG (ρ1:=ρ) rfl
def FD(T:List Th)(t:Th):Prop:=match t.k,t.s with
 |.room,none=>True
 |.room,some _=>False
 |_,none=>False
 |.you,some x=>x∈rmN T
 |_,some x=>x∈hdN T
theorem Hl(T:List Th)(hl:T.length<=1000)(t:Th)(h:FD T t):zb [TD T,thD t]=some (.bl true):=by
 refine ox (ρ:=[.im (TD T),.im (thD t)]) rfl ?_;unfold za;obtain⟨n,w,k,s⟩:=t;have els:∀k:Kd,k≠.room->k≠.you->∀x,x∈hdN T->(oe (sIf (cT (c2 (dEq false) (c1 (oN pB "kind") ag) eL)) (oj (c2 wj (c1 (oN qd "start") ag) aY)) oA)
   (oe (sIf (cT (c2 (dEq false) (c1 (oN pB "kind") ag) (cC (.str "you")))) (oj (oa pK (nY (c1 (oN qd "start") ag) (nY (cL (oT 1 [] (iL aa) (gN 0) (cT (c2 (dEq false) (c1 (oN pB "kind") aa) eL)) (c1 (oN oX "name") aa))) oq)))) oA)
   (oj (oa pK (nY (c1 (oN qd "start") ag) (nY (cL (oT 1 [] (iL aa) (gN 0) (cT (o6 pR "can_hold" aa oq)) (c1 (oN oX "name") aa))) oq)))))) [.im (TD T),.im (thD ⟨n,w,k,some x⟩)]=some (.rt (.bl true) [.im (TD T),.im (thD ⟨n,w,k,some x⟩)]):=λk h1 h2 x hx=>by
  let ρ:aZ:=[.im (TD T),.im (thD ⟨n,w,k,some x⟩)];rw[n4 (show _=some (Out.nx ρ) from(oM (ρ':=ρ) (ph (og (ρ1:=ρ) (ρ2:=ρ) (pC rfl (yb _)) rfl ((BA k .room).trans (by rw[aH h1]))))).trans rfl)];rw[n4 (show _=some (Out.nx ρ) from(oM (ρ':=ρ) (ph (og (ρ1:=ρ) (ρ2:=ρ) (pC rfl (yb _)) rfl ((BA k .you).trans (by rw[aH h2]))))).trans rfl)];exact ou (n9 (nZ (pC rfl (Fy _)) (nZ (pD (IW T hl rfl)) rfl)) (v3 hx))
 cases k with
 |room=>
  cases s with
  |none=>rfl
  |some x=>exact h.elim
 |you=>
  cases s with
  |none=>exact h.elim
  |some x=>let ρ:aZ:=[.im (TD T),.im (thD ⟨n,w,.you,some x⟩)];rw[n4 (show _=some (Out.nx ρ) from rfl)];refine oO ((oV (ρ':=ρ) rfl).trans ?_);exact ou (n9 (nZ (pC rfl (Fy _)) (nZ (pD (Hk T hl rfl)) rfl)) (v3 h))
 |plain=>cases s with
  |none=>exact h.elim
  |some x=>exact els .plain (by decide) (by decide) x h
 |fixed=>cases s with
  |none=>exact h.elim
  |some x=>exact els .fixed (by decide) (by decide) x h
 |box=>cases s with
  |none=>exact h.elim
  |some x=>exact els .box (by decide) (by decide) x h
 |lamp=>cases s with
  |none=>exact h.elim
  |some x=>exact els .lamp (by decide) (by decide) x h
def kS(x:Str):Key:=Sum.inr x
theorem yc(h1:fv ρ=some (d,ρ))(h2:ρ[i]?=some (.dk ks ds))(h3:fk ρ=some (.str x,ρ))(hn:kS x∉ks)(hl:ks.length<1000)(he:ds.length=ks.length):
  pF i fk fv ρ=some (.nx (ρ.set i (.dk (ks++[kS x]) (ds++[d])))):=by
 have hk:Cs ks (kS x)=false:=by unfold Cs;rw[hJ];intro z;obtain⟨y,hy,ey⟩:=eY.mp z;exact hn (by rw[<-bq ey];exact hy)
 unfold pF;rw[h1];simp only[h2,h3];rw[show Am (.str x)=some (kS x) from rfl];simp only;rw[ai hl,ai he,hk];rfl
section
variable{α:Type}{g:FG}{i:Nat}{fk fv:FE}
theorem v5(dd:α->L4.D)(kf:α->Str)(vf:α->L4.D)(st:List Key->List L4.D->Sl->aZ)
  (hs:∀(a:α) (ks:List Key) (ds:List L4.D) (s:Sl),∃ρ1,g (dd a) (st ks ds s)=some ρ1/\fv ρ1=some (vf a,ρ1)/\ρ1[i]?=some (.dk ks ds)/\fk ρ1=some (.str (kf a),ρ1)/\∀ks' ds',∃s',ρ1.set i (.dk ks' ds')=st ks' ds' s'):
  ∀(l:List α) (ks:List Key) (ds:List L4.D) (s:Sl),(ks++l.map λa=>kS (kf a)).Nodup->ks.length+l.length<=1000->ds.length=ks.length->
   ∃s',forL g (pF i fk fv) (l.map dd) (st ks ds s)=some (.nx (st (ks++l.map λa=>kS (kf a)) (ds++l.map vf) s'))
 |[],ks,ds,s,_,_,_=>⟨s,by rw[bI,bI,bI,bt,bt];rfl⟩
 |a::l,ks,ds,s,nd,hl,he=>by
  obtain⟨ρ1,h1,h2,h3,h4,h5⟩:=hs a ks ds s;obtain⟨s1,h6⟩:=h5 (ks++[kS (kf a)]) (ds++[vf a]);rw[aE]at hl;have nd':((ks++[kS (kf a)])++l.map λa=>kS (kf a)).Nodup:=by rw[bB];exact nd
  have hn:kS (kf a)∉ks:=λz=>by rw[bX]at nd;exact nd.2.2 _ z _ (by rw[ay];exact ba) rfl
  obtain⟨s',h7⟩:=v5 dd kf vf st hs l (ks++[kS (kf a)]) (ds++[vf a]) s1 nd' (by rw[aA,bb];omega) (by rw[aA,aA,he,bb,bb]);refine⟨s',?_⟩;rw[ay];unfold forL;rw[h1];simp only[yc h2 h3 h4 hn (by omega) he,h6];rw[h7,ay,ay,bB,bB];rfl
end
def nK(T:List Th):List Key:=T.map λt=>kS t.n
theorem N0(h:kS a=kS b):a=b:=ip h
theorem J3{T:List Th}(h:(T.map Th.n).Nodup):(nK T).Nodup:=by have:=uv h;rw[aV]at this;exact this
theorem J4{T:List Th}(h:(T.map Th.n).Nodup)(vf:Th->L4.D){t:Th}(ht:t∈T):sU (nK T) (T.map vf) (kS t.n)=some (vf t):=by refine zB (J3 h) ?_;unfold nK;rw[jS];exact cp (f:=λt=>(kS t.n,vf t)) ht
def IY(T:List Th)(r:Str->Nat):Prop:=∀t∈T,r t.n<T.length/\∀p,t.s=some p->r p<r t.n/\∃u∈T,u.n=p
def stD(T:List Th):L4.D:=.dic (nK T) (T.map λt=>oS t.s)
theorem N1(T:List Th)(hl:T.length<=1000)(nd:(T.map Th.n).Nodup)(r:Str->Nat)(hr:IY T r)(t:Th)(ht:t∈T):tW [stD T,.str t.n]=some (.bl true):=by
 have loop:∀(m:Nat) (l:List L4.D),l.length=m->∀(a:Option Str) (s:Sl),(∀x,a=some x->(∃u∈T,u.n=x)/\r x<m)->
   (∃ρ,forL (gN 3) (oe (sIf (cT (c2 wj ar aY)) (oj cE) oA) (oP 2 (c2 qt aa ar))) l [.im (stD T),.im (.str t.n),.im (oS a),s]=some (.rt (.bl true) ρ))\/
   (∃s',forL (gN 3) (oe (sIf (cT (c2 wj ar aY)) (oj cE) oA) (oP 2 (c2 qt aa ar))) l [.im (stD T),.im (.str t.n),.im (oS a),s]=some (.nx [.im (stD T),.im (.str t.n),.im .non,s'])):=by
  intro m
  induction m with
  |zero=>
   intro l h a s ha;cases l with
   |cons d l=>cases h
   |nil=>
    cases a with
    |none=>exact .inr ⟨s,rfl⟩
    |some x=>exact ao (ha x rfl).2 (mJ _)
  |succ m ih=>
   intro l h a s ha;cases l with
   |nil=>cases h
   |cons d l=>
    cases a with
    |none=>refine .inl ⟨[.im (stD T),.im (.str t.n),.im .non,.im d],?_⟩;unfold forL;rw[show gN 3 d [.im (stD T),.im (.str t.n),.im (oS none),s]=some [.im (stD T),.im (.str t.n),.im .non,.im d] from rfl];rfl
    |some x=>
     obtain⟨⟨u,hu,rfl⟩,hx⟩:=ha x rfl;have e:oe (sIf (cT (c2 wj ar aY)) (oj cE) oA) (oP 2 (c2 qt aa ar)) [.im (stD T),.im (.str t.n),.im (.str u.n),.im d]=some (.nx [.im (stD T),.im (.str t.n),.im (oS u.s),.im d]):=by refine(n4 (ρ':=[.im (stD T),.im (.str t.n),.im (.str u.n),.im d]) rfl).trans ?_;exact(oH (og rfl rfl (J4 nd (λt=>oS t.s) hu))).trans rfl
     have key:=ih l (by simpa using h) u.s (.im d) λy hy=>by obtain⟨h1,h2⟩:=hr u hu;obtain⟨h3,h4⟩:=h2 y hy;exact⟨h4,by omega⟩
     unfold forL;rw[show gN 3 d [.im (stD T),.im (.str t.n),.im (oS (some u.n)),s]=some [.im (stD T),.im (.str t.n),.im (.str u.n),.im d] from rfl];simp only[e];exact key
 obtain⟨h1,h2⟩:=hr t ht;have l0:=loop T.length (Cj 0 T.length) (by unfold Cj;simp) t.s .un λx hx=>⟨(h2 x hx).2,by have:=(h2 x hx).1;omega⟩;have e0:oP 2 (c2 qt aa ag) [.im (stD T),.im (.str t.n),.un,.un]=some (.nx [.im (stD T),.im (.str t.n),.im (oS t.s),.un]):=(oH (og rfl rfl (J4 nd (λt=>oS t.s) ht))).trans rfl;have e1:iR1 (c1 p9 aa) [.im (stD T),.im (.str t.n),.im (oS t.s),.un]=some (Cj 0 T.length,[.im (stD T),.im (.str t.n),.im (oS t.s),.un]):=by unfold iR1;rw[show c1 p9 aa [.im (stD T),.im (.str t.n),.im (oS t.s),.un]=some (.int T.length,[.im (stD T),.im (.str t.n),.im (oS t.s),.un]) from pC rfl (by show some (D.int _)=_;unfold nK;rw[ah])];simp only;rw[ai (by omega),hG]
 rcases l0 with ⟨ρ,q⟩|⟨s',q⟩
 ·refine ox (ρ:=ρ) rfl ?_;refine(n4 e0).trans (oO ((qp e1).trans q))
 ·refine ox (ρ:=[.im (stD T),.im (.str t.n),.im .non,s']) rfl ?_;refine(n4 e0).trans ((n4 ((qp e1).trans q)).trans rfl)
theorem BK(T:List Th)(hl:T.length<=900)(nd:(T.map Th.n).Nodup)(r:Str->Nat)(hr:IY T r)(hs:∀t∈T,FD T t):uO [TD T]=some .non:=by
 obtain⟨s',e1⟩:=v5 (g:=gN 2) (i:=1) (fk:=c1 (oN oX "name") ar) (fv:=c1 (oN qd "start") ar) thD Th.n (λt=>oS t.s) (λks ds s=>[.im (TD T),.dk ks ds,s])
  (λt ks ds s=>⟨[.im (TD T),.dk ks ds,.im (thD t)],rfl,pC rfl (Fy t),rfl,pC rfl (vH t),λks' ds'=>⟨_,rfl⟩⟩) T [] [] .un (by rw[bK];exact J3 nd) (by simp;omega) rfl
 refine wy (ρ:=[.im (TD T),.im (stD T),s']) rfl ?_;unfold uN;refine(n4 (qG (ρ1:=[.im (TD T),.un,.un]) (uS thD T rfl (by omega) λt ht=>⟨[.im (thD t),.im (TD T)],[.im (thD t),.im (TD T)],rfl,n9 rfl (Hl T (by omega) t (hs t ht)),rfl⟩))).trans ?_;refine(n4 (ρ':=[.im (TD T),.dk [] [],.un]) rfl).trans ?_;refine(n4 ((qp rfl).trans e1)).trans ?_;have src:iD (cFz 1) [.im (TD T),.dk ([]++T.map λa=>kS a.n) ([]++T.map λt=>oS t.s),s']=some ((T.map λt=>D.str t.n),[.im (TD T),.im (stD T),s']):=by rw[bK,bK];unfold iD;rw[show cFz 1 [.im (TD T),.dk (T.map λa=>kS a.n) (T.map λt=>oS t.s),s']=some (stD T,[.im (TD T),.im (stD T),s']) from rfl];show (if (nK T).length=(T.map λt=>oS t.s).length then some ((nK T).map Iu,_)else none)=_;unfold nK;rw[ai (by rw[ah,ah]),aV];rfl
 exact qG (ρ1:=[.im (TD T),.im (stD T),s']) (uS (λt:Th=>D.str t.n) T src (by omega) λt ht=>⟨[.im (.str t.n),.im (stD T)],[.im (.str t.n),.im (stD T)],rfl,n9 rfl (N1 T (by omega) nd r hr t ht),rfl⟩)
def EG:List aB:=[[],["red"],["old", "red"]]
def q9(t:Th):Prop:=Nm t.n/\∃m∈EG,t.w=t.n::m
theorem sr{t:Th}(h:q9 t):t.w=[t.n]\/t.w=[t.n,"red"]\/t.w=[t.n,"old", "red"]:=by
 obtain⟨_,m,hm,e⟩:=h;unfold EG at hm;simp only[aM,bO,or_false]at hm;rcases hm with rfl|rfl|rfl
 ·exact .inl e
 ·exact .inr (.inl e)
 ·exact .inr (.inr e)
theorem AF{t:Th}(h:q9 t)(hx:x∈t.w):x=t.n\/x="red" \/ x="old" := by
 rcases sr h with e|e|e<;>rw[e]at hx<;>simp only[aM,bO,or_false]at hx
 ·exact .inl hx
 ·rcases hx with h|h
  ·exact .inl h
  ·exact .inr (.inl h)
 ·rcases hx with h|h|h
  ·exact .inl h
  ·exact .inr (.inr h)
  ·exact .inr (.inl h)
theorem RJ(h:Nm x):x≠"red" /\ x≠"old" := by have:=NZ h;exact⟨λz=>this (by rw[z];decide),λz=>this (by rw[z];decide)⟩
theorem FH{t:Th}(h:q9 t):xO [.tup (t.w.map D.str)]=some (.bl true):=by
 have hn:=h.1;obtain⟨n1,n2⟩:=RJ hn;have len:1<=t.w.length/\t.w.length<=4:=by rcases sr h with e|e|e<;>rw[e]<;>simp
 have nd:t.w.Nodup:=by
  rcases sr h with e|e|e<;>rw[e]
  ·simp
  ·simp[n1]
  ·simp[n1,n2];decide
 let ρ:aZ:=[.im (.tup (t.w.map D.str))];refine ox (ρ:=ρ) rfl ?_;unfold xN;have e1:rW uT uT aJ (c1 p9 aa) (cC wz) ρ=some (.bl true,ρ):=zZ (x:=1) (y:=t.w.length) (z:=4) rfl (pC rfl (by show some (D.int _)=_;rw[ah])) rfl (by omega) (by omega);refine(n4 (ρ':=ρ) ((oM (ρ':=ρ) (rQ (ρ1:=ρ) rfl (sC (ph e1)))).trans rfl)).trans ?_;refine ou ((pA (uS D.str t.w (ρ1:=ρ) rfl (by omega) λx hx=>⟨_,_,rfl,n9 rfl ?_,rfl⟩)).trans (n9 rfl (IV nd (by omega))));rcases AF h hx with rfl|rfl|rfl
 ·exact IU hn
 ·exact Hg
 ·exact Hh
theorem IZ(t u:Th)(ht:q9 t)(hu:q9 u)(hne:u.n≠t.n):yu [.tup (u.w.map D.str),.tup (t.w.map D.str)]=some (.bl false):=by
 obtain⟨n1,n2⟩:=RJ ht.1;have hl:t.w.length<=1000:=by rcases sr ht with e|e|e<;>rw[e]<;>simp
 let ρ:aZ:=[.im (.tup (u.w.map D.str)),.im (.tup (t.w.map D.str))];refine ox (ρ:=ρ) rfl ?_;refine ou (pC (pD (xl D.str (λx=>.bl (decide (x∈u.w))) t.w (ρ1:=ρ) rfl hl λx _=>⟨_,_,rfl,og rfl rfl (GZ false x u.w),rfl⟩)) ?_);rw[JW];have:t.w.all (λx=>decide (x∈u.w))=false:=by
  rw[hJ];intro z;have:=bq (bC.mp z t.n (by rcases sr ht with e|e|e<;>rw[e]<;>simp));rcases AF hu this with h|h|h
  ·exact hne h.symm
  ·exact n1 h
  ·exact n2 h
 rw[this]
theorem DS(P:List Th)(hl:P.length<=900)(hw:∀t∈P,q9 t)(t:Th)(ht:q9 t):tY [TD P,thD t]=some (.bl true):=by
 let O:=P.filter λu=>!decide (u.n=t.n);let ρ:aZ:=[.im (TD P),.im (thD t),.im (TD O)];have hO:O.length<=900:=bL (fQ _ _) hl;refine ox (ρ:=ρ) rfl ?_;unfold tX;refine(n4 (ρ':=ρ) ((oH (pD (wZ thD thD (λu=>!decide (u.n=t.n)) P (ρ1:=[.im (TD P),.im (thD t),.un]) rfl (by omega) λu _=>⟨[.im (thD u),.im (thD t)],[.im (thD u),.im (thD t)],rfl,ph (og (pC rfl (vH u)) (pC rfl (vH t)) (uc true u.n t.n)),λ_=>⟨_,rfl,rfl⟩,λ_=>rfl⟩))).trans rfl)).trans ?_;have e:c1 BH (cL (oT 1 [1] (iL ar) (gN 0) pM (oa yu (nY (c1 (oN qN "words") aa) (nY (c1 (oN qN "words") ag) oq))))) ρ=some (.bl false,ρ):=
  NX thD O rfl (by omega) λu hu=>⟨[.im (thD u),.im (thD t)],[.im (thD u),.im (thD t)],rfl,n9 (nZ (pC rfl (Fw u)) (nZ (pC rfl (Fw t)) rfl)) (IZ t u ht (hw u (bS.mp hu).1) (by simpa using (bS.mp hu).2)),rfl⟩
 refine ou ?_;unfold BF;rw[e];rfl
theorem Du(T:List Th)(hl:T.length<=900)(hw:∀t∈T,q9 t):qE [TD T]=some .non:=by let P:=T.filter λt=>t.k.pl;have hP:P.length<=900:=bL (fQ _ _) hl;have hwP:∀t∈P,q9 t:=λt ht=>hw t (bS.mp ht).1;let ρ:aZ:=[.im (TD T),.im (TD P)];refine wy (ρ:=ρ) rfl ?_;unfold qD;refine(n4 (qG (ρ1:=[.im (TD T),.un]) (uS thD T rfl (by omega) λt ht=>⟨[.im (thD t)],[.im (thD t)],rfl,n9 (nZ (pC rfl (Fw t)) rfl) (FH (hw t ht)),rfl⟩))).trans ?_;refine(n4 (ρ':=ρ) ((oH (pD (n9 rfl (vJ T (by omega))))).trans rfl)).trans ?_;exact qG (ρ1:=ρ) (uS thD P rfl (by omega) λt ht=>⟨[.im (thD t),.im (TD P)],[.im (thD t),.im (TD P)],rfl,n9 rfl (DS P hP hwP t (hwP t ht)),rfl⟩)
def yQ(n f:Str)(j:L4.D):L4.D:=.obj 2 ["name", "others", "form", "joining"] [.str n,.tup [],.str f,j]
def pL:List L4.D:=[yQ "take" "one" .non,yQ "drop" "one" .non,yQ "open" "one" .non,yQ "shut" "one" .non,yQ "light" "one" .non,yQ "douse" "one" .non,yQ "put" "two" (.str "in"),yQ "go" "way" .non,yQ "wait" "alone" .non]
theorem Hm:qF []=some pL:=by kernel_rfl
def vN:aB:=["take", "drop", "open", "shut", "light", "douse", "put", "go", "wait"]
def vI:aB:=["take", "drop", "open", "shut", "light", "douse", "put", "go", "wait", "in", "north", "up"]
theorem QI(h:e ρ=some (.bl b,ρ1)):BF e ρ=some (.bl !b,ρ1):=by unfold BF;rw[h]
theorem N2{l m:aB}(hd:d=.lst (m.map D.str)\/d=.tup (m.map D.str))(hl:l.length<=900)(h:∀x∈l,x∉m):tQ [.lst (l.map D.str),d]=some (.bl true):=by
 let ρ:aZ:=[.im (.lst (l.map D.str)),.im d];refine ox (ρ:=ρ) rfl ?_;have e:c1 BH (cL (oT 1 [1] (iL aa) (gN 0) pM (c2 (dIn false) aa ag))) ρ=some (.bl false,ρ):=NX D.str l rfl (by omega) λx hx=>⟨[.im (.str x),.im d],[.im (.str x),.im d],rfl,og rfl rfl (by
  rcases hd with rfl|rfl
  ·rw[uD];simp[h x hx]
  ·rw[GZ];simp[h x hx]),rfl⟩
 exact ou (QI e)
theorem Lv{t:Th}(h:q9 t):t.w.length<=3:=by rcases sr h with e|e|e<;>rw[e]<;>simp
theorem Dv:∀(P:List Th) (acc:aB) (s:Sl),acc.length+3 * P.length<=900->(∀t∈P,q9 t)->
  ∃s',forL (gN 4) (o9 (AS 3 (c1 (oN qN "words") av))) (P.map thD) [a,b,c,.ls (acc.map D.str),s,s5,s6,s7]=some (.nx [a,b,c,.ls ((acc++P.flatMap Th.w).map D.str),s',s5,s6,s7])
 |[],acc,s,_,_=>⟨s,by simp;rfl⟩
 |t::P,acc,s,hl,hw=>by
  have h3:=Lv (hw t ba);rw[aE]at hl;obtain⟨s',e⟩:=Dv P (acc++t.w) (.im (thD t)) (by rw[aA];omega) λu hu=>hw u (bh _ hu);refine⟨s',?_⟩;rw[ay];unfold forL;have e1:o9 (AS 3 (c1 (oN qN "words") av)) [a,b,c,.ls (acc.map D.str),.im (thD t),s5,s6,s7]=some (.nx [a,b,c,.ls ((acc++t.w).map D.str),.im (thD t),s5,s6,s7]):=by refine(pU (d:=.non) (ρ':=[a,b,c,.ls ((acc++t.w).map D.str),.im (thD t),s5,s6,s7]) ?_);unfold AS;show (if (acc.map D.str).length+(t.w.map D.str).length<=1000 then some (D.non,[a,b,c,.ls (acc.map D.str++t.w.map D.str),.im (thD t),s5,s6,s7])else none)=_;rw[ai (by rw[ah,ah];omega),aW]
  rw[show gN 4 (thD t) [a,b,c,.ls (acc.map D.str),s,s5,s6,s7]=some [a,b,c,.ls (acc.map D.str),.im (thD t),s5,s6,s7] from rfl];simp only[e1];rw[e,List.flatMap_cons,bB]
def wyD(r0 r1:Str):List L4.D:=[.tup [.str r0,.str "north", .str r1,.non],.tup [.str r0,.str "up", .str r0,.non]]
def wyT(T:List Th):List L4.D:=wyD ((rmN T).headD "") ((rmN T).getLastD "")
theorem VD{T:List Th}(h:1<=(T.filter λt=>decide (t.k=.room)).length):(rmN T).headD "" ∈ rmN T:=by
 have:1<=(rmN T).length:=by unfold rmN;rw[ah];exact h
 cases e:rmN T with
 |nil=>rw[e]at this;cases this
 |cons a r=>exact ba ..
theorem VE{T:List Th}(h:1<=(T.filter λt=>decide (t.k=.room)).length):(rmN T).getLastD "" ∈ rmN T:=by
 have:1<=(rmN T).length:=by unfold rmN;rw[ah];exact h
 have hn:rmN T≠[]:=λe=>by rw[e]at this;cases this
 rw[lb,List.getLast?_eq_some_getLast hn];exact List.getLast_mem hn
theorem I0(r0:Str):pV [.lst [.tup [.str r0,.str "north"],.tup [.str r0,.str "up"]]]=some (.bl true):=by refine ox (ρ:=[.im (.lst [.tup [.str r0,.str "north"],.tup [.str r0,.str "up"]])]) rfl (ou (og (x:=.int 2) (y:=.int 2) (pC rfl ?_) rfl rfl));show (if ([Sum.inr r0,Sum.inr "north"]:List Key)=[Sum.inr r0,Sum.inr "up"]then none else some (D.int 2))=_;rw[aj λe=>ao (ip (jR (jR e).2).1) (by decide:¬(("north" : Str)="up"))]
theorem Lw{a b x:Str}{R:aB}{mn:List L4.D}(h0:a∈R)(h1:b∈R)(hx:sd [.str x]=some (.bl true)):De [.tup [.str a,.str x,.str b,.non],.lst (R.map D.str),.lst mn]=some (.bl true):=by let ρ:aZ:=[.im (.tup [.str a,.str x,.str b,.non]),.im (.lst (R.map D.str)),.im (.lst mn),.im (.bl true)];refine ox (ρ:=ρ) rfl ?_;unfold Dd;refine(n4 (ρ':=[.im (.tup [.str a,.str x,.str b,.non]),.im (.lst (R.map D.str)),.im (.lst mn),.un]) rfl).trans ?_;refine(n4 (ρ':=ρ) rfl).trans ?_;exact ou ((pA (n9 (ρ1:=ρ) rfl (v3 h0))).trans ((pA (n9 (ρ1:=ρ) rfl hx)).trans ((pA (n9 (ρ1:=ρ) rfl (v3 h1))).trans rfl)))
theorem DT(R:aB)(mn:List L4.D)(h0:r0∈R)(h1:r1∈R):uf [.lst (wyD r0 r1),.lst (R.map D.str),.lst mn]=some .non:=by
 let ρ0:aZ:=[.im (.lst (wyD r0 r1)),.im (.lst (R.map D.str)),.im (.lst mn),.un];let ρ:aZ:=[.im (.lst (wyD r0 r1)),.im (.lst (R.map D.str)),.im (.lst mn),.im (.bl true)];refine wy (ρ:=ρ) rfl ?_;unfold wD;rw[n4 (show _=some (Out.nx ρ) from(oH ((pA (ρ1:=ρ0) rfl).trans (uS (λz:Str×Str=>D.tup [.str r0,.str z.1,.str z.2,.non]) [("north", r1),("up", r0)] (ρ1:=ρ0) rfl (bE rfl) λz hz=>
  ⟨[.im (.tup [.str r0,.str z.1,.str z.2,.non]),.im (.lst (R.map D.str)),.im (.lst mn)],[.im (.tup [.str r0,.str z.1,.str z.2,.non]),.im (.lst (R.map D.str)),.im (.lst mn)],rfl,n9 rfl (Lw h0 (by
   rcases aM.mp hz with rfl|hz
   ·exact h1
   ·rw[aO.mp hz];exact h0) (by
   rcases aM.mp hz with rfl|hz
   ·kernel_rfl
   ·rw[aO.mp hz];kernel_rfl)),rfl⟩))).trans rfl)]
 refine(n4 (qG (ρ1:=ρ) rfl)).trans ?_;exact qG (ρ1:=ρ) (n9 (ds:=[.lst [.tup [.str r0,.str "north"],.tup [.str r0,.str "up"]]]) (nZ (by kernel_rfl) rfl) (I0 r0))
theorem Dw(T:List Th)(hl:T.length<=200)(hw:∀t∈T,q9 t):qH [TD T,.lst (wyT T),.lst pL]=some .non:=by
 let P:=T.filter λt=>t.k.pl;have hP:P.length<=200:=bL (fQ _ _) hl;have hwP:∀t∈P,q9 t:=λt ht=>hw t (bS.mp ht).1;obtain⟨s',e1⟩:=Dv (a:=.im (TD T)) (b:=.im (.lst (wyT T))) (c:=.im (.lst pL)) (s5:=.un) (s6:=.un) (s7:=.un) P [] .un (by simp;omega) hwP;let O:=P.flatMap Th.w;let m1:Sl:=.ls (O.map D.str);let z:Sl:=.im (yQ "wait" "alone" .non);refine wy (ρ:=[.im (TD T),.im (.lst (wyT T)),.im (.lst pL),.im (.lst (O.map D.str)),s',.im (.lst (vN.map D.str)),z,.im (.lst [.str "in", .str "north", .str "up"])]) rfl ?_;unfold r9;refine(n4 (ρ':=[.im (TD T),.im (.lst (wyT T)),.im (.lst pL),.ls [],.un,.un,.un,.un]) rfl).trans ?_;refine(n4 (ρ':=[.im (TD T),.im (.lst (wyT T)),.im (.lst pL),m1,s',.un,.un,.un]) ((qp (ds:=P.map thD) (ρ1:=[.im (TD T),.im (.lst (wyT T)),.im (.lst pL),.ls [],.un,.un,.un,.un]) ?_).trans e1)).trans ?_
 ·unfold iL;rw[pD (n9 (g:=rL) (ds:=[TD T]) (ρ1:=[.im (TD T),.im (.lst (wyT T)),.im (.lst pL),.ls [],.un,.un,.un,.un]) rfl (vJ T (by omega)))]
 refine(n4 (ρ':=[.im (TD T),.im (.lst (wyT T)),.im (.lst pL),m1,s',.ls [],.un,.un]) rfl).trans ?_;refine(n4 (ρ':=[.im (TD T),.im (.lst (wyT T)),.im (.lst pL),m1,s',.ls (vN.map D.str),z,.un]) (by kernel_rfl)).trans ?_;refine(n4 (ρ':=[.im (TD T),.im (.lst (wyT T)),.im (.lst pL),m1,s',.ls (vN.map D.str),z,.im (.lst [.str "in", .str "north", .str "up"])]) (by kernel_rfl)).trans ?_;refine(n4 (qG (ρ1:=[.im (TD T),.im (.lst (wyT T)),.im (.lst pL),m1,s',.im (.lst (vN.map D.str)),z,.im (.lst [.str "in", .str "north", .str "up"])]) (by kernel_rfl))).trans ?_;have no:∀x∈vI,x∉O:=λx hx ho=>by
  obtain⟨t,ht,hxt⟩:=List.mem_flatMap.mp ho;have hn:=(hwP t ht).1;rcases AF (hwP t ht) hxt with rfl|rfl|rfl
  ·have sub:∀x∈vI,x∈(["red", "old", "take", "drop", "open", "shut", "light", "douse", "put", "go", "wait", "in", "north", "up", "the", "a", "undo", "restart"]:aB):=by decide
   exact NZ hn (sub _ hx)
  ·exact ao hx (by decide)
  ·exact ao hx (by decide)
 have a1:=N2 (l:=vI) (m:=O) (.inl rfl) (by decide) no;refine(n4 (qG (ρ1:=[.im (TD T),.im (.lst (wyT T)),.im (.lst pL),.im (.lst (O.map D.str)),s',.im (.lst (vN.map D.str)),z,.im (.lst [.str "in", .str "north", .str "up"])]) (n9 (nZ (d:=.lst (vI.map D.str)) (ρ1:=[.im (TD T),.im (.lst (wyT T)),.im (.lst pL),m1,s',.im (.lst (vN.map D.str)),z,.im (.lst [.str "in", .str "north", .str "up"])]) (by kernel_rfl) (nZ rfl rfl)) a1))).trans ?_;refine(n4 (qG (ρ1:=[.im (TD T),.im (.lst (wyT T)),.im (.lst pL),.im (.lst (O.map D.str)),s',.im (.lst (vN.map D.str)),z,.im (.lst [.str "in", .str "north", .str "up"])]) (by kernel_rfl))).trans ?_;exact qG (by kernel_rfl)
structure Good(T:List Th)(M:List Mk)(dk:aB):Prop where
 len:T.length<=200
 r1:1<=(T.filter λt=>decide (t.k=.room)).length
 r5:(T.filter λt=>decide (t.k=.room)).length<=5
 y1:(T.filter λt=>decide (t.k=.you)).length=1
 p7:(T.filter λt=>t.k.pl).length<=7
 m4:M.length<=4
 mo:∀m∈M,m.ok
 nm:∀x∈T.map Th.n++M.map Mk.n,Nm x
 nd:(T.map Th.n++M.map Mk.n).Nodup
 st:∀t∈T,FD T t
 rk:∃r,IY T r
 wd:∀t∈T,q9 t
 d0:dk.length<=5
 d1:dk.Nodup
 d2:∀x∈dk,x∈rmN T
theorem Good.ndT(g:Good T M dk):(T.map Th.n).Nodup:=(bX.mp g.nd).1
theorem DU(T:List Th)(M:List Mk)(hl:T.length<=200)(hM:M.length<=4):∃l,ue [TD T,MD M]=some l:=by
 let ρ:aZ:=[.im (TD T),.im (MD M)];refine⟨_,yY (ρ:=ρ) rfl (ym (rX (pD (wZ thD (λt=>D.str t.n) (λt=>t.k.mk) T (ρ1:=ρ) rfl (by omega) λt _=>⟨[.im (thD t)],[.im (thD t)],rfl,ph (o8 (xs:=[.str t.n,.tup (t.w.map D.str),.str t.k.s,oS t.s]) (ys:=[]) rfl rfl rfl rfl (J2 t)),λ_=>⟨_,pC rfl (vH t),rfl⟩,λ_=>rfl⟩))
  (pD (xl mkD (λt=>D.str t.n) M rfl (by omega) λt _=>⟨_,_,rfl,pC rfl (FB t),rfl⟩)) ?_))⟩
 have:=fQ (λt:Th=>t.k.mk) T;rw[ah,ah];omega
theorem Dx(g:Good T M dk):vE [TD T,MD M,.lst (dk.map D.str),.lst (wyT T),.lst [],.lst pL]=some .non:=by
 have hl:=g.len;have hdk:dk.length<=1000:=by have:=g.d0;omega
 obtain⟨r,hr⟩:=g.rk;obtain⟨mn,emn⟩:=DU T M hl g.m4;let ρ0:aZ:=[.im (TD T),.im (MD M),.im (.lst (dk.map D.str)),.im (.lst (wyT T)),.im (.lst []),.im (.lst pL),.un];let ρ:aZ:=[.im (TD T),.im (MD M),.im (.lst (dk.map D.str)),.im (.lst (wyT T)),.im (.lst []),.im (.lst pL),.im (.lst ((rmN T).map D.str))];refine wy (ρ:=ρ) rfl ?_;unfold vC;refine(n4 (pU (ρ':=ρ0) (n9 rfl (BJ T (by omega) g.r1 g.r5 g.y1 g.p7)))).trans ?_;refine(n4 (pU (ρ':=ρ0) (n9 rfl (Dr M g.m4 g.mo)))).trans ?_;refine(n4 (pU (ρ':=ρ0) (n9 rfl (Dt T M (by omega) (by have:=g.m4;omega) g.nm g.nd)))).trans ?_;refine(n4 (pU (ρ':=ρ0) (n9 rfl (BK T (by omega) g.ndT r hr g.st)))).trans ?_;refine(n4 (pU (ρ':=ρ0) (n9 rfl (Du T (by omega) g.wd)))).trans ?_;refine(n4 (ρ':=ρ) ((oH (pD (Hk T (by omega) rfl))).trans rfl)).trans ?_;refine(n4 (pU (ρ':=ρ) (n9 rfl (DR dk (rmN T) hdk g.d1 g.d2)))).trans ?_;have cw:uf [.lst (wyT T),.lst ((rmN T).map D.str),.lst mn]=some .non:=DT (rmN T) mn (VD g.r1) (VE g.r1);refine(n4 (pU (ρ':=ρ) (n9 (nZ rfl (nZ rfl (nZ (pD (n9 (g:=ue) (ds:=[TD T,MD M]) rfl emn)) rfl))) cw))).trans ?_;refine(n4 (pU (ρ':=ρ) (n9 (g:=vB) (ds:=[.lst []]) (r:=.non) rfl (by kernel_rfl)))).trans ?_;exact pU (ρ':=ρ) (n9 (g:=qH) (ds:=[TD T,.lst (wyT T),.lst pL]) rfl (Dw T hl g.wd))
theorem Ja(T:List Th)(hl:T.length<=900)(nd:(T.map Th.n).Nodup):AC [TD T]=some (.dic (nK T) (T.map thD)):=by
 obtain⟨s',e1⟩:=v5 (g:=gN 2) (i:=1) (fk:=c1 (oN oX "name") ar) (fv:=cV 2) thD Th.n thD (λks ds s=>[.im (TD T),.dk ks ds,s])
  (λt ks ds s=>⟨[.im (TD T),.dk ks ds,.im (thD t)],rfl,rfl,rfl,pC rfl (vH t),λks' ds'=>⟨_,rfl⟩⟩) T [] [] .un (by rw[bK];exact J3 nd) (by simp;omega) rfl
 refine ox (ρ:=[.im (TD T),.im (.dic (nK T) (T.map thD)),s']) rfl ?_;unfold AB;refine(n4 (ρ':=[.im (TD T),.dk [] [],.un]) rfl).trans ?_;refine(n4 ((qp rfl).trans e1)).trans ?_;rw[bK,bK];rfl
theorem QJ(m:Mk):oN uE "most" (mkD m)=some (.int m.mo):=rfl
theorem Dy(T:List Th)(hl:T.length<=1000)(ns:aB)(rest:List L4.D)(k:Kd):t8 [.obj 14 ("kept_things" ::ns) (TD T::rest),.str k.s]=some (.lst ((T.filter λt=>decide (t.k=k)).map λt=>D.str t.n)):=by let ρ:aZ:=[.im (.obj 14 ("kept_things" ::ns) (TD T::rest)),.im (.str k.s)];refine TV (ρ:=ρ) rfl ?_;exact ym (wZ thD (λt=>D.str t.n) (λt=>decide (t.k=k)) T (ρ1:=ρ) rfl hl λt _=>⟨[.im (thD t),.im (.str k.s)],[.im (thD t),.im (.str k.s)],rfl,ph (og (pC rfl (yb t)) rfl (BA t.k k)),λ_=>⟨_,pC rfl (vH t),rfl⟩,λ_=>rfl⟩)
def shD(T:List Th)(y:Str):List L4.D:=(rq [.str y,.lst (wyT T)]).getD []
theorem Xm(T:List Th)(y:Str):rq [.str y,.lst (wyT T)]=some (shD T y):=by kernel_rfl
def vwD:L4.D:=(qM [.lst pL]).getD .non
def rbD(T:List Th)(y:Str):L4.D:=(vX [.lst (shD T y)]).getD .non
def wNs:aB:=["kept_things", "kept_marks", "kept_dark", "kept_ways", "kept_verbs", "shared_verbs", "your_name", "things_by_name", "mosts_by_name", "verbs_by_word", "kept_rules", "shared_rules", "copied_rules", "rules_by_verb"]
def wDs(T:List Th)(M:List Mk)(dk:aB)(y:Str)(mo:L4.D):List L4.D:=[TD T,MD M,.lst (dk.map D.str),.lst (wyT T),.lst [],.lst pL,.str y,.dic (nK T) (T.map thD),mo,vwD,.lst [],.lst (shD T y),.lst [],rbD T y]
abbrev wR(T:List Th)(M:List Mk)(dk:aB)(ns:aB)(ds:List L4.D)(q:Sl):aZ:=[.ob 14 ns ds,.im (TD T),.im (MD M),.im (.lst (dk.map D.str)),.im (.lst (wyT T)),.im (.lst []),.im (.lst []),q]
abbrev wL(T:List Th)(M:List Mk)(dk:aB)(ns:aB)(ds:List L4.D)(q:Sl):aZ:=[.im (.obj 14 ns ds),.im (TD T),.im (MD M),.im (.lst (dk.map D.str)),.im (.lst (wyT T)),.im (.lst []),.im (.lst []),y3 q]
section
variable{T:List Th}{M:List Mk}{dk:aB}
theorem Xn(h1:e (wR T M dk ns ds q)=some (d,wR T M dk ns ds q))(h2:ns.contains nm=false)(h3:ds.length=ns.length)(h4:ns.length<900):pz 14 0 nm e (wR T M dk ns ds q)=some (.nx (wR T M dk (ns++[nm]) (ds++[d]) q)):=by unfold pz;rw[h1];show (if 14=14 then if ns.contains nm=true then none else if ds.length=ns.length then if ns.length<900 then some (Out.nx (wR T M dk (ns++[nm]) (ds++[d]) q))else none else none else none)=_;rw[ai rfl,h2,aj bp,ai h3,ai h4]
theorem N3(h1:e (wL T M dk ns ds q)=some (d,r))(h2:noC 16 14 d=true):u0 16 e (wR T M dk ns ds q)=some (d,wR T M dk ns ds q):=by
 unfold u0;show (match e (wL T M dk ns ds q)with
  |some (d,_)=>if (decide (14<16)&&noC 16 14 d)=true then some (d,wR T M dk ns ds q)else none
  |none=>none)=_
 rw[h1];simp only[h2];rfl
abbrev d6(T:List Th)(M:List Mk)(dk:aB):List L4.D:=[TD T,MD M,.lst (dk.map D.str),.lst (wyT T),.lst [],.lst pL]
abbrev n6:aB:=["kept_things", "kept_marks", "kept_dark", "kept_ways", "kept_verbs", "shared_verbs"]
theorem Xo(y:Str)(hl:T.length<=1000)(hy:(T.filter λt=>decide (t.k=.you)).map Th.n=[y]):u0 16 (c2 dIx (o6 qO "of_kind" aa (nY (cC (.str "you")) oq)) aU) (wR T M dk n6 (d6 T M dk) .un)=some (.str y,wR T M dk n6 (d6 T M dk) .un):=by
 refine N3 (r:=wL T M dk n6 (d6 T M dk) .un) (og (o8 (xs:=d6 T M dk) (ys:=[.str Kd.you.s]) (hh:=t8) rfl rfl rfl rfl (Dy T hl _ _ .you)) rfl ?_) rfl;have:((T.filter λt=>decide (t.k=.you)).map λt=>D.str t.n)=[.str y]:=by rw[show (λt:Th=>D.str t.n)=D.str∘Th.n from rfl,<- aV,hy];rfl
 rw[this];rfl
end
section
variable{T:List Th}{M:List Mk}{dk:aB}
theorem Xp:qM [.lst pL]=some vwD:=by kernel_rfl
theorem Xq(y:Str):vX [.lst (shD T y)]=some (rbD T y):=by kernel_rfl
theorem VF:noC 16 14 vwD=true:=by kernel_rfl
theorem VG(y:Str):noC 16 14 (rbD T y)=true:=by kernel_rfl
theorem VH(y:Str):noC 16 14 (.lst (shD T y))=true:=by kernel_rfl
theorem VI(y:Str):(shD T y).length<=900:=bE (by kernel_rfl)
abbrev n7:aB:=["kept_things", "kept_marks", "kept_dark", "kept_ways", "kept_verbs", "shared_verbs", "your_name"]
abbrev d7(T:List Th)(M:List Mk)(dk:aB)(y:Str):List L4.D:=[TD T,MD M,.lst (dk.map D.str),.lst (wyT T),.lst [],.lst pL,.str y]
theorem Xr(ns:aB)(ds:List L4.D):sG [.obj 14 (n6++ns) (d6 T M dk++ds)]=some (.lst pL):=by kernel_rfl
theorem QK(ns:aB)(ds:List L4.D)(q:Sl)(hc:(n6++ns).contains "all_verbs" = false):u0 16 (oa qM (nY (o6 rV "all_verbs" aa oq) oq)) (wR T M dk (n6++ns) (d6 T M dk++ds) q)=some (vwD,wR T M dk (n6++ns) (d6 T M dk++ds) q):=
 N3 (r:=wL T M dk (n6++ns) (d6 T M dk++ds) q) (n9 (nZ (o8 (xs:=d6 T M dk++ds) (ys:=[]) (hh:=sG) rfl rfl hc rfl (Xr ns ds)) rfl) Xp) VF
theorem N4(y:Str)(ns:aB)(ds:List L4.D)(q:Sl):u0 16 (cL (pe rq (nY (c1 (oN tI "your_name") aa) (nY av oq)))) (wR T M dk (n7++ns) (d7 T M dk y++ds) q)=some (.lst (shD T y),wR T M dk (n7++ns) (d7 T M dk y++ds) q):=
 N3 (r:=wL T M dk (n7++ns) (d7 T M dk y++ds) q) (pD (n9 (ds:=[.str y,.lst (wyT T)]) rfl (Xm T y))) (VH (T:=T) y)
abbrev n13:aB:=["kept_things", "kept_marks", "kept_dark", "kept_ways", "kept_verbs", "shared_verbs", "your_name", "things_by_name", "mosts_by_name", "verbs_by_word", "kept_rules", "shared_rules", "copied_rules"]
theorem XZ(y:Str)(a b c d:L4.D)(q:Sl):u0 16 (oa vX (nY (cL (qz (c1 (oN tf "copied_rules") aa) (c1 (oN tq "shared_rules") aa))) oq)) (wR T M dk n13 [TD T,MD M,.lst (dk.map D.str),.lst (wyT T),.lst [],.lst pL,.str y,a,b,c,d,.lst (shD T y),.lst []] q)=some (rbD T y,wR T M dk n13 [TD T,MD M,.lst (dk.map D.str),.lst (wyT T),.lst [],.lst pL,.str y,a,b,c,d,.lst (shD T y),.lst []] q):=
 N3 (r:=wL T M dk n13 [TD T,MD M,.lst (dk.map D.str),.lst (wyT T),.lst [],.lst pL,.str y,a,b,c,d,.lst (shD T y),.lst []] q) (n9 (nZ (pD (rX (xs:=[]) (ys:=shD T y) rfl rfl (by have:=VI (T:=T) y;simp;omega))) rfl) (Xq (T:=T) y)) (VG (T:=T) y)
theorem FI{g:FS}(h1:e (wR T M dk ns ds q)=some (d,wR T M dk ns ds q))(h2:ns.contains nm=false)(h3:ds.length=ns.length)(h4:ns.length<900)(h:g (wR T M dk (ns++[nm]) (ds++[d]) q)=r):oe (pz 14 0 nm e) g (wR T M dk ns ds q)=r:=(n4 (Xn h1 h2 h3 h4)).trans h
theorem N5(g:Good T M dk)(y:Str)(hy:(T.filter λt=>decide (t.k=.you)).map Th.n=[y])(emo:qL [TD T,MD M]=some mo):sI [TD T,MD M,.lst (dk.map D.str),.lst (wyT T),.lst [],.lst []]=some (wNs,wDs T M dk y mo):=by
 have hl:=g.len;have e:sH (wR T M dk [] [] .un)=some (.nx (wR T M dk wNs (wDs T M dk y mo) (.im (.bl true)))):=by
  unfold sH;refine(n4 (pU (ρ':=wR T M dk [] [] .un) (n9 (nZ rfl (nZ rfl (nZ rfl (nZ rfl (nZ rfl (nZ (pD (n9 (g:=qF) (ds:=[]) rfl Hm)) rfl)))))) (Dx g)))).trans ?_
  iterate 5 refine FI rfl rfl rfl (by decide) ?_
  refine FI (pD (n9 (g:=qF) (ds:=[]) rfl Hm)) rfl rfl (by decide) (FI (Xo y (by omega) hy) rfl rfl (by decide) (FI (n9 (ds:=[TD T]) rfl (Ja T (by omega) g.ndT)) rfl rfl (by decide) (FI (n9 (ds:=[TD T,MD M]) rfl emo) rfl rfl (by decide)
   (FI (QK ["your_name", "things_by_name", "mosts_by_name"] [.str y,.dic (nK T) (T.map thD),mo] .un rfl) rfl rfl (by decide) ?_))))
  refine(n4 ((oH (i:=7) (N3 (d:=.bl true) (T:=T) (M:=M) (dk:=dk) rfl rfl)).trans rfl)).trans ((n4 (qG (ρ1:=_) rfl)).trans ?_);refine FI rfl rfl rfl (by decide) (FI (N4 y ["things_by_name", "mosts_by_name", "verbs_by_word", "kept_rules"] [.dic (nK T) (T.map thD),mo,vwD,.lst []] (.im (.bl true))) rfl rfl (by decide) (FI rfl rfl rfl (by decide) ?_));exact Xn (XZ y _ _ _ _ (.im (.bl true))) rfl rfl (by decide)
 unfold sI fnI;rw[ai (show [TD T,MD M,D.lst (dk.map D.str),D.lst (wyT T),D.lst [],D.lst []].length=6 from rfl)];rw[show sH (stI 14 8 [TD T,MD M,.lst (dk.map D.str),.lst (wyT T),.lst [],.lst []])=some (.nx (wR T M dk wNs (wDs T M dk y mo) (.im (.bl true)))) from e];rfl
end
def IL(ds:List L4.D):Prop:=∃xs:List Int,ds=xs.map D.int
theorem IL.nil:IL []:=⟨[],rfl⟩
theorem IL.snoc{ds:List L4.D}(h:IL ds)(i:Int):IL (ds++[.int i]):=by obtain⟨xs,rfl⟩:=h;exact⟨xs++[i],by rw[aW];rfl⟩
theorem IL.sub(h:IL ds)(hs:∀d∈es,d∈ds):IL es:=by
 induction es with
 |nil=>exact IL.nil
 |cons d es ih=>obtain⟨ys,rfl⟩:=ih λd hd=>hs d (bh _ hd);obtain⟨xs,rfl⟩:=h;obtain⟨i,_,rfl⟩:=aF.mp (hs d ba);exact⟨i::ys,rfl⟩
theorem QL{lo:Option Int}:∀d∈cutD ds lo hi,d∈ds:=λd hd=>by unfold cutD at hd;exact jj (lI hd)
def J5:FS:=(oe (o9 (uC 2 (c2 rh aq (c2 AN eK cx))))
 (oP 3 (c2 yE aq (c2 AN eK cx))))
def N6:FT:=yF (sA (cT (c2 Cn aq aU)) (cT (c2 yy (c1 p9 ar) ag)))
theorem BB(c:Int)(m:Nat)(hm:m<=130):∀(n:Nat) (ds:List L4.D) (r:Int),IL ds->ds.length<=m->m - ds.length<n->∃ds' r',IL ds'/\ds'.length<=m/\
  whL N6 J5 n [.im (.int c),.im (.int m),.ls ds,.im (.int r),.un,.un,.un]=some (.nx [.im (.int c),.im (.int m),.ls ds',.im (.int r'),.un,.un,.un])
 |0,ds,r,_,_,h=>ao h (mJ _)
 |n+1,ds,r,hi,hl,hn=>by
  have ht:N6 [.im (.int c),.im (.int m),.ls ds,.im (.int r),.un,.un,.un]=some (decide (0<r)&&decide (ds.length<m),[.im (.int c),.im (.int m),.ls ds,.im (.int r),.un,.un,.un]):=by
   refine Fc (ρ1:=[.im (.int c),.im (.int m),.im (.lst ds),.im (.int r),.un,.un,.un]) ?_;show sA _ _ [.im (.int c),.im (.int m),.im (.lst ds),.im (.int r),.un,.un,.un]=_;unfold sA;rw[show cT (c2 Cn aq aU) [.im (.int c),.im (.int m),.im (.lst ds),.im (.int r),.un,.un,.un]=some (decide (0<r),[.im (.int c),.im (.int m),.im (.lst ds),.im (.int r),.un,.un,.un]) from rfl];cases decide (0<r)with
   |false=>rfl
   |true=>show cT (c2 yy (c1 p9 ar) ag) _=some (decide (ds.length<m),_);rw[show cT (c2 yy (c1 p9 ar) ag) [.im (.int c),.im (.int m),.im (.lst ds),.im (.int r),.un,.un,.un]=some (decide ((ds.length:Int)<m),[.im (.int c),.im (.int m),.im (.lst ds),.im (.int r),.un,.un,.un]) from rfl];simp only[Int.ofNat_lt]
  unfold whL;rw[ht];cases hq:(decide (0<r)&&decide (ds.length<m))with
  |false=>exact⟨ds,r,hi,hl,rfl⟩
  |true=>
   rw[bo,bG,bG]at hq;have e1:J5 [.im (.int c),.im (.int m),.ls ds,.im (.int r),.un,.un,.un]=some (.nx [.im (.int c),.im (.int m),.ls (ds++[.int (r % 1000000)]),.im (.int (r / 1000000)),.un,.un,.un]):=by unfold J5;refine(n4 (ρ':=[.im (.int c),.im (.int m),.ls (ds++[.int (r % 1000000)]),.im (.int r),.un,.un,.un]) ((pU (yX (es0:=ds) (es:=ds) (ρ1:=[.im (.int c),.im (.int m),.ls ds,.im (.int r),.un,.un,.un]) rfl (og rfl rfl (ub (by decide))) rfl (by omega))).trans rfl)).trans ?_;exact(oH (og rfl rfl (div_pos (by decide) (by decide)))).trans rfl
   simp only[e1];exact BB c m hm n _ _ (hi.snoc _) (by rw[aA,bb];omega) (by rw[aA,bb];omega)
def fBody:FS:=(oe (oP 4 (c2 rh (c2 tP (c2 pE (c2 pE av (c2 tP (cC (.int 7919)) aP)) aJ) iK) dR))
 (oe (oP 6 (c2 rh (c2 tP av (c2 pE (c2 yE av (cC (.int 1009))) (cC (.int 69621)))) dR))
 (o9 (uC 2 (c2 rh (c2 tP bD (c2 pE (c2 yE bD (cC (.int 2003))) (cC (.int 40692)))) (cC (.int 2147483399)))))))
theorem modS(a:Int):0<=a % 2147483647/\a % 2147483647<2147483647:=⟨jH _ (by decide),jx _ (by decide)⟩
theorem EH(a b r:Sl):∀(l:List Int) (ds:List L4.D) (x:Int) (s5 s6:Sl),IL ds->ds.length+l.length<=900->∃ds' x' t5 t6,IL ds'/\
  forL (gN 5) fBody (l.map D.int) [a,b,.ls ds,r,.im (.int x),s5,s6]=some (.nx [a,b,.ls ds',r,.im (.int x'),t5,t6])
 |[],ds,x,s5,s6,hi,_=>⟨ds,x,s5,s6,hi,rfl⟩
 |k::l,ds,x,s5,s6,hi,hl=>by
  rw[aE]at hl;let y:=(x+7919 * k+1) * 48271 % 2147483647;let z:=y * (y / 1009+69621) % 2147483647;let v:=z * (z / 2003+40692) % 2147483399;have hy:=modS ((x+7919 * k+1) * 48271);have hz:=modS (y * (y / 1009+69621));have e1:fBody [a,b,.ls ds,r,.im (.int x),.im (.int k),s6]=some (.nx [a,b,.ls (ds++[.int v]),r,.im (.int y),.im (.int k),.im (.int z)]):=by unfold fBody;refine(n4 (ρ':=[a,b,.ls ds,r,.im (.int y),.im (.int k),s6]) ((oH (og (og (og (og rfl (og rfl rfl (uu (.inl (by decide)))) rfl) rfl rfl) rfl (uu (.inr (by decide)))) rfl (ub (by decide)))).trans rfl)).trans ?_;refine(n4 (ρ':=[a,b,.ls ds,r,.im (.int y),.im (.int k),.im (.int z)]) ((oH (og (og rfl (og (og rfl rfl (div_pos (by decide) (by decide))) rfl rfl) (uu (.inl (Gy hy.1 hy.2)))) rfl (ub (by decide)))).trans rfl)).trans ?_;exact(pU (yX (es0:=ds) (es:=ds) (ρ1:=[a,b,.ls ds,r,.im (.int y),.im (.int k),.im (.int z)]) rfl (og (og rfl (og (og rfl rfl (div_pos (by decide) (by decide))) rfl rfl) (uu (.inl (Gy hz.1 hz.2)))) rfl (ub (by decide))) rfl (by omega))).trans rfl
  obtain⟨ds',x',t5,t6,h1,h2⟩:=EH a b r l (ds++[.int v]) y (.im (.int k)) (.im (.int z)) (hi.snoc _) (by rw[aA,bb];omega);refine⟨ds',x',t5,t6,h1,?_⟩;rw[ay];unfold forL;rw[show gN 5 (.int k) [a,b,.ls ds,r,.im (.int x),s5,s6]=some [a,b,.ls ds,r,.im (.int x),.im (.int k),s6] from rfl];simp only[e1];exact h2
theorem Hn(c:Int)(m:Nat)(hm:m<=130):∃ds,IL ds/\sM [.int c,.int m]=some ds:=by
 have fin:∀r0:Int,∃ds,IL ds/\∃ρ,oe (whL N6 J5 200) (oe (oP 4 (c2 rh (c2 tP (c2 pE (c2 rh aa dR) aJ) iK) dR)) (oe (sS (iR1 ag) (gN 5) fBody) (qK (vq (cFz 2) oNo (oAt ag))))) [.im (.int c),.im (.int m),.ls [],.im (.int r0),.un,.un,.un]=some (.rn ds ρ):=λr0=>by obtain⟨ds,r,h1,h2,h3⟩:=BB c m hm 200 [] r0 IL.nil (cj _) (by simp;omega);let x:=(c % 2147483647+1) * 48271 % 2147483647;obtain⟨ds',x',t5,t6,h4,h5⟩:=EH (.im (.int c)) (.im (.int m)) (.im (.int r)) ((bz m).map λ(i:Nat)=>(0:Int)+(i:Int)) ds x .un .un h1 (by rw[ah,fW];omega);refine⟨cutD ds' none (some m),h4.sub QL,[.im (.int c),.im (.int m),.im (.lst ds'),.im (.int r),.im (.int x'),t5,t6],?_⟩;refine(n4 h3).trans ?_;refine(n4 (ρ':=[.im (.int c),.im (.int m),.ls ds,.im (.int r),.im (.int x),.un,.un]) ((oH (og (og (og (og rfl rfl (ub (by decide))) rfl rfl) rfl (uu (.inr (by decide)))) rfl (ub (by decide)))).trans rfl)).trans ?_;refine(n4 ((qp (ds:=((bz m).map λ(i:Nat)=>(0:Int)+(i:Int)).map D.int) (ρ1:=[.im (.int c),.im (.int m),.ls ds,.im (.int r),.im (.int x),.un,.un]) ?_).trans h5)).trans rfl;unfold iR1;show (if -1000000<=(m:Int)/\(m:Int)<=1000000 then some (Cj 0 (m:Int).toNat,_)else none)=_;rw[ai (by omega),hG];unfold Cj;rw[aV];rfl
 by_cases hc:(1000000000000000000:Int)<=c
 ·obtain⟨ds,h1,ρ,h2⟩:=fin (c - 1000000000000000000);refine⟨ds,h1,yY (ρ:=ρ) rfl ?_⟩;refine(n4 (ρ':=[.im (.int c),.im (.int m),.ls [],.un,.un,.un,.un]) rfl).trans ((n4 (ρ':=[.im (.int c),.im (.int m),.ls [],.im (.int 0),.un,.un,.un]) rfl).trans ((n4 (ρ':=[.im (.int c),.im (.int m),.ls [],.im (.int (c - 1000000000000000000)),.un,.un,.un]) ((oV (ρ':=[.im (.int c),.im (.int m),.ls [],.im (.int 0),.un,.un,.un]) ?_).trans rfl)).trans h2));refine ph (og (y:=.int 1000000000000000000) rfl rfl ?_);show some (D.bl (decide _))=_;rw[aT hc]
 ·obtain⟨ds,h1,ρ,h2⟩:=fin 0;refine⟨ds,h1,yY (ρ:=ρ) rfl ?_⟩;refine(n4 (ρ':=[.im (.int c),.im (.int m),.ls [],.un,.un,.un,.un]) rfl).trans ((n4 (ρ':=[.im (.int c),.im (.int m),.ls [],.im (.int 0),.un,.un,.un]) rfl).trans ((n4 (ρ':=[.im (.int c),.im (.int m),.ls [],.im (.int 0),.un,.un,.un]) ((oM (ρ':=[.im (.int c),.im (.int m),.ls [],.im (.int 0),.un,.un,.un]) ?_).trans rfl)).trans h2));refine ph (og (y:=.int 1000000000000000000) rfl rfl ?_);show some (D.bl (decide _))=_;rw[aH hc]
theorem EI:∀xs:List Int,yz (xs.map D.int)=some (xs.map L3.Dq.int)
 |[]=>rfl
 |x::xs=>by rw[ay];unfold yz;rw[EI xs];rfl
theorem Ho(x:Int)(xs:List Int):dEq false (.lst ((x::xs).map D.int)) (.lst [])=some (.bl false):=by
 have e0:BG false (.lst ((x::xs).map D.int)) (.lst [])=none:=rfl;have e1:toD (.lst ((x::xs).map D.int))=some (.lst ((x::xs).map L3.Dq.int)):=by unfold toD;rw[EI]
 have e2:∀ys:List Int,qo (ys.map L3.Dq.int)=0:=λys=>by
  induction ys with
  |nil=>rfl
  |cons y ys ih=>rw[ay];unfold qo;rw[ih];unfold dpt;rfl
 have e3:dpt (.lst ((x::xs).map L3.Dq.int))=1:=by rw[dpt,e2]
 unfold dEq;rw[e0];show Cq false _ _=_;unfold Cq;rw[e1,show toD (.lst [])=some (.lst []) from rfl];show (if D7 (.lst ((x::xs).map L3.Dq.int)) (.lst [])&&decide (dpt (.lst ((x::xs).map L3.Dq.int))<=20)&&decide (dpt (.lst [])<=20)then some (D.bl (eqD (.lst ((x::xs).map L3.Dq.int)) (.lst [])))else none)=_;rw[e3];rfl
theorem qm(h:IL es)(n:Int)(hn:0<n):∃r es',IL es'/\0<=r/\r<n/\n8 es [.int n]=some (.int r,es'):=by
 obtain⟨xs,rfl⟩:=h;cases xs with
 |nil=>exact⟨0,[],IL.nil,Int.le_refl _,hn,rfl⟩
 |cons x xs=>refine⟨x % n,xs.map D.int,⟨xs,rfl⟩,jH _ (by omega),jx _ hn,?_⟩;refine Ts (ρ:=[.pm (xs.map D.int),.im (.int n)]) rfl ?_ rfl;refine(n4 (ρ':=[.pm ((x::xs).map D.int),.im (.int n)]) ((oM (ρ':=[.pm ((x::xs).map D.int),.im (.int n)]) (Fc (ρ1:=[.im (.lst ((x::xs).map D.int)),.im (.int n)]) (ph (og (x:=.lst ((x::xs).map D.int)) (y:=.lst []) rfl rfl (Ho x xs))))).trans rfl)).trans ?_;exact ou (og (x:=.int x) (ρ1:=[.pm (xs.map D.int),.im (.int n)]) rfl rfl (ub hn))
def lets:Str:="bcdefghijklmnopqrstuvwxyz"
theorem VJ(i:Nat)(h:i<25):dIx (.str lets) (.int i)=some (.str ⟨#[98+i]⟩):=by
 have q:((bz 25).all λi=>match dIx (.str lets) (.int i)with|some (.str x)=>decide (x=⟨#[98+i]⟩)|_=>false)=true:=by kernel_rfl
 have:=bC.mp q i (cq.mpr h);revert this;split
 ·rename_i x e;intro z;rw[e,bq z]
 ·intro z;cases z
abbrev eI:=(nY (cC (.int 8)) oq)
def Xs:FE:=(c2 GB (c2 dIx ag (c2 rh (c2 pE aq (c2 tP dc aa)) iO)) (c2 pE aJ (pb n8 2 eI)))
theorem QM(h:IL es)(s k:Nat):∃c es',c<8/\IL es'/\Xs [.im (.int k),.im (.str lets),.pm es,.im (.int s)]=some (.str (nmS ((s+7 * k) % 25) c),[.im (.int k),.im (.str lets),.pm es',.im (.int s)]):=by
 obtain⟨r,es',h1,h2,h3,h4⟩:=qm h 8 (by decide);obtain⟨c,rfl⟩:=cn h2;refine⟨c,es',by omega,h1,?_⟩;have hm:(s+7 * k) % 25<25:=Nat.mod_lt _ (by decide);let ρ:aZ:=[.im (.int k),.im (.str lets),.pm es,.im (.int s)];let ρ':aZ:=[.im (.int k),.im (.str lets),.pm es',.im (.int s)];have e1:c2 dIx ag (c2 rh (c2 pE aq (c2 tP dc aa)) iO) ρ=some (.str ⟨#[98+(s+7 * k) % 25]⟩,ρ):=by
  refine og (y:=.int (((s+7 * k) % 25:Nat):Int)) rfl (og (og rfl (og rfl rfl (uu (.inl (by decide)))) rfl) rfl ((ub (by decide)).trans ?_)) (VJ _ hm);have:((s:Int)+7 * k) % 25=(((s+7 * k) % 25:Nat):Int):=by omega
  rw[this]
 have e2:c2 pE aJ (pb n8 2 eI) ρ=some (.int (1+(c:Int)),ρ'):=og rfl ((rj (es0:=es) (es:=es) (ρ1:=ρ) rfl rfl rfl h4).trans rfl) rfl;refine og e1 e2 ?_;show (if 0<=1+(c:Int)/\1+(c:Int)<=1000/\Str.length ⟨#[98+(s+7 * k) % 25]⟩<=100 then some (D.str (gq ⟨#[98+(s+7 * k) % 25]⟩ (1+(c:Int))))else none)=_;rw[ai ⟨by omega,by omega,by show 1<=100;decide⟩];rfl
theorem Hr(s:Nat):∀(l:List Nat) (es:List L4.D),IL es->∃cs es',cs.length=l.length/\(∀c∈cs,c<8)/\IL es'/\
  sT 1 [2,0,1] (gN 0) pM Xs (l.map λ(k:Nat)=>D.int k) [.pm es,.im (.int s),.im (.str lets)]=some (c4 (λ(k c:Nat)=>D.str (nmS ((s+7 * k) % 25) c)) l cs,[.pm es',.im (.int s),.im (.str lets)])
 |[],es,h=>⟨[],es,rfl,λc hc=>(bO hc).elim,h,rfl⟩
 |k::l,es,h=>by
  obtain⟨c,es1,h1,h2,h3⟩:=QM h s k;obtain⟨cs,es',h4,h5,h6,h7⟩:=Hr s l es1 h2;refine⟨c::cs,es',by rw[aE,aE,h4],λx hx=>?_,h6,?_⟩
  ·rcases aM.mp hx with rfl|hx
   ·exact h1
   ·exact h5 x hx
  ·rw[ay];unfold sT;rw[show gN 0 (.int k) (yV 1 [2,0,1] [.pm es,.im (.int s),.im (.str lets)])=some [.im (.int k),.im (.str lets),.pm es,.im (.int s)] from rfl];simp only[pM,h3];rw[show rT [2,0,1] (([.im (.int k),.im (.str lets),.pm es1,.im (.int s)]:aZ).drop 1) [.pm es,.im (.int s),.im (.str lets)]=some [.pm es1,.im (.int s),.im (.str lets)] from rfl];simp only[h7];rfl
theorem N7(s:Nat)(hs:s<25):∀(l cs:List Nat),cs.length=l.length->(∀c∈cs,c<8)->(l.map λk=>(s+7 * k) % 25).Nodup->∃N:aB,N.length=l.length/\(∀x∈N,Nm x)/\N.Nodup/\(∀x∈N,∃k∈l,sg x=98+(s+7 * k) % 25)/\c4 (λ(k c:Nat)=>D.str (nmS ((s+7 * k) % 25) c)) l cs=N.map D.str
 |[],[],_,_,_=>⟨[],rfl,λx h=>(bO h).elim,f9,λx h=>(bO h).elim,rfl⟩
 |[],c::cs,h,_,_=>by cases h
 |k::l,[],h,_,_=>by cases h
 |k::l,c::cs,h,hc,nd=>by
  rw[ay,cg]at nd;obtain⟨N,h1,h2,h3,h4,h5⟩:=N7 s hs l cs (by simpa using h) (λx hx=>hc x (bh _ hx)) nd.2;have hm:(s+7 * k) % 25<25:=Nat.mod_lt _ (by decide);have hsg:=Xl hm (hc c ba);refine⟨nmS ((s+7 * k) % 25) c::N,by rw[aE,aE,h1],λx hx=>?_,?_,λx hx=>?_,?_⟩
  ·rcases aM.mp hx with rfl|hx
   ·exact⟨_,_,hm,hc c ba,rfl⟩
   ·exact h2 x hx
  ·rw[cg];refine⟨λz=>?_,h3⟩;obtain⟨j,hj,e⟩:=h4 _ z;rw[hsg]at e;exact nd.1 (aF.mpr ⟨j,hj,by omega⟩)
  ·rcases aM.mp hx with rfl|hx
   ·exact⟨k,ba,hsg⟩
   ·obtain⟨j,hj,e⟩:=h4 x hx;exact⟨j,bh _ hj,e⟩
  ·rw[dY,h5];rfl
structure Nms(N:aB):Prop where
 len:N.length=17
 nm:∀x∈N,Nm x
 nd:N.Nodup
theorem N8(h:IL es):∃N es',Nms N/\IL es'/\wU es []=some (.lst (N.map D.str),es'):=by
 obtain⟨r,es1,h1,h2,h3,h4⟩:=qm h 25 (by decide);obtain⟨s,rfl⟩:=cn h2;have hs:s<25:=by omega
 obtain⟨cs,es2,h5,h6,h7,h8⟩:=Hr s (bz 17) es1 h1;have nd:((bz 17).map λk=>(s+7 * k) % 25).Nodup:=by
  have q:((bz 25).all λs=>decide ((bz 17).map λk=>(s+7 * k) % 25).Nodup)=true:=by decide +kernel
  exact bq (bC.mp q s (cq.mpr hs))
 obtain⟨N,n1,n2,n3,_,n5⟩:=N7 s hs (bz 17) cs h5 h6 nd;refine⟨N,es2,⟨by rw[n1,fW],n2,n3⟩,h7,Tt (ρ:=[.pm es2,.im (.int s),.im (.str lets)]) rfl ?_ rfl⟩;unfold wQ;refine(n4 (ρ':=[.pm es1,.im (.int s),.un]) ((oH (rj (es0:=es) (es:=es) (ρ1:=[.pm es,.un,.un]) rfl rfl rfl h4)).trans rfl)).trans ?_;refine(n4 (ρ':=[.pm es1,.im (.int s),.im (.str lets)]) rfl).trans ?_;refine ym ((wt (ds:=(bz 17).map λ(k:Nat)=>D.int k) (ρ1:=[.pm es1,.im (.int s),.im (.str lets)]) ?_ (by simp)).trans (by rw[<-n5];exact h8));unfold iR1;show (if _ then some (Cj 0 17,_)else none)=_;rw[ai (by decide)];unfold Cj;simp only[Int.zero_add]
structure Rw where
 n:Str
 k:Kd
 s:Option Str
def oR(r:Rw):L4.D:=.tup [.str r.n,.str r.k.s,oS r.s]
def FJ(l:List Rw)(r:Rw):Prop:=(r.k=.room/\r.s=none)\/(r.k=.you/\∃u∈l,r.s=some u.n/\u.k=.room)\/(r.k.pl=true/\∃u∈l,r.s=some u.n/\u.k.hd=true)
inductive Ord:List Rw->Prop
 |nil:Ord []
 |snoc {l:List Rw} {r:Rw} (h:Ord l) (h':FJ l r):Ord (l++[r])
theorem FJ.mono(h:FJ l r)(hs:∀u∈l,u∈l'):FJ l' r:=by
 rcases h with h|⟨h1,u,h2,h3⟩|⟨h1,u,h2,h3⟩
 ·exact .inl h
 ·exact .inr (.inl ⟨h1,u,hs u h2,h3⟩)
 ·exact .inr (.inr ⟨h1,u,hs u h2,h3⟩)
theorem Ord.all(h:Ord l):∀r∈l,FJ l r:=by
 induction h with
 |nil=>exact λr hr=>(bO hr).elim
 |snoc h h' ih=>
  intro r hr;rcases bg.mp hr with hr|hr
  ·exact(ih r hr).mono λu hu=>bF _ hu
  ·rw[aO]at hr;subst hr;exact h'.mono λu hu=>bF _ hu
theorem FJ.start(h:FJ l r)(hp:r.s=some p):∃u∈l,u.n=p:=by
 rcases h with ⟨_,h⟩|⟨_,u,h2,h3,_⟩|⟨_,u,h2,h3,_⟩
 ·rw[h]at hp;cases hp
 ·rw[h3]at hp;cases hp;exact⟨u,h2,rfl⟩
 ·rw[h3]at hp;cases hp;exact⟨u,h2,rfl⟩
theorem Ord.rank(h:Ord l):(l.map Rw.n).Nodup->∃rk:Str->Nat,∀t∈l,rk t.n<l.length/\∀p,t.s=some p->rk p<rk t.n/\∃u∈l,u.n=p:=by
 induction h with
 |nil=>exact λ_=>⟨λ_=>0,λt ht=>(bO ht).elim⟩
 |@snoc l r h h' ih=>
  intro nd;rw[aW,bX]at nd;obtain⟨rk,hk⟩:=ih nd.1;have ne:∀u∈l,u.n≠r.n:=λu hu z=>nd.2.2 _ (cp hu) _ (by simp) z;refine⟨λx=>if x=r.n then l.length else rk x,λt ht=>?_⟩;rw[aA,bb];dsimp only;rcases bg.mp ht with ht|ht
  ·obtain⟨h1,h2⟩:=hk t ht;rw[aj (ne t ht)];refine⟨by omega,λp hp=>?_⟩;obtain⟨h3,u,hu,rfl⟩:=h2 p hp;rw[aj (ne u hu)];exact⟨h3,u,bF _ hu,rfl⟩
  ·rw[aO]at ht;subst ht;rw[ai rfl];refine⟨by omega,λp hp=>?_⟩;obtain⟨u,hu,rfl⟩:=h'.start hp;rw[aj (ne u hu)];exact⟨(hk u hu).1,u,bF _ hu,rfl⟩
theorem rF{l:aB}{j:Nat}{x:Str}(h:l[j]?=some x):atI (l.map D.str) (j:Int)=some (.str x):=Jv (by rw[bj,h];rfl)
def kT:List Kd:=[.plain,.box,.lamp,.fixed,.box,.lamp,.box,.plain]
theorem Xt(j:Nat)(h:j<8):∃k,k∈kT/\dIx (.lst [.str "plain", .str "box", .str "lamp", .str "fixed", .str "box", .str "lamp", .str "box", .str "plain"]) (.int j)=some (.str (Kd.s k)):=
 ⟨kT[j]'h,cZ _,rF (l:=kT.map Kd.s) (by rw[bj,aL (show j<kT.length from h)];rfl)⟩
abbrev eM:=(cC (.str "box"))
abbrev iJ:=(cC (.str "lamp"))
abbrev ku:=(cC (.str "plain"))
abbrev iQ:=(nY (zr (c1 p9 av)) oq)
def N9:FS:=(oe (oP 6 (c2 dIx (cL (oG (nY ku (nY eM (nY iJ (nY (cC (.str "fixed")) (nY eM (nY iJ (nY eM (nY ku oq)))))))))) (pb n8 2 eI)))
 (oe (o9 (uC 3 (pd (nY aP (nY bD (nY (Ai 4 (pb n8 2 iQ)) oq))))))
 (sIf (cT (c2 (dEq false) bD eM)) (o9 (uC 4 aP)) oA)))
theorem FK(h:IL es)(h0:Hs≠[])(hi:pZ ρ i=some es)(hj:pZ ρ j=some (Hs.map D.str))(hb:cV j (ρ.map Sl.bor)=some (.lst (Hs.map D.str),ρ.map Sl.bor))(hne:∀es',pZ (putAt ρ i es') j=some (Hs.map D.str)):
  ∃x es',x∈Hs/\IL es'/\Ai j (pb n8 i (nY (zr (c1 p9 (cV j))) oq)) ρ=some (.str x,putAt ρ i es'):=by
 have hp:0<Hs.length:=lQ.mpr h0;obtain⟨r,es',h1,h2,h3,h4⟩:=qm h Hs.length (by omega);obtain⟨m,rfl⟩:=cn h2;have hm:m<Hs.length:=by omega
 refine⟨Hs[m],es',cZ hm,h1,?_⟩;have e1:zr (c1 p9 (cV j)) ρ=some (.int Hs.length,ρ):=M0 (pC hb (by show some (D.int _)=_;rw[ah])) rfl;have e2:pb n8 i (nY (zr (c1 p9 (cV j))) oq) ρ=some (.int m,putAt ρ i es'):=rj hi (nZ e1 rfl) hi h4;unfold Ai;rw[hj];simp only[e2,hne es'];rw[show atI (Hs.map D.str) (m:Int)=some (.str Hs[m]) from rF (aL hm)]
theorem BC(a b:Sl)(B:List Rw):∀(l:aB) (es:List L4.D) (O:List Rw) (Hs:aB) (s5 s6:Sl),IL es->Hs≠[]->(∀x∈Hs,∃u∈B++O,u.n=x/\u.k.hd=true)->Ord (B++O)->O.length+l.length<=900->Hs.length+l.length<=900->
  ∃(es':List L4.D) (O':List Rw) (Hs':aB) (t5 t6:Sl),IL es'/\Ord (B++(O++O'))/\O'.map Rw.n=l/\(∀r∈O',r.k.pl=true)/\
   forL (gN 5) N9 (l.map D.str) [a,b,.pm es,.ls (O.map oR),.ls (Hs.map D.str),s5,s6]=some (.nx [a,b,.pm es',.ls ((O++O').map oR),.ls (Hs'.map D.str),t5,t6])
 |[],es,O,Hs,s5,s6,hi,_,_,ho,_,_=>⟨es,[],Hs,s5,s6,hi,by rw[bt];exact ho,rfl,λr hr=>(bO hr).elim,by rw[bt];rfl⟩
 |x::l,es,O,Hs,s5,s6,hi,h0,hH,ho,hl,hl'=>by
  rw[aE]at hl hl';obtain⟨r,es1,h1,h2,h3,h4⟩:=qm hi 8 (by decide);obtain⟨j,rfl⟩:=cn h2;obtain⟨k,hk,ek⟩:=Xt j (by omega);let ρ1:aZ:=[a,b,.pm es1,.ls (O.map oR),.ls (Hs.map D.str),.im (.str x),.im (.str k.s)];obtain⟨p,es2,hp,h5,e2⟩:=FK (ρ:=ρ1) (i:=2) (j:=4) h1 h0 rfl rfl rfl (λ_=>rfl);have hpl:k.pl=true:=by
   have:∀k∈kT,Kd.pl k=true:=by decide
   exact this k hk
  let rw0:Rw:=⟨x,k,some p⟩;obtain⟨u,hu,hun,huk⟩:=hH p hp;have ok:FJ (B++O) rw0:=.inr (.inr ⟨hpl,u,hu,by rw[hun],huk⟩);let Hs1:aB:=if k=.box then Hs++[x]else Hs
  have e3:N9 [a,b,.pm es,.ls (O.map oR),.ls (Hs.map D.str),.im (.str x),s6]=some (.nx [a,b,.pm es2,.ls ((O++[rw0]).map oR),.ls (Hs1.map D.str),.im (.str x),.im (.str k.s)]):=by
   unfold N9;refine(n4 (ρ':=ρ1) ((oH (og (x:=.lst [.str "plain", .str "box", .str "lamp", .str "fixed", .str "box", .str "lamp", .str "box", .str "plain"]) (ρ1:=[a,b,.pm es,.ls (O.map oR),.ls (Hs.map D.str),.im (.str x),s6]) rfl (rj (es0:=es) (es:=es) (ρ1:=[a,b,.pm es,.ls (O.map oR),.ls (Hs.map D.str),.im (.str x),s6]) rfl rfl rfl h4) ek)).trans rfl)).trans ?_;let ρ2:aZ:=[a,b,.pm es2,.ls (O.map oR),.ls (Hs.map D.str),.im (.str x),.im (.str k.s)];let ρ3:aZ:=[a,b,.pm es2,.ls ((O++[rw0]).map oR),.ls (Hs.map D.str),.im (.str x),.im (.str k.s)];refine(n4 (ρ':=ρ3) ((pU (yX (es0:=O.map oR) (es:=O.map oR) (ρ1:=ρ2) (d:=oR rw0) rfl (qA (nZ rfl (nZ rfl (nZ e2 rfl))) (by show 3<=1000;decide)) rfl (by rw[ah];omega))).trans ?_)).trans ?_
   ·show some (Out.nx [a,b,.pm es2,.ls (O.map oR++[oR rw0]),.ls (Hs.map D.str),.im (.str x),.im (.str k.s)])=_;rw[show O.map oR++[oR rw0]=(O++[rw0]).map oR by rw[aW];rfl]
   ·have et:cT (c2 (dEq false) bD eM) ρ3=some (decide (k=.box),ρ3):=ph (og rfl rfl (BA k .box));by_cases hb:k=.box
    ·rw[aT hb]at et;refine(oV et).trans ((pU (yX (es0:=Hs.map D.str) (es:=Hs.map D.str) (ρ1:=ρ3) (d:=.str x) rfl rfl rfl (by rw[ah];omega))).trans ?_);show some (Out.nx [a,b,.pm es2,.ls ((O++[rw0]).map oR),.ls (Hs.map D.str++[.str x]),.im (.str x),.im (.str k.s)])=_;rw[show Hs1.map D.str=Hs.map D.str++[.str x] by rw[show Hs1=Hs++[x] from ai hb,aW];rfl]
    ·rw[aH hb]at et;refine(oM et).trans ?_;rw[show Hs1=Hs from aj hb];rfl
  have ho1:Ord (B++(O++[rw0])):=by rw[<-bB];exact ho.snoc ok
  have hH1:∀y∈Hs1,∃u∈B++(O++[rw0]),u.n=y/\u.k.hd=true:=λy hy=>by
   have old:y∈Hs->∃u∈B++(O++[rw0]),u.n=y/\u.k.hd=true:=λhy=>by obtain⟨v,hv,h⟩:=hH y hy;exact⟨v,by rw[<-bB];exact bF _ hv,h⟩
   by_cases hb:k=.box
   ·rw[show Hs1=Hs++[x] from ai hb]at hy;rcases bg.mp hy with hy|hy
    ·exact old hy
    ·rw[aO]at hy;refine⟨rw0,by simp,hy.symm,?_⟩;show k.hd=true;rw[hb];rfl
   ·rw[show Hs1=Hs from aj hb]at hy;exact old hy
  have h01:Hs1≠[]:=by
   by_cases hb:k=.box
   ·rw[show Hs1=Hs++[x] from ai hb];simp
   ·rw[show Hs1=Hs from aj hb];exact h0
  have hl1:Hs1.length<=Hs.length+1:=by
   by_cases hb:k=.box
   ·rw[show Hs1=Hs++[x] from ai hb];simp
   ·rw[show Hs1=Hs from aj hb];omega
  obtain⟨es',O',Hs',t5,t6,g1,g2,g3,g4,g5⟩:=BC a b B l es2 (O++[rw0]) Hs1 (.im (.str x)) (.im (.str k.s)) h5 h01 hH1 ho1 (by rw[aA,bb];omega) (by omega);refine⟨es',rw0::O',Hs',t5,t6,g1,by rw[bB]at g2;exact g2,by rw[ay,g3],λr hr=>?_,?_⟩
  ·rcases aM.mp hr with rfl|hr
   ·exact hpl
   ·exact g4 r hr
  ·rw[ay];unfold forL;rw[show gN 5 (.str x) [a,b,.pm es,.ls (O.map oR),.ls (Hs.map D.str),s5,s6]=some [a,b,.pm es,.ls (O.map oR),.ls (Hs.map D.str),.im (.str x),s6] from rfl];simp only[e3];rw[g5,bB];rfl
theorem Oa{ds:List L4.D}(k:Nat)(h:k<=ds.length):cutD ds none (some (k:Int))=ds.take k:=by unfold cutD;rw[HT.F2,HT.BM,eE h,List.drop_zero,Nat.sub_zero]
theorem VL{ds:List L4.D}(k:Nat)(h:k<=ds.length):cutD ds (some (k:Int)) none=ds.drop k:=by unfold cutD;rw[HT.F2,HT.BM,eE h,lr (by rw[cc];omega)]
theorem J6{ds:List L4.D}(k m:Nat)(h:k+m<=ds.length):cutD ds (some (k:Int)) (some ((k+m:Nat):Int))=(ds.drop k).take m:=by unfold cutD;rw[HT.BM,HT.BM,eE h,eE (show k<=ds.length by omega)];congr 1;omega
theorem Lx{rooms:aB}(hN:Nms N)(B:List Rw)(h:IL es)(hB:Ord B)(hr:rooms.length<=100)(hH:∀x∈rooms++[N[5]'(by rw[hN.len];decide)],∃u∈B,u.n=x/\u.k.hd=true):
  ∃(q:Nat) (es':List L4.D) (O:List Rw),q<8/\IL es'/\Ord (B++O)/\O.map Rw.n=(N.drop 6).take q/\(∀r∈O,r.k.pl=true)/\qR es [.lst (N.map D.str),.lst (rooms.map D.str)]=some (.lst (O.map oR),es'):=by
 have h5:5<N.length:=by rw[hN.len];decide
 obtain⟨r,es1,h1,h2,h3,h4⟩:=qm h 8 (by decide);obtain⟨q,rfl⟩:=cn h2;let Hs:=rooms++[N[5]];obtain⟨es',O,Hs',t5,t6,g1,g2,g3,g4,g5⟩:=BC (.im (.lst (N.map D.str))) (.im (.lst (rooms.map D.str))) B ((N.drop 6).take q) es1 [] Hs .un .un h1 (by simp[Hs]) (λx hx=>by rw[bt];exact hH x hx) (by rw[bt];exact hB) (by rw[br,cc,hN.len];simp;omega) (by rw[br,cc,hN.len];simp[Hs];omega);rw[bK]at g2 g5;refine⟨q,es',O,by omega,g1,g2,g3,g4,?_⟩;have run:tK (stL 7 es [.lst (N.map D.str),.lst (rooms.map D.str)])=some (.rn (O.map oR) [.im (.lst (N.map D.str)),.im (.lst (rooms.map D.str)),.pm es',.un,.ls (Hs'.map D.str),t5,t6]):=by
  unfold tK;refine(n4 (ρ':=[.im (.lst (N.map D.str)),.im (.lst (rooms.map D.str)),.pm es,.ls [],.un,.un,.un]) rfl).trans ?_;refine(n4 (ρ':=[.im (.lst (N.map D.str)),.im (.lst (rooms.map D.str)),.pm es,.ls [],.ls (Hs.map D.str),.un,.un]) ((wo (rX (xs:=rooms.map D.str) (ys:=[.str N[5]]) rfl (pD (wq (nZ (og rfl rfl (rF (j:=5) (aL h5))) rfl) (by show 1<=1000;decide))) (by rw[ah];simp;omega))).trans ?_)).trans ?_
  ·show some (Out.nx [_,_,_,_,.ls (rooms.map D.str++[.str N[5]]),_,_])=_;rw[show rooms.map D.str++[.str N[5]]=Hs.map D.str by simp[Hs]]
  ·refine(n4 ((qp (ds:=((N.drop 6).take q).map D.str) (ρ1:=[.im (.lst (N.map D.str)),.im (.lst (rooms.map D.str)),.pm es1,.ls [],.ls (Hs.map D.str),.un,.un]) ?_).trans g5)).trans rfl;have e:vq aa (oAt cx) (oAt (c2 pE cx (pb n8 2 eI))) [.im (.lst (N.map D.str)),.im (.lst (rooms.map D.str)),.pm es,.ls [],.ls (Hs.map D.str),.un,.un]=some (((N.drop 6).take q).map D.str,[.im (.lst (N.map D.str)),.im (.lst (rooms.map D.str)),.pm es1,.ls [],.ls (Hs.map D.str),.un,.un]):=by
    have e1:c2 pE cx (pb n8 2 eI) [.im (.lst (N.map D.str)),.im (.lst (rooms.map D.str)),.pm es,.ls [],.ls (Hs.map D.str),.un,.un]=some (.int ((6+q:Nat):Int),[.im (.lst (N.map D.str)),.im (.lst (rooms.map D.str)),.pm es1,.ls [],.ls (Hs.map D.str),.un,.un]):=og rfl ((rj (es0:=es) (es:=es) (ρ1:=[.im (.lst (N.map D.str)),.im (.lst (rooms.map D.str)),.pm es,.ls [],.ls (Hs.map D.str),.un,.un]) rfl rfl rfl h4).trans rfl) (by show some (D.int (6+(q:Int)))=_;congr 2);have e2:oAt (c2 pE cx (pb n8 2 eI)) [.im (.lst (N.map D.str)),.im (.lst (rooms.map D.str)),.pm es,.ls [],.ls (Hs.map D.str),.un,.un]=some (some ((6+q:Nat):Int),[.im (.lst (N.map D.str)),.im (.lst (rooms.map D.str)),.pm es1,.ls [],.ls (Hs.map D.str),.un,.un]):=by unfold oAt;rw[e1]
    unfold vq;show (match oAt (c2 pE cx (pb n8 2 eI)) [.im (.lst (N.map D.str)),.im (.lst (rooms.map D.str)),.pm es,.ls [],.ls (Hs.map D.str),.un,.un]with
     |some (h,ρ3)=>some (cutD (N.map D.str) (some 6) h,ρ3)
     |none=>none)=_
    rw[e2];show some (cutD (N.map D.str) (some ((6:Nat):Int)) (some ((6+q:Nat):Int)),_)=_;rw[J6 6 q (by rw[ah,hN.len];omega),fj,fi]
   unfold iL;rw[pD e]
 unfold qR fnL;rw[ai (show [D.lst (N.map D.str),D.lst (rooms.map D.str)].length=2 from rfl),run];rfl
def VM:FS:=(oe (oP 7 (pb n8 1 (nY (c2 pE (c1 p9 aP) aJ) oq)))
 (oP 5 (cL (qz (cL (qz (cL (vq aP oNo (oAt bV))) (cL (oG (nY bD oq))))) (cL (vq aP (oAt bV) oNo))))))
theorem Ht:∀(l:List Rw) (es:List L4.D) (R:List Rw) (s6 s7:Sl),IL es->R.length+l.length<=900->∃(es':List L4.D) (R':List Rw) (t6 t7:Sl),IL es'/\R'.Perm (R++l)/\
  forL (gN 6) VM (l.map oR) [a,.ls es,b,c,d,.im (.lst (R.map oR)),s6,s7,x8,x9,x10,x11,x12,x13]=some (.nx [a,.ls es',b,c,d,.im (.lst (R'.map oR)),t6,t7,x8,x9,x10,x11,x12,x13])
 |[],es,R,s6,s7,hi,_=>⟨es,R,s6,s7,hi,by rw[bt],rfl⟩
 |r::l,es,R,s6,s7,hi,hl=>by
  rw[aE]at hl;obtain⟨v,es1,h1,h2,h3,h4⟩:=qm hi ((R.map oR).length+1:Int) (by omega);obtain⟨k,rfl⟩:=cn h2;have hk:k<=(R.map oR).length:=by omega
  let R1:=R.take k++r::R.drop k;have p1:R1.Perm (R++[r]):=by have:=(List.perm_middle (a:=r) (l₁:=R.take k) (l₂:=R.drop k));rw[je]at this;exact this.trans (List.perm_append_singleton r R).symm
  have hR1:R1.length=R.length+1:=p1.length_eq.trans (by simp);let ρ1:aZ:=[a,.ls es1,b,c,d,.im (.lst (R.map oR)),.im (oR r),.im (.int k),x8,x9,x10,x11,x12,x13];have e1:VM [a,.ls es,b,c,d,.im (.lst (R.map oR)),.im (oR r),s7,x8,x9,x10,x11,x12,x13]=some (.nx [a,.ls es1,b,c,d,.im (.lst (R1.map oR)),.im (oR r),.im (.int k),x8,x9,x10,x11,x12,x13]):=by
   unfold VM;refine(n4 (ρ':=ρ1) ((oH (i:=7) (rj (i:=1) (es0:=es) (es:=es) (ρ1:=[a,.ls es,b,c,d,.im (.lst (R.map oR)),.im (oR r),s7,x8,x9,x10,x11,x12,x13]) rfl (show nY (c2 pE (c1 p9 aP) aJ) oq _=some ([.int ((R.map oR).length+1)],_) from rfl) rfl h4)).trans rfl)).trans ?_;have c1:vq aP oNo (oAt bV) ρ1=some ((R.map oR).take k,ρ1):=by show some (cutD (R.map oR) none (some (k:Int)),ρ1)=_;rw[Oa k hk]
   have c2:vq aP (oAt bV) oNo ρ1=some ((R.map oR).drop k,ρ1):=by show some (cutD (R.map oR) (some (k:Int)) none,ρ1)=_;rw[VL k hk]
   refine(oH (pD (rX (pD (rX (pD c1) (pD (wq (ds:=[oR r]) rfl (by show 1<=1000;decide))) ?_)) (pD c2) ?_))).trans ?_
   ·rw[br,ah];simp;omega
   ·rw[aA,br,cc,ah];simp;omega
   ·show some (Out.nx [a,.ls es1,b,c,d,.im (.lst ((R.map oR).take k++[oR r]++(R.map oR).drop k)),.im (oR r),.im (.int k),x8,x9,x10,x11,x12,x13])=_;rw[show (R.map oR).take k++[oR r]++(R.map oR).drop k=R1.map oR by simp[R1,fj,fi]]
  obtain⟨es',R',t6,t7,g1,g2,g3⟩:=Ht (a:=a) (b:=b) (c:=c) (d:=d) (x8:=x8) (x9:=x9) (x10:=x10) (x11:=x11) (x12:=x12) (x13:=x13) l es1 R1 (.im (oR r)) (.im (.int k)) h1 (by omega);refine⟨es',R',t6,t7,g1,g2.trans ((p1.append_right l).trans (by rw[bB];exact jJ _)),?_⟩;rw[ay];unfold forL;rw[show gN 6 (oR r) [a,.ls es,b,c,d,.im (.lst (R.map oR)),s6,s7,x8,x9,x10,x11,x12,x13]=some [a,.ls es,b,c,d,.im (.lst (R.map oR)),.im (oR r),s7,x8,x9,x10,x11,x12,x13] from rfl];simp only[e1];exact g3
def mkT(m:Mk):L4.D:=.tup [.str m.n,.int m.st,.int m.mo]
abbrev kJ:=(nY dU oq)
def mkB:FS:=(oe (oP 10 (c2 pE aJ (pb n8 1 kJ)))
 (o9 (uC 8 (pd (nY (cV 9) (nY (pb n8 1 (nY (c2 pE (cV 10) aJ) oq)) (nY (cV 10) oq)))))))
theorem J7:∀(l:aB) (es:List L4.D) (M:List Mk) (s9 s10:Sl),IL es->M.length+l.length<=900->∃(es':List L4.D) (M':List Mk) (t9 t10:Sl),IL es'/\M'.map Mk.n=l/\(∀m∈M',m.ok)/\
  forL (gN 9) mkB (l.map D.str) [a,.ls es,b,c,d,x5,x6,x7,.ls (M.map mkT),s9,s10,x11,x12,x13]=some (.nx [a,.ls es',b,c,d,x5,x6,x7,.ls ((M++M').map mkT),t9,t10,x11,x12,x13])
 |[],es,M,s9,s10,hi,_=>⟨es,[],s9,s10,hi,rfl,λm hm=>(bO hm).elim,by rw[bt];rfl⟩
 |x::l,es,M,s9,s10,hi,hl=>by
  rw[aE]at hl;obtain⟨v,es1,h1,h2,h3,h4⟩:=qm hi 3 (by decide);obtain⟨w,es2,h5,h6,h7,h8⟩:=qm h1 (1+v+1) (by omega);let m:Mk:=⟨x,w,1+v⟩;let ρ1:aZ:=[a,.ls es1,b,c,d,x5,x6,x7,.ls (M.map mkT),.im (.str x),.im (.int (1+v)),x11,x12,x13];let ρ2:aZ:=[a,.ls es2,b,c,d,x5,x6,x7,.ls (M.map mkT),.im (.str x),.im (.int (1+v)),x11,x12,x13];have e1:mkB [a,.ls es,b,c,d,x5,x6,x7,.ls (M.map mkT),.im (.str x),s10,x11,x12,x13]=some (.nx [a,.ls es2,b,c,d,x5,x6,x7,.ls ((M++[m]).map mkT),.im (.str x),.im (.int (1+v)),x11,x12,x13]):=by unfold mkB;refine(n4 (ρ':=ρ1) ((oH (og rfl (rj (es0:=es) (es:=es) (ρ1:=[a,.ls es,b,c,d,x5,x6,x7,.ls (M.map mkT),.im (.str x),s10,x11,x12,x13]) rfl rfl rfl h4) rfl)).trans rfl)).trans ?_;refine(pU (yX (es0:=M.map mkT) (es:=M.map mkT) (ρ1:=ρ2) (d:=mkT m) rfl (qA (nZ rfl (nZ ((rj (es0:=es1) (es:=es1) (ρ1:=ρ1) rfl (nZ (og rfl rfl rfl) rfl) rfl h8).trans rfl) rfl)) (by show 3<=1000;decide)) rfl (by rw[ah];omega))).trans ?_;show some (Out.nx [a,.ls es2,b,c,d,x5,x6,x7,.ls (M.map mkT++[mkT m]),.im (.str x),.im (.int (1+v)),x11,x12,x13])=_;rw[show M.map mkT++[mkT m]=(M++[m]).map mkT by rw[aW];rfl]
  obtain⟨es',M',t9,t10,g1,g2,g3,g4⟩:=J7 (a:=a) (b:=b) (c:=c) (d:=d) (x5:=x5) (x6:=x6) (x7:=x7) (x11:=x11) (x12:=x12) (x13:=x13) l es2 (M++[m]) (.im (.str x)) (.im (.int (1+v))) h5 (by rw[aA,bb];omega);refine⟨es',m::M',t9,t10,g1,by rw[ay,g2],λy hy=>?_,?_⟩
  ·rcases aM.mp hy with rfl|hy
   ·exact⟨by show 1<=1+v;omega,by show 1+v<=3;omega,h6,by show w<=1+v;omega⟩
   ·exact g3 y hy
  ·rw[ay];unfold forL;rw[show gN 9 (.str x) [a,.ls es,b,c,d,x5,x6,x7,.ls (M.map mkT),s9,s10,x11,x12,x13]=some [a,.ls es,b,c,d,x5,x6,x7,.ls (M.map mkT),.im (.str x),s10,x11,x12,x13] from rfl];simp only[e1];rw[g4,bB];rfl
abbrev kO:=(nY b0 oq)
abbrev kB:=kO
theorem EJ:∀(l:aB) (es:List L4.D),IL es->∃(dk:aB) (es':List L4.D),dk.Sublist l/\IL es'/\
  sT 1 [1] (gN 0) (cT (c2 (dEq false) (pb n8 1 kB) aJ)) aa (l.map D.str) [a,.ls es,b,c,d,x5,x6,x7,x8,x9,x10,x11,x12,x13]=some (dk.map D.str,[a,.ls es',b,c,d,x5,x6,x7,x8,x9,x10,x11,x12,x13])
 |[],es,h=>⟨[],es,eA _,h,rfl⟩
 |x::l,es,h=>by
  obtain⟨v,es1,h1,h2,h3,h4⟩:=qm h 2 (by decide);obtain⟨dk,es',g1,g2,g3⟩:=EJ (a:=a) (b:=b) (c:=c) (d:=d) (x5:=x5) (x6:=x6) (x7:=x7) (x8:=x8) (x9:=x9) (x10:=x10) (x11:=x11) (x12:=x12) (x13:=x13) l es1 h1;have et:cT (c2 (dEq false) (pb n8 1 kB) aJ) [.im (.str x),.pm es]=some (decide (v=1),[.im (.str x),.pm es1]):=ph (og ((rj (es0:=es) (es:=es) (ρ1:=[.im (.str x),.pm es]) rfl rfl rfl h4).trans rfl) rfl (sF false v 1));have st:sT 1 [1] (gN 0) (cT (c2 (dEq false) (pb n8 1 kB) aJ)) aa ((x::l).map D.str) [a,.ls es,b,c,d,x5,x6,x7,x8,x9,x10,x11,x12,x13]=some ((if v=1 then x::dk else dk).map D.str,[a,.ls es',b,c,d,x5,x6,x7,x8,x9,x10,x11,x12,x13]):=by
   rw[ay];unfold sT;rw[show gN 0 (.str x) (yV 1 [1] [a,.ls es,b,c,d,x5,x6,x7,x8,x9,x10,x11,x12,x13])=some [.im (.str x),.pm es] from rfl];simp only[et];have un:rT [1] (([.im (.str x),.pm es1]:aZ).drop 1) [a,.ls es,b,c,d,x5,x6,x7,x8,x9,x10,x11,x12,x13]=some [a,.ls es1,b,c,d,x5,x6,x7,x8,x9,x10,x11,x12,x13]:=rfl;by_cases hv:v=1
   ·rw[ai hv,aT hv];simp only;simp only[show cV 0 [.im (.str x),.pm es1]=some (.str x,[.im (.str x),.pm es1]) from rfl,un,g3];rfl
   ·rw[aj hv,aH hv];simp only[un,g3]
  by_cases hv:v=1
  ·rw[ai hv]at st;exact⟨x::dk,es',g1.cons_cons x,g2,st⟩
  ·rw[aj hv]at st;exact⟨dk,es',g1.cons x,g2,st⟩
def moD:L4.D:=.lst [.tup [],.tup [.str "red"],.tup [.str "old", .str "red"]]
theorem QN(j:Nat)(h:j<3):∃m∈EG,dIx moD (.int j)=some (.tup (m.map D.str)):=by
 match j,h with
 |0,_=>exact⟨[],by decide,rfl⟩
 |1,_=>exact⟨["red"],by decide,rfl⟩
 |2,_=>exact⟨["old", "red"],by decide,rfl⟩
def Th.rw(t:Th):Rw:=⟨t.n,t.k,t.s⟩
def wdD(t:Th):L4.D:=.tup (t.w.map D.str)
abbrev iX:=(nY aa oq)
def VN:FE:=(AR (pd iX) (c2 dIx aq (pb n8 4 kJ)))
theorem DA:∀(R:List Rw) (es:List L4.D),IL es->∃(T:List Th) (es':List L4.D),T.map Th.rw=R/\(∀t∈T,∃m∈EG,t.w=t.n::m)/\IL es'/\
  sT 3 [12,1] (gT (oK (gN 0) (oK (gN 1) (oK (gN 2) qv))) 3) pM VN (R.map oR) [a,.ls es,b,c,d,x5,x6,x7,x8,x9,x10,x11,.im moD,x13]=some (T.map wdD,[a,.ls es',b,c,d,x5,x6,x7,x8,x9,x10,x11,.im moD,x13])
 |[],es,h=>⟨[],es,rfl,λt ht=>(bO ht).elim,h,rfl⟩
 |r::R,es,h=>by
  obtain⟨v,es1,h1,h2,h3,h4⟩:=qm h 3 (by decide);obtain⟨j,rfl⟩:=cn h2;obtain⟨m,hm,em⟩:=QN j (by omega);obtain⟨T,es',g1,g2,g3,g4⟩:=DA (a:=a) (b:=b) (c:=c) (d:=d) (x5:=x5) (x6:=x6) (x7:=x7) (x8:=x8) (x9:=x9) (x10:=x10) (x11:=x11) (x13:=x13) R es1 h1;let t:Th:=⟨r.n,r.n::m,r.k,r.s⟩;have hml:m.length<=2:=by
   have:∀m∈EG,bT m<=2:=by decide
   exact this m hm
  refine⟨t::T,es',by rw[ay,g1];rfl,λu hu=>?_,g3,?_⟩
  ·rcases aM.mp hu with rfl|hu
   ·exact⟨m,hm,rfl⟩
   ·exact g2 u hu
  ·let ρ2:aZ:=[.im (.str r.n),.im (.str r.k.s),.im (oS r.s),.im moD,.pm es];have e1:VN ρ2=some (wdD t,[.im (.str r.n),.im (.str r.k.s),.im (oS r.s),.im moD,.pm es1]):=by have e2:c2 dIx aq (pb n8 4 kJ) ρ2=some (.tup (m.map D.str),[.im (.str r.n),.im (.str r.k.s),.im (oS r.s),.im moD,.pm es1]):=og rfl ((rj (es0:=es) (es:=es) (ρ1:=ρ2) rfl rfl rfl h4).trans rfl) em;unfold VN AR;rw[show pd iX ρ2=some (.tup [.str r.n],ρ2) from rfl];simp only[e2];rw[ai (by rw[ah];simp;omega)];rfl
   rw[ay];unfold sT;rw[show gT (oK (gN 0) (oK (gN 1) (oK (gN 2) qv))) 3 (oR r) (yV 3 [12,1] [a,.ls es,b,c,d,x5,x6,x7,x8,x9,x10,x11,.im moD,x13])=some ρ2 from rfl];simp only[pM,e1];rw[show rT [12,1] (([.im (.str r.n),.im (.str r.k.s),.im (oS r.s),.im moD,.pm es1]:aZ).drop 3) [a,.ls es,b,c,d,x5,x6,x7,x8,x9,x10,x11,.im moD,x13]=some [a,.ls es1,b,c,d,x5,x6,x7,x8,x9,x10,x11,.im moD,x13] from rfl];simp only[g4];rfl
def sV(x:Str):Rw:=⟨x,.room,none⟩
theorem QO(N:aB)(h:N.length=17):∃x,N[5]?=some x/\N.take 5++([x]++((N.drop 6).take 7++N.drop 13))=N:=by refine⟨N[5],aL (by omega),?_⟩;rw[show N.drop 13=(N.drop 6).drop 7 by rw[List.drop_drop],je,List.singleton_append,<- gS,je]
theorem Hu{α:Type}(l:List α){a b:Nat}(h:a<=b):(l.take a).Sublist (l.take b):=by
 have:l.take a=(l.take b).take a:=by rw[List.take_take,eE h]
 rw[this];exact hE _ _
theorem Ly{N:aB}(h:N.length=17)(hy:N[5]?=some y)(hr:r<5)(hq:q<8):((N.take (1+r)++([y]++(N.drop 6).take q))++(N.drop 13).take p).Sublist N:=by obtain⟨x,h1,h2⟩:=QO N h;rw[hy]at h1;cases h1;rw[bB,bB];have:=(Hu N (show 1+r<=5 by omega)).append ((eA [y]).append ((Hu (N.drop 6) (show q<=7 by omega)).append (hE p (N.drop 13))));rw[h2]at this;exact this
theorem VO{T:List Th}(h:T.map Th.rw=R)(hu:u∈R):∃t∈T,t.rw=u:=by rw[<-h]at hu;exact aF.mp hu
theorem QP(T:List Th)(p:Kd->Bool):(T.filter λt=>p t.k).map Th.rw=(T.map Th.rw).filter λr=>p r.k:=by rw[List.filter_map];rfl
theorem QQ(hN:Nms N)(hy:N[5]?=some y)(hr:r<5)(hq:q<8)(hp:p<5)(hz:z∈N.take (1+r)){T:List Th}{M:List Mk}{dk:aB}
  (ho:Ord (((N.take (1+r)).map sV++[⟨y,.you,some z⟩])++O)) (hO:O.map Rw.n=(N.drop 6).take q) (hOp:∀u∈O,u.k.pl=true) (hT:(T.map Th.rw).Perm (((N.take (1+r)).map sV++[⟨y,.you,some z⟩])++O)) (hw:∀t∈T,∃m∈EG,t.w=t.n::m)
  (hM:M.map Mk.n=(N.drop 13).take p) (hMo:∀m∈M,m.ok) (hd:dk.Sublist (N.take (1+r))):Good T M dk/\(T.filter λt=>decide (t.k=.you)).map Th.n=[y]:=by
 let B:List Rw:=((N.take (1+r)).map sV++[⟨y,.you,some z⟩])++O;have hl:(N.take (1+r)).length=1+r:=by rw[br,hN.len];omega
 have hOl:O.length=q:=by have:=aR bT hO;rw[ah,br,cc,hN.len]at this;omega
 have hMl:M.length=min p 4:=by have:=aR bT hM;rw[ah,br,cc,hN.len]at this;exact this
 have hBl:B.length=1+r+1+q:=by simp only[B,aA,ah,hl,hOl,bb]
 have hTl:T.length=B.length:=by have:=hT.length_eq;rw[ah]at this;exact this
 have hBn:B.map Rw.n=N.take (1+r)++([y]++(N.drop 6).take q):=by simp only[B,aW,hO,aV,bB];rw[show (Rw.n∘sV)=id from rfl,ka];rfl
 have hTn:T.map Th.n=(T.map Th.rw).map Rw.n:=by rw[aV];rfl
 have perm:(T.map Th.n++M.map Mk.n).Perm ((N.take (1+r)++([y]++(N.drop 6).take q))++(N.drop 13).take p):=by rw[hTn,hM,<- hBn];exact(hT.map Rw.n).append_right _
 have sub:=Ly hN.len hy hr hq (p:=p);have nd:(T.map Th.n++M.map Mk.n).Nodup:=perm.nodup_iff.mpr (hN.nd.sublist sub);have nm:∀x∈T.map Th.n++M.map Mk.n,Nm x:=λx hx=>hN.nm x (sub.subset (perm.subset hx));have back:∀u∈B,∃t∈T,t.rw=u:=λu hu=>VO rfl (hT.mem_iff.mpr hu);have fwd:∀t∈T,FJ B t.rw:=λt ht=>ho.all _ (hT.mem_iff.mp (cp ht));have filt:∀pp:Kd->Bool,((T.filter λt=>pp t.k).map Th.rw).Perm (B.filter λu=>pp u.k):=λpp=>by rw[QP];exact hT.filter _
 have fl:∀pp:Kd->Bool,(T.filter λt=>pp t.k).length=(B.filter λu=>pp u.k).length:=λpp=>by have:=(filt pp).length_eq;rw[ah]at this;exact this
 have allF:∀(pp:Kd->Bool) (l:List Rw),(∀u∈l,pp u.k=false)->(l.filter λu=>pp u.k)=[]:=λpp l h=>List.filter_eq_nil_iff.mpr λu hu=>by rw[h u hu];exact bp
 have rooms:∀(pp:Kd->Bool),∀u∈(N.take (1+r)).map sV,pp u.k=pp .room:=λpp u hu=>by obtain⟨x,_,rfl⟩:=aF.mp hu;rfl
 have oth:∀u∈O,decide (u.k=.room)=false/\decide (u.k=.you)=false:=λu hu=>by have:=hOp u hu;refine⟨aH λh=>?_,aH λh=>?_⟩<;>rw[h]at this<;>cases this
 have fB:∀pp:Kd->Bool,(B.filter λu=>pp u.k)=((N.take (1+r)).map sV).filter (λu=>pp u.k)++([⟨y,.you,some z⟩]:List Rw).filter (λu=>pp u.k)++O.filter (λu=>pp u.k):=λpp=>by simp only[B,List.filter_append]
 have one:∀(pp:Kd->Bool) (b:Bool),pp .you=b->([⟨y,.you,some z⟩]:List Rw).filter (λu=>pp u.k)=if b then [⟨y,.you,some z⟩]else []:=λpp b h=>by rw[fZ,List.filter_nil];show (if pp .you=true then _ else _)=_;rw[h]
 have gr:∀pp:Kd->Bool,pp .room=true->pp .you=false->(∀u∈O,pp u.k=false)->(B.filter λu=>pp u.k)=(N.take (1+r)).map sV:=λpp h1 h2 h3=>by rw[fB pp,allF pp O h3,jn.mpr λu hu=>(rooms pp u hu).trans h1,one pp false h2];simp
 have gy:∀pp:Kd->Bool,pp .room=false->pp .you=true->(∀u∈O,pp u.k=false)->(B.filter λu=>pp u.k)=[⟨y,.you,some z⟩]:=λpp h1 h2 h3=>by rw[fB pp,allF pp O h3,allF pp _ λu hu=>(rooms pp u hu).trans h1,one pp true h2];rfl
 have gp:∀pp:Kd->Bool,pp .room=false->pp .you=false->(∀u∈O,pp u.k=true)->(B.filter λu=>pp u.k)=O:=λpp h1 h2 h3=>by rw[fB pp,jn.mpr h3,allF pp _ λu hu=>(rooms pp u hu).trans h1,one pp false h2];rfl
 have fr:=gr (λk=>decide (k=.room)) rfl rfl λu hu=>(oth u hu).1;have fy:=gy (λk=>decide (k=.you)) rfl rfl λu hu=>(oth u hu).2;have fp:=gp Kd.pl rfl rfl hOp;have ndT:(T.map Th.n).Nodup:=(bX.mp nd).1;obtain⟨rk,hk⟩:=ho.rank ((hT.map Rw.n).nodup_iff.mp (by rw[<-hTn];exact ndT));have inR:∀x∈N.take (1+r),x∈rmN T:=λx hx=>by obtain⟨t,ht,e⟩:=back (sV x) (bF _ (bF _ (cp hx)));have h1:t.n=x:=aR Rw.n e;have h2:t.k=.room:=aR Rw.k e;exact aF.mpr ⟨t,bS.mpr ⟨ht,aT h2⟩,h1⟩
 refine⟨{
  len:=by omega
  r1:=by have:=fl λk=>decide (k=.room);rw[fr,ah,hl]at this;omega
  r5:=by have:=fl λk=>decide (k=.room);rw[fr,ah,hl]at this;omega
  y1:=by have:=fl λk=>decide (k=.you);rw[fy]at this;exact this
  p7:=by have:=fl Kd.pl;rw[fp,hOl]at this;omega
  m4:=by omega
  mo:=hMo
  nm:=nm
  nd:=nd
  st:=λt ht=>?_
  rk:=⟨rk,λt ht=>?_⟩
  wd:=λt ht=>⟨nm _ (bF _ (cp ht)),hw t ht⟩
  d0:=by have:=hd.length_le;omega
  d1:=(hN.nd.sublist (hE _ _)).sublist hd
  d2:=λx hx=>inR x (hd.subset hx) },?_⟩
 ·obtain⟨n,w,k,s⟩:=t;rcases fwd _ ht with ⟨h1,h2⟩|⟨h1,u,hu,h2,h3⟩|⟨h1,u,hu,h2,h3⟩
  ·cases h1;cases h2;trivial
  ·cases h1;cases h2;obtain⟨t',ht',e⟩:=back u hu;refine aF.mpr ⟨t',bS.mpr ⟨ht',aT ?_⟩,aR Rw.n e⟩;rw[<-h3];exact aR Rw.k e
  ·obtain⟨t',ht',e⟩:=back u hu;have mem:u.n∈hdN T:=aF.mpr ⟨t',bS.mpr ⟨ht',by rw[<-h3];exact aR Kd.hd (aR Rw.k e)⟩,aR Rw.n e⟩;have h2':s=some u.n:=h2;subst h2';have h1':k.pl=true:=h1;cases k with
   |room=>cases h1'
   |you=>cases h1'
   |plain=>exact mem
   |fixed=>exact mem
   |box=>exact mem
   |lamp=>exact mem
 ·obtain⟨h1,h2⟩:=hk t.rw (hT.mem_iff.mp (cp ht));refine⟨by rw[hTl];exact h1,λpq hpq=>?_⟩;obtain⟨h3,u,hu,h4⟩:=h2 pq hpq;obtain⟨t',ht',e⟩:=back u hu;exact⟨h3,t',ht',by rw[<-h4,<- e];rfl⟩
 ·have h:=filt λk=>decide (k=.you);rw[fy]at h;have e:=List.perm_singleton.mp h;have:=aR (List.map Rw.n) e;rw[aV]at this;exact this
def pS(T:List Th)(M:List Mk)(dk:aB)(y:Str):L4.D:=.dic [kS "rows", kS "marks", kS "dark", kS "words", kS "you"] [.lst (T.map λt=>oR t.rw),.lst (M.map mkT),.lst (dk.map D.str),.lst (T.map wdD),.str y]
theorem LA:∀l:aB,Ord (l.map sV):=λl=>by
 suffices h:∀(l k:aB),Ord (k.map sV)->Ord ((k++l).map sV) from h l [] .nil
 intro l
 induction l with
 |nil=>intro k h;rw[bt];exact h
 |cons x l ih=>
  intro k h;have:=ih (k++[x]) (by rw[aW];exact h.snoc (.inl ⟨rfl,rfl⟩))
  rwa [bB]at this
theorem z7(h:e ρ=some (.lst ds,ρ1)):iL e ρ=some (ds,ρ1):=by unfold iL;rw[h]
theorem Hv(h1:f ρ=some (d,ρ1))(h2:sX r ρ1=some (ds,ρ2)):sX ((x,f)::r) ρ=some (d::ds,ρ2):=by unfold sX;rw[h1];simp only[h2]
theorem QR(h:sX kfs ρ=some (ds,ρ1)):u4 kfs ρ=some (.dic (kfs.map λq=>kS q.1) ds,ρ1):=by unfold u4;rw[h];rfl
theorem Xu{n v:Int}(h:n8 es [.int n]=some (.int v,es')):pb n8 1 (nY (cC (.int n)) oq) [a,.ls es,b2,b3,b4,b5,b6,b7,b8,b9,b10,b11,b12,b13]=some (.int v,[a,.ls es',b2,b3,b4,b5,b6,b7,b8,b9,b10,b11,b12,b13]):=
 (rj (es0:=es) (es:=es) (ρ1:=[a,.ls es,b2,b3,b4,b5,b6,b7,b8,b9,b10,b11,b12,b13]) rfl rfl rfl h).trans rfl
theorem QS(c:Int):∃T M dk y,xY [.int c]=some (pS T M dk y)/\Good T M dk/\(T.filter λt=>decide (t.k=.you)).map Th.n=[y]:=by
 obtain⟨es0,i0,d0⟩:=Hn c 110 (by decide);obtain⟨N,es1,hN,i1,d1⟩:=N8 i0;obtain⟨r,es2,i2,r0,r1,d2⟩:=qm i1 5 (by decide);obtain⟨r,rfl⟩:=cn r0;have hr:r<5:=by omega
 let rooms:=N.take (1+r);have hl:rooms.length=1+r:=by simp only[rooms];rw[br,hN.len];omega
 obtain⟨i,es3,i3,j0,j1,d3⟩:=qm i2 rooms.length (by omega);obtain⟨i,rfl⟩:=cn j0;have hi:i<rooms.length:=by omega
 have h5:5<N.length:=by rw[hN.len];decide
 let y:=N[5];let z:=rooms[i];have hz:z∈rooms:=cZ hi;let B:List Rw:=rooms.map sV++[⟨y,.you,some z⟩];have hB:Ord B:=(LA rooms).snoc (.inr (.inl ⟨rfl,sV z,cp hz,rfl,rfl⟩));obtain⟨q,es4,O,hq,i4,hO,hOn,hOp,d4⟩:=Lx hN B i3 hB (rooms:=rooms) (by omega) λx hx=>by
  rcases bg.mp hx with hx|hx
  ·exact⟨sV x,bF _ (cp hx),rfl,rfl⟩
  ·rw[aO]at hx;exact⟨⟨y,.you,some z⟩,bH _ (aO.mpr rfl),hx.symm,rfl⟩
 have hOl:O.length<=7:=by have:=aR bT hOn;rw[ah,br]at this;omega
 have hBl:B.length<=6:=by simp only[B,aA,ah,bb];omega
 obtain⟨es5,R,t6,t7,i5,hR,d5⟩:=Ht (a:=.im (.int c)) (b:=.im (.lst (N.map D.str))) (c:=.im (.lst (rooms.map D.str))) (d:=.im (.lst (B.map oR))) (x8:=.un) (x9:=.un) (x10:=.un) (x11:=.un) (x12:=.un) (x13:=.un) (B++O) es4 [] .un .un i4 (by rw[aA];simp;omega);rw[bK]at hR;obtain⟨p,es6,i6,p0,p1,d6⟩:=qm i5 5 (by decide);obtain⟨p,rfl⟩:=cn p0;obtain⟨es7,M,t9,t10,i7,hMn,hMo,d7⟩:=J7 (a:=.im (.int c)) (b:=.im (.lst (N.map D.str))) (c:=.im (.lst (rooms.map D.str))) (d:=.im (.lst (B.map oR))) (x5:=.im (.lst (R.map oR))) (x6:=t6) (x7:=t7) (x11:=.un) (x12:=.un) (x13:=.un) ((N.drop 13).take p) es6 [] .un .un i6 (by rw[br,cc,hN.len];simp;omega);rw[bK]at d7;obtain⟨dk,es8,hdk,i8,d8⟩:=EJ (a:=.im (.int c)) (b:=.im (.lst (N.map D.str))) (c:=.im (.lst (rooms.map D.str))) (d:=.im (.lst (B.map oR))) (x5:=.im (.lst (R.map oR))) (x6:=t6) (x7:=t7) (x8:=.ls (M.map mkT)) (x9:=t9) (x10:=t10) (x11:=.un) (x12:=.un) (x13:=.un) rooms es7 i7;obtain⟨T,es9,hT,hw,i9,d9⟩:=DA (a:=.im (.int c)) (b:=.im (.lst (N.map D.str))) (c:=.im (.lst (rooms.map D.str))) (d:=.im (.lst (B.map oR))) (x5:=.im (.lst (R.map oR))) (x6:=t6) (x7:=t7) (x8:=.ls (M.map mkT)) (x9:=t9) (x10:=t10) (x11:=.im (.lst (dk.map D.str))) (x13:=.un) R es8 i8;obtain⟨g1,g2⟩:=QQ hN (aL h5) hr hq (by omega) hz hO hOn hOp (hT▸hR) hw hMn hMo hdk;refine⟨T,M,dk,y,ox (ρ:=[.im (.int c),.ls es9,.im (.lst (N.map D.str)),.im (.lst (rooms.map D.str)),.im (.lst (B.map oR)),.im (.lst (R.map oR)),t6,t7,.im (.lst (M.map mkT)),t9,t10,.im (.lst (dk.map D.str)),.im moD,.im (.lst (T.map wdD))]) rfl ?_,g1,g2⟩;unfold xX;refine(n4 (ρ':=[.im (.int c),.ls es0,.un,.un,.un,.un,.un,.un,.un,.un,.un,.un,.un,.un]) ((wo (n9 (ds:=[.int c,.int 110]) rfl d0)).trans rfl)).trans ?_;refine(n4 (ρ':=[.im (.int c),.ls es1,.im (.lst (N.map D.str)),.un,.un,.un,.un,.un,.un,.un,.un,.un,.un,.un]) ((oH (rj (es0:=es0) (es:=es0) (ds:=[]) (ρ1:=[.im (.int c),.ls es0,.un,.un,.un,.un,.un,.un,.un,.un,.un,.un,.un,.un]) rfl rfl rfl d1)).trans rfl)).trans ?_;have cutE:∀{lo hi:FO} {ρ ρ1 ρ2:aZ} {l h:Option Int},cV 2 ρ=some (.lst (N.map D.str),ρ)->lo ρ=some (l,ρ1)->hi ρ1=some (h,ρ2)->vq ar lo hi ρ=some (cutD (N.map D.str) l h,ρ2):=λ{lo hi ρ ρ1 ρ2 l h} h1 h2 h3=>by unfold vq;simp only[h1,h2,h3]
 have addE:∀{k:Nat} {v:Nat} {n:Int} {ρ ρ1:aZ},pb n8 1 (nY (cC (.int n)) oq) ρ=some (.int v,ρ1)->oAt (c2 pE (cC (.int k)) (pb n8 1 (nY (cC (.int n)) oq))) ρ=some (some ((k+v:Nat):Int),ρ1):=λ{k v n ρ ρ1} h=>by unfold oAt;rw[og (g:=pE) (x:=.int k) (z:=.int ((k+v:Nat):Int)) rfl h (by show some (D.int ((k:Int)+(v:Int)))=_;congr 2)]
 refine(n4 (ρ':=[.im (.int c),.ls es2,.im (.lst (N.map D.str)),.im (.lst (rooms.map D.str)),.un,.un,.un,.un,.un,.un,.un,.un,.un,.un]) ((oH (pD (cutE rfl rfl (addE (k:=1) (v:=r) (Xu d2))))).trans ?_)).trans ?_
 ·rw[Oa (1+r) (by rw[ah,hN.len];omega),<- fj];rfl
 let ρ3:List L4.D->aZ:=λes=>[.im (.int c),.ls es,.im (.lst (N.map D.str)),.im (.lst (rooms.map D.str)),.un,.un,.un,.un,.un,.un,.un,.un,.un,.un];refine(n4 (ρ':=[.im (.int c),.ls es3,.im (.lst (N.map D.str)),.im (.lst (rooms.map D.str)),.im (.lst (B.map oR)),.un,.un,.un,.un,.un,.un,.un,.un,.un]) ((oH (pD (rX (xs:=rooms.map λx=>oR (sV x)) (ys:=[oR ⟨y,.you,some z⟩]) (ρ1:=ρ3 es2) (ρ2:=ρ3 es3)
  (pD (xl D.str (λx=>oR (sV x)) rooms rfl (by omega) λx _=>⟨_,_,rfl,rfl,rfl⟩))
  (pD (wq (nZ (qA (ds:=[.str y,.str "you", .str z]) (nZ (og rfl rfl (rF (j:=5) (aL h5))) (nZ rfl (nZ (og (ρ1:=ρ3 es2) (x:=.lst (rooms.map D.str)) (y:=.int i) rfl ((rj (i:=1) (es0:=es2) (es:=es2) (ρ1:=ρ3 es2) (ds:=[.int rooms.length]) rfl (by show some ([D.int ((rooms.map D.str).length:Nat)],_)=_;rw[ah]) rfl d3).trans rfl) (rF (aL hi))) rfl))) (by show 3<=1000;decide)) rfl) (by show 1<=1000;decide))) (by rw[ah];simp;omega)))).trans ?_)).trans ?_
 ·show some (Out.nx [.im (.int c),.ls es3,.im (.lst (N.map D.str)),.im (.lst (rooms.map D.str)),.im (.lst ((rooms.map λx=>oR (sV x))++[oR ⟨y,.you,some z⟩])),.un,.un,.un,.un,.un,.un,.un,.un,.un])=_;rw[show (rooms.map λx=>oR (sV x))++[oR ⟨y,.you,some z⟩]=B.map oR by simp only[B,aW,aV];rfl]
 refine(n4 (ρ':=[.im (.int c),.ls es3,.im (.lst (N.map D.str)),.im (.lst (rooms.map D.str)),.im (.lst (B.map oR)),.im (.lst []),.un,.un,.un,.un,.un,.un,.un,.un]) rfl).trans ?_;let ρ5:List L4.D->aZ:=λes=>[.im (.int c),.ls es,.im (.lst (N.map D.str)),.im (.lst (rooms.map D.str)),.im (.lst (B.map oR)),.im (.lst []),.un,.un,.un,.un,.un,.un,.un,.un];refine(n4 ((qp (ds:=(B++O).map oR) (ρ1:=ρ5 es4) ?_).trans d5)).trans ?_
 ·have em:pJ qR 1 (nY ar (nY aq oq)) (ρ5 es3)=some (.lst (O.map oR),ρ5 es4):=by
   unfold pJ;show (match qR es3 [.lst (N.map D.str),.lst (rooms.map D.str)]with
    |some (d,es')=>some (d,putAt (ρ5 es3) 1 es')
    |none=>none)=_
   rw[d4];rfl
  exact(z7 (pD (rX (xs:=B.map oR) (ys:=O.map oR) rfl em (by rw[ah,ah];omega)))).trans (by rw[<-aW])
 refine(n4 (ρ':=[.im (.int c),.ls es5,.im (.lst (N.map D.str)),.im (.lst (rooms.map D.str)),.im (.lst (B.map oR)),.im (.lst (R.map oR)),t6,t7,.ls [],.un,.un,.un,.un,.un]) rfl).trans ?_;refine(n4 ((qp (ds:=((N.drop 13).take p).map D.str) (ρ1:=[.im (.int c),.ls es6,.im (.lst (N.map D.str)),.im (.lst (rooms.map D.str)),.im (.lst (B.map oR)),.im (.lst (R.map oR)),t6,t7,.ls [],.un,.un,.un,.un,.un]) ?_).trans d7)).trans ?_
 ·refine(z7 (pD (cutE (l:=some ((13:Nat):Int)) rfl rfl (addE (k:=13) (v:=p) (Xu d6))))).trans ?_;have ec:cutD (N.map D.str) (some ((13:Nat):Int)) (some ((13+p:Nat):Int))=((N.drop 13).take p).map D.str:=by rw[J6 13 p (by rw[ah,hN.len];omega),fj,fi]
  rw[ec]
 refine(n4 (ρ':=[.im (.int c),.ls es8,.im (.lst (N.map D.str)),.im (.lst (rooms.map D.str)),.im (.lst (B.map oR)),.im (.lst (R.map oR)),t6,t7,.ls (M.map mkT),t9,t10,.im (.lst (dk.map D.str)),.un,.un]) ((oH (pD ((wt (ds:=rooms.map D.str) (ρ1:=[.im (.int c),.ls es7,.im (.lst (N.map D.str)),.im (.lst (rooms.map D.str)),.im (.lst (B.map oR)),.im (.lst (R.map oR)),t6,t7,.ls (M.map mkT),t9,t10,.un,.un,.un]) rfl (by rw[ah];omega)).trans d8))).trans rfl)).trans ?_;refine(n4 (ρ':=[.im (.int c),.ls es8,.im (.lst (N.map D.str)),.im (.lst (rooms.map D.str)),.im (.lst (B.map oR)),.im (.lst (R.map oR)),t6,t7,.ls (M.map mkT),t9,t10,.im (.lst (dk.map D.str)),.im moD,.un]) rfl).trans ?_;have hRl:R.length<=900:=by have:=hR.length_eq;rw[aA]at this;omega
 refine(n4 (ρ':=[.im (.int c),.ls es9,.im (.lst (N.map D.str)),.im (.lst (rooms.map D.str)),.im (.lst (B.map oR)),.im (.lst (R.map oR)),t6,t7,.ls (M.map mkT),t9,t10,.im (.lst (dk.map D.str)),.im moD,.im (.lst (T.map wdD))]) ((oH (pD ((wt (ds:=R.map oR) (ρ1:=[.im (.int c),.ls es8,.im (.lst (N.map D.str)),.im (.lst (rooms.map D.str)),.im (.lst (B.map oR)),.im (.lst (R.map oR)),t6,t7,.ls (M.map mkT),t9,t10,.im (.lst (dk.map D.str)),.im moD,.un]) rfl (by rw[ah];omega)).trans d9))).trans rfl)).trans ?_;refine ou ?_;have eN:c2 dIx ar dr [.im (.int c),.ls es9,.im (.lst (N.map D.str)),.im (.lst (rooms.map D.str)),.im (.lst (B.map oR)),.im (.lst (R.map oR)),t6,t7,.im (.lst (M.map mkT)),t9,t10,.im (.lst (dk.map D.str)),.im moD,.im (.lst (T.map wdD))]=some (.str y,[.im (.int c),.ls es9,.im (.lst (N.map D.str)),.im (.lst (rooms.map D.str)),.im (.lst (B.map oR)),.im (.lst (R.map oR)),t6,t7,.im (.lst (M.map mkT)),t9,t10,.im (.lst (dk.map D.str)),.im moD,.im (.lst (T.map wdD))]):=og rfl rfl (rF (j:=5) (aL h5));have eT:R.map oR=T.map λt=>oR t.rw:=by rw[<-hT,aV];rfl
 unfold pS;rw[<-eT];exact QR (Hv rfl (Hv rfl (Hv rfl (Hv rfl (Hv eN rfl)))))
theorem Ob:∀T:List Th,zv (T.map λt=>oR t.rw) (T.map wdD)=T.map λt=>D.tup [oR t.rw,wdD t]
 |[]=>rfl
 |t::T=>by have:=Ob T;unfold zv at this ⊢;rw[ay,ay,dY,this];rfl
theorem QT(g:Good T M dk):ya [pS T M dk y]=some (wyT T):=by
 have hl:=g.len;let sp:=pS T M dk y;let ρ:aZ:=[.im sp,.im (.lst ((rmN T).map D.str))];have hn:1<=(rmN T).length:=by have:=g.r1;unfold rmN;rw[ah];exact this
 have h5:(rmN T).length<=5:=by have:=g.r5;unfold rmN;rw[ah];exact this
 have h0:dIx (.lst ((rmN T).map D.str)) (.int 0)=some (.str ((rmN T).headD "")):=by
  refine rF (j:=0) ?_;cases e:rmN T with
  |nil=>rw[e]at hn;cases hn
  |cons a r=>rfl
 have h1:dIx (.lst ((rmN T).map D.str)) (.int (((rmN T).length:Int) - 1))=some (.str ((rmN T).getLastD "")):=by
  rw[show ((rmN T).length:Int) - 1=(((rmN T).length - 1:Nat):Int) by omega];refine rF ?_;have hz:rmN T≠[]:=λe=>by rw[e]at hn;cases hn
  rw[lb,List.getLast?_eq_getElem?,aL (by omega)];rfl
 refine yY (ρ:=ρ) rfl ?_;unfold xZ;have c:=wZ (k:=3) (cap:=[]) (g:=gT (oK (gN 0) (oK (gN 1) (oK (gN 2) qv))) 3) (ft:=cT (c2 (dEq false) ag eL)) (fe:=cV 0) (s:=iL (c2 qt aa (cC (.str "rows")))) (λt:Th=>oR t.rw) (λt=>D.str t.n) (λt=>decide (t.k=.room)) T (ρ:=[.im sp,.un]) (ρ1:=[.im sp,.un]) rfl (by omega) λt _=>⟨[.im (.str t.n),.im (.str t.k.s),.im (oS t.s)],[.im (.str t.n),.im (.str t.k.s),.im (oS t.s)],rfl,ph (og rfl rfl (BA t.k .room)),λ_=>⟨_,rfl,rfl⟩,λ_=>rfl⟩
 refine(n4 (ρ':=ρ) ((oH (pD c)).trans ?_)).trans ?_
 ·have:((T.filter λt=>decide (t.k=.room)).map λt=>D.str t.n)=(rmN T).map D.str:=by unfold rmN;rw[aV];rfl
  rw[this];rfl
 have el:c1 p9 ag ρ=some (.int ((rmN T).length:Int),ρ):=pC rfl (by show some (D.int _)=_;rw[ah]);refine ym (wq (nZ (qA (nZ (og rfl rfl h0) (nZ rfl (nZ (og (ρ1:=ρ) rfl (og el rfl rfl) h1) (nZ rfl rfl)))) (bE rfl)) (nZ (qA (nZ (og (ρ1:=ρ) rfl rfl h0) (nZ rfl (nZ (og rfl rfl h0) (nZ rfl rfl)))) (bE rfl)) rfl)) (bE rfl))
theorem Oc(g:Good T M dk)(hy:(T.filter λt=>decide (t.k=.you)).map Th.n=[y])(emo:qL [TD T,MD M]=some mo):wW [pS T M dk y]=some (.obj 14 wNs (wDs T M dk y mo)):=by
 have e:=N5 g y hy emo;have hl:=g.len;have hm:=g.m4;let sp:=pS T M dk y;refine ox (ρ:=[.im sp,.im (TD T),.im (MD M)]) rfl ?_;unfold wV;refine(n4 (ρ':=[.im sp,.im (TD T),.un]) ((oH (pD (xl (λt=>D.tup [oR t.rw,wdD t]) thD T (ρ1:=[.im sp,.un,.un]) ?_ (by omega) λt _=>⟨[.im (oR t.rw),.im (wdD t)],[.im (oR t.rw),.im (wdD t)],rfl,rfl,rfl⟩))).trans rfl)).trans ?_
 ·show some (zv (T.map λt=>oR t.rw) (T.map wdD),[Sl.im sp,.un,.un])=_;rw[Ob]
 refine(n4 (ρ':=[.im sp,.im (TD T),.im (MD M)]) ((oH (pD (xl mkT mkD M (ρ1:=[.im sp,.im (TD T),.un]) rfl (by omega) λm _=>⟨[.im (.str m.n),.im (.int m.st),.im (.int m.mo)],[.im (.str m.n),.im (.int m.st),.im (.int m.mo)],rfl,rfl,rfl⟩))).trans rfl)).trans ?_;exact ou (zA (g:=λds=>sI (ds++[])) (ds:=[TD T,MD M,.lst (dk.map D.str),.lst (wyT T),.lst [],.lst []]) (nZ rfl (nZ rfl (nZ rfl (nZ (pD (n9 (ds:=[sp]) rfl (QT g))) rfl)))) e)
def nmK(T:List Th)(p:Kd->Bool):aB:=(T.filter λt=>p t.k).map Th.n
theorem of_ok{T:List Th}(hl:T.length<=900){K:L4.D}(p:Kd->Bool)(hp:∀k:Kd,dIn false (.str k.s) K=some (.bl (p k))):pY [pS T M dk y,K]=some ((nmK T p).map D.str):=by
 let sp:=pS T M dk y;refine yY (ρ:=[.im sp,.im K]) rfl ?_;have:=wZ (k:=3) (cap:=[1]) (g:=gT (oK (gN 0) (oK (gN 1) (oK (gN 2) qv))) 3) (ft:=cT (c2 (dIn false) ag aq)) (fe:=cV 0) (s:=iL (c2 qt aa (cC (.str "rows")))) (λt:Th=>oR t.rw) (λt=>D.str t.n) (λt=>p t.k) T (ρ:=[.im sp,.im K]) (ρ1:=[.im sp,.im K]) rfl (by omega) λt _=>⟨[.im (.str t.n),.im (.str t.k.s),.im (oS t.s),.im K],[.im (.str t.n),.im (.str t.k.s),.im (oS t.s),.im K],rfl,ph (og rfl rfl (hp t.k)),λ_=>⟨_,rfl,rfl⟩,λ_=>rfl⟩
 refine ym (this.trans ?_);unfold nmK;rw[aV];rfl
theorem VP(k:Kd):dIn false (.str k.s) (.lst [.str "box"])=some (.bl (decide (k=.box))):=by cases k<;>kernel_rfl
theorem Xv(k:Kd):dIn false (.str k.s) (.lst [.str "box", .str "lamp"])=some (.bl k.mk):=by cases k<;>kernel_rfl
theorem Xw(k:Kd):dIn false (.str k.s) (.lst [.str "room", .str "you"])=some (.bl !k.pl):=by cases k<;>kernel_rfl
theorem J8(k:Kd):dIn false (.str k.s) (.lst [.str "room"])=some (.bl (decide (k=.room))):=by cases k<;>kernel_rfl
def Kd.ot:Kd->Bool
 |.plain=>true|.fixed=>true|.lamp=>true|_=>false
theorem Xx(k:Kd):dIn false (.str k.s) (.lst [.str "plain", .str "fixed", .str "lamp"])=some (.bl k.ot):=by cases k<;>kernel_rfl
theorem pX(T:List Th)(p:Kd->Bool):(nmK T p).Sublist (T.map Th.n):=List.Sublist.map _ List.filter_sublist
abbrev dcI(V:List (Str×Int)):L4.D:=.dic (V.map λq=>kS q.1) (V.map λq=>D.int q.2)
def moL(T:List Th)(M:List Mk):List (Str×Int):=((nmK T Kd.mk).map λx=>(x,(1:Int)))++M.map λm=>(m.n,m.mo)
theorem z8(g:Good T M dk):∃V:List (Str×Int),pO [pS T M dk y]=some (dcI V)/\V.map aC=nmK T Kd.mk++M.map Mk.n/\(∀q∈V,1<=q.2)/\V=moL T M:=by
 have hl:=g.len;have hm:=g.m4;let sp:=pS T M dk y;have nd:(nmK T Kd.mk++M.map Mk.n).Nodup:=g.nd.sublist ((pX T _).append (eA _));have ndk:(((nmK T Kd.mk).map kS)++M.map λm=>kS m.n).Nodup:=by have:=uv nd;rw[aW,aV]at this;exact this
 have hln:(nmK T Kd.mk).length<=200:=by have:=(pX T Kd.mk).length_le;rw[ah]at this;omega
 obtain⟨s2,e1⟩:=v5 (g:=gN 2) (i:=1) (fk:=cV 2) (fv:=cC (.int 1)) D.str id (λ_=>D.int 1) (λks ds s=>[.im sp,.dk ks ds,s,.un,.un])
  (λx ks ds s=>⟨[.im sp,.dk ks ds,.im (.str x),.un,.un],rfl,rfl,rfl,rfl,λks' ds'=>⟨_,rfl⟩⟩) (nmK T Kd.mk) [] [] .un (by rw[bK];exact(bX.mp ndk).1) (by simp;omega) rfl
 rw[bK,bK]at e1;have gen:∀(l:List Mk) (ks:List Key) (ds:List L4.D) (a b c:Sl),(ks++l.map λm=>kS m.n).Nodup->ks.length+l.length<=1000->ds.length=ks.length->∃a' b' c',forL (gT (oK (gN 2) (oK (gN 3) (oK (gN 4) qv))) 3) (pF 1 ar av) (l.map mkT) [.im sp,.dk ks ds,a,b,c]=some (.nx [.im sp,.dk (ks++l.map λm=>kS m.n) (ds++l.map λm=>D.int m.mo),a',b',c']):=by
  intro l
  induction l with
  |nil=>intro ks ds a b c _ _ _;exact⟨a,b,c,by rw[bI,bI,bI,bt,bt];rfl⟩
  |cons m l ih=>
   intro ks ds a b c nd hl he;rw[aE]at hl;have hn:kS m.n∉ks:=λz=>by rw[bX]at nd;exact nd.2.2 _ z _ (by rw[ay];exact ba) rfl
   obtain⟨a',b',c',h⟩:=ih (ks++[kS m.n]) (ds++[.int m.mo]) (.im (.str m.n)) (.im (.int m.st)) (.im (.int m.mo)) (by rw[bB];exact nd) (by rw[aA,bb];omega) (by rw[aA,aA,he,bb,bb]);refine⟨a',b',c',?_⟩;rw[ay];unfold forL;rw[show gT (oK (gN 2) (oK (gN 3) (oK (gN 4) qv))) 3 (mkT m) [.im sp,.dk ks ds,a,b,c]=some [.im sp,.dk ks ds,.im (.str m.n),.im (.int m.st),.im (.int m.mo)] from rfl];simp only[yc (i:=1) (fk:=cV 2) (fv:=cV 4) (ρ:=[.im sp,.dk ks ds,.im (.str m.n),.im (.int m.st),.im (.int m.mo)]) (x:=m.n) (d:=.int m.mo) rfl rfl rfl hn (by omega) he];refine h.trans ?_;rw[ay,ay,bB,bB];rfl
 obtain⟨a',b',c',e2⟩:=gen M ((nmK T Kd.mk).map kS) ((nmK T Kd.mk).map λ_=>D.int 1) s2 .un .un ndk (by rw[ah];omega) (by rw[ah,ah]);let V:List (Str×Int):=((nmK T Kd.mk).map λx=>(x,(1:Int)))++M.map λm=>(m.n,m.mo);refine⟨V,ox (ρ:=[.im sp,.im (dcI V),a',b',c']) rfl ?_,?_,λq hq=>?_,rfl⟩
 ·unfold wX;refine(n4 (ρ':=[.im sp,.dk [] [],.un,.un,.un]) rfl).trans ?_;refine(n4 ((qp (z7 (pD (n9 (nZ rfl (nZ rfl rfl)) (of_ok (by omega) Kd.mk Xv))))).trans e1)).trans ?_;refine(n4 ((qp rfl).trans e2)).trans ?_;have q1:V.map (λq=>kS q.1)=(nmK T Kd.mk).map kS++M.map λm=>kS m.n:=by simp only[V,aW,aV];rfl
  have q2:V.map (λq=>D.int q.2)=((nmK T Kd.mk).map λ_=>D.int 1)++M.map λm=>D.int m.mo:=by simp only[V,aW,aV];rfl
  unfold dcI;rw[q1,q2];rfl
 ·simp only[V,aW,aV];rw[show (aC∘λx:Str=>(x,(1:Int)))=id from rfl,ka];rfl
 ·rcases bg.mp hq with h|h
  ·obtain⟨x,_,rfl⟩:=aF.mp h;exact Int.le_refl _
  ·obtain⟨m,h1,rfl⟩:=aF.mp h;exact(g.mo m h1).1
theorem Jb(h:e ρ=some (.dic ks ds,ρ1)):iIt e ρ=some (zv (ks.map Iu) ds,ρ1):=by unfold iIt;rw[h]
theorem AG:∀V:List (Str×Int),zv ((V.map λq=>kS q.1).map Iu) (V.map λq=>D.int q.2)=V.map λq=>D.tup [.str q.1,.int q.2]
 |[]=>rfl
 |q::V=>by have:=AG V;unfold zv at this ⊢;rw[ay,ay,ay,dY,this];rfl
abbrev kE:=(nY (c2 pE av aJ) oq)
theorem Od(g:Good T M dk)(hi:IL es):∃(V:List (Str×Int)) (es':List L4.D),IL es'/\ui es [pS T M dk y]=some (dcI V,es')/\V.map aC=nmK T Kd.mk++M.map Mk.n/\∀p∈V,∃q∈moL T M,p.1=q.1/\0<=p.2/\p.2<=q.2:=by
 obtain⟨V0,e0,n0,p0,w0⟩:=z8 (y:=y) g;let sp:=pS T M dk y;have nd:(nmK T Kd.mk++M.map Mk.n).Nodup:=g.nd.sublist ((pX T _).append (eA _));have hln:V0.length<=204:=by have h1:=aR bT n0;have h2:=(pX T Kd.mk).length_le;have h3:=g.len;have h4:=g.m4;rw[ah,aA,ah]at h1;rw[ah]at h2;omega
 have gen:∀(l:List (Str×Int)) (es:List L4.D) (ks:List Key) (ds:List L4.D) (a b:Sl),IL es->(∀q∈l,1<=q.2)->(ks++l.map λq=>kS q.1).Nodup->ks.length+l.length<=1000->ds.length=ks.length->∃(V:List (Str×Int)) (es':List L4.D) (a' b':Sl),IL es'/\V.map aC=l.map aC/\(∀p∈V,∃q∈l,p.1=q.1/\0<=p.2/\p.2<=q.2)/\
   forL (gT (oK (gN 3) (oK (gN 4) qv)) 2) (pF 2 aq (pb n8 1 kE)) (l.map λq=>D.tup [.str q.1,.int q.2]) [.im sp,.pm es,.dk ks ds,a,b]=some (.nx [.im sp,.pm es',.dk (ks++V.map λq=>kS q.1) (ds++V.map λq=>D.int q.2),a',b']):=by
  intro l
  induction l with
  |nil=>intro es ks ds a b hi _ _ _ _;exact⟨[],es,a,b,hi,rfl,λp hp=>(bO hp).elim,by rw[bI,bI,bI,bt,bt];rfl⟩
  |cons q l ih=>
   intro es ks ds a b hi hp nd hl he;rw[aE]at hl;have hq:=hp q ba;obtain⟨v,es1,h1,hv0,hv1,h4⟩:=qm hi (q.2+1) (by omega);have hn:kS q.1∉ks:=λz=>by rw[bX]at nd;exact nd.2.2 _ z _ (by rw[ay];exact ba) rfl
   obtain⟨V,es',a',b',g1,g2,gw,g3⟩:=ih es1 (ks++[kS q.1]) (ds++[.int v]) (.im (.str q.1)) (.im (.int q.2)) h1 (λq hq=>hp q (bh _ hq)) (by rw[bB];exact nd) (by rw[aA,bb];omega) (by rw[aA,aA,he,bb,bb]);refine⟨(q.1,v)::V,es',a',b',g1,by rw[ay,ay,g2],λp hp=>?_,?_⟩
   ·rcases aM.mp hp with rfl|hp
    ·exact⟨q,ba,rfl,hv0,by show v<=q.2;omega⟩
    ·obtain⟨q',c1,c2⟩:=gw p hp;exact⟨q',bh _ c1,c2⟩
   rw[ay];unfold forL;rw[show gT (oK (gN 3) (oK (gN 4) qv)) 2 (.tup [.str q.1,.int q.2]) [.im sp,.pm es,.dk ks ds,a,b]=some [.im sp,.pm es,.dk ks ds,.im (.str q.1),.im (.int q.2)] from rfl];have ev:pb n8 1 kE [.im sp,.pm es,.dk ks ds,.im (.str q.1),.im (.int q.2)]=some (.int v,[.im sp,.pm es1,.dk ks ds,.im (.str q.1),.im (.int q.2)]):=(rj (es0:=es) (es:=es) (ρ1:=[.im sp,.pm es,.dk ks ds,.im (.str q.1),.im (.int q.2)]) rfl (nZ (og rfl rfl rfl) rfl) rfl h4).trans rfl;have st:pF 2 aq (pb n8 1 kE) [.im sp,.pm es,.dk ks ds,.im (.str q.1),.im (.int q.2)]=some (.nx [.im sp,.pm es1,.dk (ks++[kS q.1]) (ds++[.int v]),.im (.str q.1),.im (.int q.2)]):=by have:=yc (i:=2) (fk:=cV 3) (fv:=cC (.int v)) (ρ:=[.im sp,.pm es1,.dk ks ds,.im (.str q.1),.im (.int q.2)]) (x:=q.1) (d:=.int v) rfl rfl rfl hn (by omega) he;unfold pF at this ⊢;rw[ev];exact this
   simp only[st];refine g3.trans ?_;rw[ay,ay,bB,bB];rfl
 have ndV:(([]:List Key)++V0.map λq=>kS q.1).Nodup:=by have:=uv (l:=V0.map aC) (by rw[n0];exact nd);rw[aV]at this;rw[bK];exact this
 obtain⟨V,es',a',b',g1,g2,gw,g3⟩:=gen V0 es [] [] .un .un hi p0 ndV (by simp;omega) rfl;rw[bK,bK]at g3;refine⟨V,es',g1,?_,by rw[g2,n0],λp hp=>w0▸gw p hp⟩;have run:uh (stL 5 es [sp])=some (.rt (dcI V) [.im sp,.pm es',.im (dcI V),a',b']):=by unfold uh;refine(n4 (ρ':=[.im sp,.pm es,.dk [] [],.un,.un]) rfl).trans ?_;refine(n4 ((qp (ds:=V0.map λq=>D.tup [.str q.1,.int q.2]) (ρ1:=[.im sp,.pm es,.dk [] [],.un,.un]) ?_).trans g3)).trans rfl;exact(Jb (n9 (g:=pO) (ds:=[sp]) (ρ1:=[.im sp,.pm es,.dk [] [],.un,.un]) rfl e0)).trans (by rw[AG])
 unfold ui fnL;rw[ai (show [sp].length=1 from rfl),run];rfl
abbrev atD(A:List (Str×Str)):L4.D:=.dic (A.map λq=>kS q.1) (A.map λq=>D.str q.2)
structure Pl(y:Str)(rm:aB)(A:List (Str×Str))(Hs:aB)(rk:Str->Nat)(m:Nat):Prop where
 nd:(A.map aC).Nodup
 lt:∀q∈A,rk q.2<rk q.1/\rk q.1<m
 vh:∀q∈A,q.2∈Hs
 hs:∀h∈Hs,rk h<m
 ry:rk y=1
 rr:∀x∈rm,rk x=0
theorem Pl.add{rm:aB}(P:Pl y rm A Hs rk m)(hh:h∈Hs)(h1:x∉A.map aC)(h2:x∉Hs)(h3:x≠y)(h4:x∉rm)(Hs':aB)(hH:∀z∈Hs',z∈Hs\/z=x)(hS:∀z∈Hs,z∈Hs'):
  ∃rk',Pl y rm (A++[(x,h)]) Hs' rk' (m+1):=by
 have ne:∀z∈Hs,z≠x:=λz hz e=>h2 (e▸hz);refine⟨λz=>if z=x then m else rk z,?_,λq hq=>?_,λq hq=>?_,λz hz=>?_,?_,λz hz=>?_⟩
 ·rw[aW,bX];refine⟨P.nd,by simp,λa ha b hb=>?_⟩;simp only[ay,bI,aO]at hb;subst hb;exact λe=>h1 (e▸ha)
 ·rcases bg.mp hq with hq|hq
  ·obtain⟨a,b⟩:=P.lt q hq;rw[aj (ne _ (P.vh q hq)),aj (show ¬q.1=x from λe=>h1 (e▸cp hq))];exact⟨a,by omega⟩
  ·rw[aO]at hq;subst hq;rw[aj (ne h hh),ai rfl];exact⟨P.hs h hh,by omega⟩
 ·rcases bg.mp hq with hq|hq
  ·exact hS _ (P.vh q hq)
  ·rw[aO]at hq;subst hq;exact hS _ hh
 ·by_cases e:z=x
  ·rw[ai e];omega
  ·rw[aj e];rcases hH z hz with hz|hz
   ·have:=P.hs z hz;omega
   ·exact ao hz e
 ·rw[aj (λe=>h3 e.symm)];exact P.ry
 ·rw[aj (show ¬z=x from λe=>h4 (e▸hz))];exact P.rr z hz
theorem DB{α:Type}:∀(l:List α) (j:Nat) (h:j<l.length),(l[j]::l.eraseIdx j).Perm l
 |a::l,0,_=>jJ _
 |a::l,j+1,h=>(List.Perm.swap a _ _).trans ((DB l j (by simpa using h)).cons a)
theorem EK{α β:Type}(f:α->β):∀(l:List α) (j:Nat),(l.map f).eraseIdx j=(l.eraseIdx j).map f
 |[],j=>rfl
 |a::l,0=>rfl
 |a::l,j+1=>by show f a::(l.map f).eraseIdx j=_;rw[EK f l j];rfl
theorem FL(h1:fv ρ=some (d,ρ1))(h2:ρ1[i]?=some (.dk ks ds))(h3:fk ρ1=some (.str x,ρ1))(hn:kS x∉ks)(hl:ks.length<1000)(he:ds.length=ks.length):
  pF i fk fv ρ=some (.nx (ρ1.set i (.dk (ks++[kS x]) (ds++[d])))):=by
 have:=yc (i:=i) (fk:=fk) (fv:=cC d) (ρ:=ρ1) rfl h2 h3 hn hl he;unfold pF at this ⊢;rw[h1];exact this
theorem Jc{A:List (Str×Str)}(h:x∉A.map aC):kS x∉A.map λq=>kS q.1:=λz=>by obtain⟨q,hq,e⟩:=aF.mp z;exact h (aF.mpr ⟨q,hq,N0 e⟩)
abbrev dkA(A:List (Str×Str)):Sl:=.dk (A.map λq=>kS q.1) (A.map λq=>D.str q.2)
theorem DC(A:List (Str×Str))(x h:Str):Sl.dk ((A.map λq=>kS q.1)++[kS x]) ((A.map λq=>D.str q.2)++[.str h])=dkA (A++[(x,h)]):=by unfold dkA;rw[aW,aW];rfl
theorem AH:∀xs:aB,yz (xs.map D.str)=some (xs.map L3.Dq.str)
 |[]=>rfl
 |x::xs=>by rw[ay];unfold yz;rw[AH xs];rfl
theorem Hw(x:Str)(xs:aB):dEq true (.lst ((x::xs).map D.str)) (.lst [])=some (.bl true):=by
 have e0:BG true (.lst ((x::xs).map D.str)) (.lst [])=none:=rfl;have e1:toD (.lst ((x::xs).map D.str))=some (.lst ((x::xs).map L3.Dq.str)):=by unfold toD;rw[AH]
 have e3:dpt (.lst ((x::xs).map L3.Dq.str))=1:=by rw[dpt,yi]
 unfold dEq;rw[e0];show Cq true _ _=_;unfold Cq;rw[e1,show toD (.lst [])=some (.lst []) from rfl];show (if D7 (.lst ((x::xs).map L3.Dq.str)) (.lst [])&&decide (dpt (.lst ((x::xs).map L3.Dq.str))<=20)&&decide (dpt (.lst [])<=20)then some (D.bl !(eqD (.lst ((x::xs).map L3.Dq.str)) (.lst [])))else none)=_;rw[e3];rfl
def RK:FT:=yF (cT (c2 (dEq true) av (cL (oG oq))))
abbrev kF:=(nY (zr (c1 p9 aq)) oq)
def Oe:FS:=(oe (oP 5 (y4 4 (pb n8 1 iQ)))
 (oe (pF 2 aP (Ai 3 (pb n8 1 kF)))
 (o9 (uC 3 aP))))
theorem Hy(sp:L4.D)(y:Str)(rm:aB):∀(n:Nat) (bx:aB) (es:List L4.D) (A:List (Str×Str)) (Hs:aB) (rk:Str->Nat) (m f:Nat) (s5:Sl),bx.length=n->n<f->IL es->Pl y rm A Hs rk m->Hs≠[]->bx.Nodup->(∀b∈bx,b∉A.map aC/\b∉Hs/\b≠y/\b∉rm)->A.length+n<=900->Hs.length+n<=900->
  ∃(es':List L4.D) (A':List (Str×Str)) (Hs':aB) (rk':Str->Nat) (t5:Sl),IL es'/\Pl y rm A' Hs' rk' (m+n)/\(∀z∈Hs',z∈Hs\/z∈bx)/\(∀z∈Hs,z∈Hs')/\(∀z∈A'.map aC,z∈A.map aC\/z∈bx)/\A'.length=A.length+n/\Hs'.length<=Hs.length+n/\
   whL RK Oe f [.im sp,.pm es,dkA A,.ls (Hs.map D.str),.ls (bx.map D.str),s5,.un,.un]=some (.nx [.im sp,.pm es',dkA A',.ls (Hs'.map D.str),.ls [],t5,.un,.un])
 |0,bx,es,A,Hs,rk,m,f+1,s5,hb,_,hi,P,_,_,_,_,_=>by
  cases bx with
  |cons b bx=>cases hb
  |nil=>exact⟨es,A,Hs,rk,s5,hi,P,λz hz=>.inl hz,λz hz=>hz,λz hz=>.inl hz,rfl,aG _,rfl⟩
 |n+1,bx,es,A,Hs,rk,m,f+1,s5,hb,hf,hi,P,h0,nd,fr,hA,hHl=>by
  obtain⟨v,es1,i1,v0,v1,d1⟩:=qm hi bx.length (by omega);obtain⟨j,rfl⟩:=cn v0;have hj:j<bx.length:=by omega
  let b:=bx[j];let bx':=bx.eraseIdx j;have perm:(b::bx').Perm bx:=DB bx j hj;have ndb:(b::bx').Nodup:=perm.nodup_iff.mpr nd;have hbm:b∈bx:=cZ hj;obtain⟨f1,f2,f3,f4⟩:=fr b hbm;have hbl:bx'.length=n:=by have:=perm.length_eq;rw[aE]at this;omega
  let ρ1:aZ:=[.im sp,.pm es1,dkA A,.ls (Hs.map D.str),.ls (bx'.map D.str),.im (.str b),.un,.un];obtain⟨h,es2,hh,i2,d2⟩:=FK (ρ:=ρ1) (i:=1) (j:=3) i1 h0 rfl rfl rfl (λ_=>rfl);obtain⟨rk1,P1⟩:=P.add hh f1 f2 f3 f4 (Hs++[b]) (λz hz=>by
   rcases bg.mp hz with hz|hz
   ·exact .inl hz
   ·exact .inr (aO.mp hz)) λz hz=>bF _ hz
  obtain⟨es',A',Hs',rk',t5,g1,g2,g3,g4,g5,g6,g7,g8⟩:=Hy sp y rm n bx' es2 (A++[(b,h)]) (Hs++[b]) rk1 (m+1) f (.im (.str b)) hbl (by omega) i2 P1 (by simp) (cg.mp ndb).2 (λc hc=>by
   obtain⟨q1,q2,q3,q4⟩:=fr c (perm.subset (bh _ hc));have ne:c≠b:=λe=>(cg.mp ndb).1 (e▸hc);refine⟨λz=>?_,λz=>?_,q3,q4⟩
   ·rw[aW]at z;rcases bg.mp z with z|z
    ·exact q1 z
    ·exact ne (by simpa using z)
   ·rcases bg.mp z with z|z
    ·exact q2 z
    ·exact ne (aO.mp z)) (by rw[aA,bb];omega) (by rw[aA,bb];omega)
  refine⟨es',A',Hs',rk',t5,g1,by rw[show m+(n+1)=m+1+n by omega];exact g2,λz hz=>?_,λz hz=>g4 z (bF _ hz),λz hz=>?_,by rw[g6,aA,bb];omega,by rw[aA,bb]at g7;omega,?_⟩
  ·rcases g3 z hz with h|h
   ·rcases bg.mp h with h|h
    ·exact .inl h
    ·exact .inr (by rw[aO.mp h];exact hbm)
   ·exact .inr (perm.subset (bh _ h))
  ·rcases g5 z hz with h|h
   ·rw[aW]at h;rcases bg.mp h with h|h
    ·exact .inl h
    ·exact .inr (by rw[show z=b by simpa using h];exact hbm)
   ·exact .inr (perm.subset (bh _ h))
  ·have et:RK [.im sp,.pm es,dkA A,.ls (Hs.map D.str),.ls (bx.map D.str),s5,.un,.un]=some (true,[.im sp,.pm es,dkA A,.ls (Hs.map D.str),.ls (bx.map D.str),s5,.un,.un]):=by
    cases hx:bx with
    |nil=>rw[hx]at hb;cases hb
    |cons c bc=>exact Fc (ρ1:=[.im sp,.im (.lst es),.un,.im (.lst (Hs.map D.str)),.im (.lst ((c::bc).map D.str)),s5.bor,.un,.un]) (ph (og rfl rfl (Hw c bc)))
   have ep:y4 4 (pb n8 1 iQ) [.im sp,.pm es,dkA A,.ls (Hs.map D.str),.ls (bx.map D.str),s5,.un,.un]=some (.str b,[.im sp,.pm es1,dkA A,.ls (Hs.map D.str),.ls (bx'.map D.str),s5,.un,.un]):=by have e1:zr (c1 p9 av) [.im sp,.pm es,dkA A,.ls (Hs.map D.str),.ls (bx.map D.str),s5,.un,.un]=some (.int bx.length,[.im sp,.pm es,dkA A,.ls (Hs.map D.str),.ls (bx.map D.str),s5,.un,.un]):=M0 (ρ1:=[.im sp,.im (.lst es),.un,.im (.lst (Hs.map D.str)),.im (.lst (bx.map D.str)),s5.bor,.un,.un]) (pC (x:=.lst (bx.map D.str)) rfl (by show some (D.int _)=_;rw[ah])) rfl;have e2:pb n8 1 iQ [.im sp,.pm es,dkA A,.ls (Hs.map D.str),.ls (bx.map D.str),s5,.un,.un]=some (.int j,[.im sp,.pm es1,dkA A,.ls (Hs.map D.str),.ls (bx.map D.str),s5,.un,.un]):=(rj (es0:=es) (es:=es) (ρ1:=[.im sp,.pm es,dkA A,.ls (Hs.map D.str),.ls (bx.map D.str),s5,.un,.un]) rfl (nZ e1 rfl) rfl d1).trans rfl;unfold y4;rw[show pZ [.im sp,.pm es,dkA A,.ls (Hs.map D.str),.ls (bx.map D.str),s5,.un,.un] 4=some (bx.map D.str) from rfl];simp only[e2];rw[show pZ [.im sp,.pm es1,dkA A,.ls (Hs.map D.str),.ls (bx.map D.str),s5,.un,.un] 4=some (bx.map D.str) from rfl];simp only;rw[ai (by omega),hG,bj,aL hj];show (if (j:Int)<1000000 then some (D.str b,[Sl.im sp,.pm es1,dkA A,.ls (Hs.map D.str),.ls ((bx.map D.str).eraseIdx j),s5,.un,.un])else none)=_;rw[ai (by omega),EK]
   have e3:Oe [.im sp,.pm es,dkA A,.ls (Hs.map D.str),.ls (bx.map D.str),s5,.un,.un]=some (.nx [.im sp,.pm es2,dkA (A++[(b,h)]),.ls ((Hs++[b]).map D.str),.ls (bx'.map D.str),.im (.str b),.un,.un]):=by
    unfold Oe;refine(n4 (ρ':=ρ1) ((oH ep).trans rfl)).trans ?_;refine(n4 (ρ':=[.im sp,.pm es2,dkA (A++[(b,h)]),.ls (Hs.map D.str),.ls (bx'.map D.str),.im (.str b),.un,.un]) ((FL (x:=b) d2 rfl rfl (Jc f1) (by rw[ah];omega) (by rw[ah,ah])).trans ?_)).trans ?_
    ·show some (Out.nx [.im sp,.pm es2,Sl.dk ((A.map λq=>kS q.1)++[kS b]) ((A.map λq=>D.str q.2)++[.str h]),.ls (Hs.map D.str),.ls (bx'.map D.str),.im (.str b),.un,.un])=_;rw[DC]
    ·refine(pU (yX (es0:=Hs.map D.str) (es:=Hs.map D.str) (ρ1:=[.im sp,.pm es2,dkA (A++[(b,h)]),.ls (Hs.map D.str),.ls (bx'.map D.str),.im (.str b),.un,.un]) (d:=.str b) rfl rfl rfl (by rw[ah];omega))).trans ?_;show some (Out.nx [.im sp,.pm es2,dkA (A++[(b,h)]),.ls (Hs.map D.str++[.str b]),.ls (bx'.map D.str),.im (.str b),.un,.un])=_;rw[show Hs.map D.str++[D.str b]=(Hs++[b]).map D.str by rw[aW];rfl]
   unfold whL;rw[et];simp only[e3];exact g8
theorem Hz(sp:L4.D)(y:Str)(rm:aB)(s4 s5:Sl):∀(l:aB) (es:List L4.D) (A:List (Str×Str)) (Hs:aB) (rk:Str->Nat) (m:Nat) (s6:Sl),IL es->Pl y rm A Hs rk m->Hs≠[]->l.Nodup->(∀b∈l,b∉A.map aC/\b∉Hs/\b≠y/\b∉rm)->A.length+l.length<=900->
  ∃(es':List L4.D) (A':List (Str×Str)) (rk':Str->Nat) (t6:Sl),IL es'/\Pl y rm A' Hs rk' (m+l.length)/\(∀z∈A'.map aC,z∈A.map aC\/z∈l)/\A'.length=A.length+l.length/\
   forL (gN 6) (pF 2 bD (Ai 3 (pb n8 1 kF))) (l.map D.str) [.im sp,.pm es,dkA A,.ls (Hs.map D.str),s4,s5,s6,.un]=some (.nx [.im sp,.pm es',dkA A',.ls (Hs.map D.str),s4,s5,t6,.un])
 |[],es,A,Hs,rk,m,s6,hi,P,_,_,_,_=>⟨es,A,rk,s6,hi,P,λz hz=>.inl hz,rfl,rfl⟩
 |b::l,es,A,Hs,rk,m,s6,hi,P,h0,nd,fr,hA=>by
  rw[aE]at hA;obtain⟨f1,f2,f3,f4⟩:=fr b ba;let ρ1:aZ:=[.im sp,.pm es,dkA A,.ls (Hs.map D.str),s4,s5,.im (.str b),.un];obtain⟨h,es2,hh,i2,d2⟩:=FK (ρ:=ρ1) (i:=1) (j:=3) hi h0 rfl rfl rfl (λ_=>rfl);obtain⟨rk1,P1⟩:=P.add hh f1 f2 f3 f4 Hs (λz hz=>.inl hz) λz hz=>hz;obtain⟨es',A',rk',t6,g1,g2,g5,g6,g8⟩:=Hz sp y rm s4 s5 l es2 (A++[(b,h)]) Hs rk1 (m+1) (.im (.str b)) i2 P1 h0 (cg.mp nd).2 (λc hc=>by
   obtain⟨q1,q2,q3,q4⟩:=fr c (bh _ hc);have ne:c≠b:=λe=>(cg.mp nd).1 (e▸hc);refine⟨λz=>?_,q2,q3,q4⟩;rw[aW]at z;rcases bg.mp z with z|z
   ·exact q1 z
   ·exact ne (by simpa using z)) (by rw[aA,bb];omega)
  refine⟨es',A',rk',t6,g1,by rw[aE,show m+(l.length+1)=m+1+l.length by omega];exact g2,λz hz=>?_,by rw[g6,aA,bb,aE];omega,?_⟩
  ·rcases g5 z hz with h|h
   ·rw[aW]at h;rcases bg.mp h with h|h
    ·exact .inl h
    ·exact .inr (by rw[show z=b by simpa using h];exact ba)
   ·exact .inr (bh _ h)
  ·rw[ay];unfold forL;rw[show gN 6 (.str b) [.im sp,.pm es,dkA A,.ls (Hs.map D.str),s4,s5,s6,.un]=some ρ1 from rfl];have st:pF 2 bD (Ai 3 (pb n8 1 kF)) ρ1=some (.nx [.im sp,.pm es2,dkA (A++[(b,h)]),.ls (Hs.map D.str),s4,s5,.im (.str b),.un]):=by refine(FL (x:=b) d2 rfl rfl (Jc f1) (by rw[ah];omega) (by rw[ah,ah])).trans ?_;show some (Out.nx [.im sp,.pm es2,Sl.dk ((A.map λq=>kS q.1)++[kS b]) ((A.map λq=>D.str q.2)++[.str h]),.ls (Hs.map D.str),s4,s5,.im (.str b),.un])=_;rw[DC]
   simp only[st];exact g8
theorem Jd{T:List Th}(nd:(T.map Th.n).Nodup){t:Th}(ht:t∈T)(hu:u∈T)(e:t.n=u.n):t=u:=by
 induction T with
 |nil=>cases ht
 |cons a T ih=>
  rw[ay,cg]at nd;rcases aM.mp ht with h1|h1<;>rcases aM.mp hu with h2|h2
  ·exact h1.trans h2.symm
  ·exact ao (show a.n∈T.map Th.n from h1▸e▸cp h2) nd.1
  ·exact ao (show a.n∈T.map Th.n from h2▸e▸cp h1) nd.1
  ·exact ih nd.2 h1 h2
theorem sQ(h:x∈nmK T p):∃t∈T,t.n=x/\p t.k=true:=by obtain⟨t,h1,h2⟩:=aF.mp h;obtain⟨h3,h4⟩:=bS.mp h1;exact⟨t,h3,h2,h4⟩
theorem yd{T:List Th}(nd:(T.map Th.n).Nodup)(h:∀k,p k=true->q k=true->False)(h1:x∈nmK T p)(h2:x∈nmK T q):False:=by obtain⟨t,a1,a2,a3⟩:=sQ h1;obtain⟨u,b1,b2,b3⟩:=sQ h2;have:=Jd nd a1 b1 (a2.trans b2.symm);subst this;exact h _ a3 b3
theorem Je{T:List Th}{p q:Kd->Bool}(h:∀k,p k=true->q k=true):(nmK T p).length<=(T.filter λt=>q t.k).length:=by unfold nmK;rw[ah,<- kQ,<- kQ];exact List.countP_mono_left λt _ ht=>h _ ht
theorem J9:∀{l L:aB},l.Nodup->(∀x∈l,x∈L)->L.length<=l.length->∀x∈L,x∈l
 |[],L,_,_,hl,x,hx=>by rw[cN,Nat.le_zero,ll]at hl;subst hl;cases hx
 |a::l,L,nd,hs,hl,x,hx=>by
  rw[cg]at nd;have ha:=hs a ba;by_cases e:x=a
  ·rw[e];exact ba
  ·refine bh _ (J9 (L:=L.erase a) nd.2 (λz hz=>(lJ (show z≠a from λw=>nd.1 (w▸hz))).mpr (hs z (bh _ hz))) ?_ x ((lJ e).mpr hx));rw[List.length_erase_of_mem ha];rw[aE]at hl;omega
structure ye(A:List (Str×Str))(y:Str):Prop where
 nd:(A.map aC).Nodup
 rk:∃rk:Str->Nat,∀q∈A,rk q.2<rk q.1/\rk q.1<40
 yo:∃r,(y,r)∈A
 ln:A.length<=20
theorem LB{T:List Th}{M:List Mk}{dk:aB}{y:Str}(g:Good T M dk)(hy:(T.filter λt=>decide (t.k=.you)).map Th.n=[y]){es:List L4.D}(hi:IL es):∃(A:List (Str×Str)) (es':List L4.D),IL es'/\ye A y/\(∀q∈A,q.2∈T.map Th.n)/\((∀x,x∈A.map aC ↔ x∈nmK T λk=>!decide (k=.room))/\(∀q∈A,q.2∈nmK T Kd.hd)/\∀r,(y,r)∈A->r∈nmK T λk=>decide (k=.room))/\rU es [pS T M dk y]=some (atD A,es'):=by
 have hl:=g.len;have nd:=g.ndT;let sp:=pS T M dk y;let rm:=nmK T λk=>decide (k=.room);let bx:=nmK T λk=>decide (k=.box);let ot:=nmK T Kd.ot;let Hs:=nmK T λk=>!k.pl;have hyy:y∈nmK T λk=>decide (k=.you):=by unfold nmK;rw[hy];exact aO.mpr rfl
 have hyH:y∈Hs:=by obtain⟨t,h1,h2,h3⟩:=sQ hyy;refine aF.mpr ⟨t,bS.mpr ⟨h1,?_⟩,h2⟩;rw[bq h3];rfl
 have yrm:∀x∈rm,x≠y:=λx hx e=>yd nd (λk h1 h2=>by rw[bq h1]at h2;cases h2) (e▸hx) hyy;have P0:Pl y rm [] Hs (λz=>if z=y then 1 else 0) 2:=⟨f9,λq hq=>(bO hq).elim,λq hq=>(bO hq).elim,λh _=>by split<;>omega,ai rfl,λx hx=>aj (yrm x hx)⟩;have fresh:∀(p:Kd->Bool),(∀k,p k=true->k.pl=true)->∀b∈nmK T p,b∉Hs/\b≠y/\b∉rm:=λp hp b hb=>⟨λz=>yd nd (λk h1 h2=>by rw[hp k h1]at h2;cases h2) hb z,λe=>yd nd (λk h1 h2=>by have:=hp k h1;rw[bq h2]at this;cases this) hb (e▸hyy),λz=>yd nd (λk h1 h2=>by have:=hp k h1;rw[bq h2]at this;cases this) hb z⟩
 have hpb:∀k:Kd,decide (k=.box)=true->k.pl=true:=λk h=>by rw[bq h];rfl
 have hpo:∀k:Kd,k.ot=true->k.pl=true:=λk h=>by cases k<;>first|rfl|cases h
 have hbl:bx.length<=7:=bL (Je hpb) g.p7;have hol:ot.length<=7:=bL (Je hpo) g.p7;have hHl:Hs.length<=200:=by have:=(pX T λk=>!k.pl).length_le;rw[ah]at this;exact bL this hl
 obtain⟨es1,A1,Hs1,rk1,t5,i1,P1,h3,h4,h5,h6,h7,h8⟩:=Hy sp y rm bx.length bx es [] Hs _ 2 50 .un rfl (by omega) hi P0 (λe=>by rw[e]at hyH;cases hyH) (nd.sublist (pX T _)) (λb hb=>⟨λz=>(bO z).elim,fresh _ hpb b hb⟩) (by simp;omega) (by omega);have frO:∀b∈ot,b∉bx:=λb hb z=>yd nd (λk h1 h2=>by rw[bq h2]at h1;cases h1) hb z;obtain⟨es2,A2,rk2,t6,i2,P2,q5,q6,q8⟩:=Hz sp y rm (.ls []) t5 ot es1 A1 Hs1 rk1 (2+bx.length) .un i1 P1 (λe=>by have:=h4 y hyH;rw[e]at this;cases this) (nd.sublist (pX T _)) (λb hb=>by
  obtain⟨f1,f2,f3⟩:=fresh _ hpo b hb;refine⟨λz=>?_,λz=>?_,f2,f3⟩
  ·rcases h5 b z with z|z
   ·cases z
   ·exact frO b hb z
  ·rcases h3 b z with z|z
   ·exact f1 z
   ·exact frO b hb z) (by rw[h6];simp;omega)
 have hrl:0<rm.length:=by have:=g.r1;simp only[rm,nmK,ah];omega
 obtain⟨v,es3,i3,v0,v1,d3⟩:=qm i2 rm.length (by omega);obtain⟨j,rfl⟩:=cn v0;have hj:j<rm.length:=by omega
 let z:=rm[j];have hz:z∈rm:=cZ hj;have hyk:y∉A2.map aC:=λw=>by
  rcases q5 y w with w|w
  ·rcases h5 y w with w|w
   ·cases w
   ·exact(fresh _ hpb y w).2.1 rfl
  ·exact(fresh _ hpo y w).2.1 rfl
 have hA2:A2.length<=14:=by rw[q6,h6];simp;omega
 refine⟨A2++[(y,z)],es3,i3,⟨?_,⟨rk2,λq hq=>?_⟩,⟨z,by simp⟩,by rw[aA,bb];omega⟩,λq hq=>?_,⟨?K,?Hd,?Ry⟩,?_⟩
 ·rw[aW,bX];refine⟨P2.nd,by simp,λa ha b hb=>?_⟩;simp only[ay,bI,aO]at hb;subst hb;exact λe=>hyk (e▸ha)
 ·rcases bg.mp hq with hq|hq
  ·obtain⟨a,b⟩:=P2.lt q hq;exact⟨a,by omega⟩
  ·rw[aO]at hq;subst hq;show rk2 z<rk2 y/\rk2 y<40;rw[P2.rr z hz,P2.ry];omega
 ·rcases bg.mp hq with hq|hq
  ·rcases h3 _ (P2.vh q hq)with w|w<;>exact(pX T _).subset w
  ·rw[aO]at hq;subst hq;exact(pX T _).subset hz
 case K=>
  have sub:∀x∈(A2++[(y,z)]).map aC,x∈bx++(ot++[y]):=λx hx=>by
   rw[aW]at hx;rcases bg.mp hx with hx|hx
   ·rcases q5 x hx with w|w
    ·rcases h5 x w with w|w
     ·cases w
     ·exact bF _ w
    ·exact bH _ (bF _ w)
   ·exact bH _ (bH _ hx)
  have nd2:((A2++[(y,z)]).map aC).Nodup:=by rw[aW,bX];refine⟨P2.nd,by simp,λa ha b hb=>?_⟩;simp only[ay,bI,aO]at hb;subst hb;exact λe=>hyk (e▸ha)
  have ln:(bx++(ot++[y])).length<=((A2++[(y,z)]).map aC).length:=by rw[ah,aA,aA,aA,q6,h6,cN,bb,bb];omega
  have all:=J9 nd2 sub ln;have tok:∀(p:Kd->Bool),(∀k,p k=true->(!decide (k=.room))=true)->∀x∈nmK T p,x∈nmK T λk=>!decide (k=.room):=λp hp x hx=>by obtain⟨t,h1,h2,h3⟩:=sQ hx;exact aF.mpr ⟨t,bS.mpr ⟨h1,hp _ h3⟩,h2⟩
  intro x;constructor
  ·intro hx;rcases bg.mp (sub x hx)with w|w
   ·exact tok _ (λk h=>by rw[bq h];rfl) x w
   ·rcases bg.mp w with w|w
    ·exact tok _ (λk h=>by cases k<;>first|rfl|cases h) x w
    ·rw[aO]at w;rw[w];exact tok _ (λk h=>by rw[bq h];rfl) y hyy
  ·intro hx;obtain⟨t,t1,t2,t3⟩:=sQ hx;apply all;have mk:∀p:Kd->Bool,p t.k=true->x∈nmK T p:=λp h=>aF.mpr ⟨t,bS.mpr ⟨t1,h⟩,t2⟩;cases hk:t.k with
   |room=>rw[hk]at t3;cases t3
   |you=>have:=mk (λk=>decide (k=.you)) (by rw[hk];rfl);unfold nmK at this;rw[hy]at this;exact bH _ (bH _ this)
   |box=>exact bF _ (mk (λk=>decide (k=.box)) (by rw[hk];rfl))
   |plain=>exact bH _ (bF _ (mk Kd.ot (by rw[hk];rfl)))
   |fixed=>exact bH _ (bF _ (mk Kd.ot (by rw[hk];rfl)))
   |lamp=>exact bH _ (bF _ (mk Kd.ot (by rw[hk];rfl)))
 case Hd=>
  have toh:∀(p:Kd->Bool),(∀k,p k=true->k.hd=true)->∀x∈nmK T p,x∈nmK T Kd.hd:=λp hp x hx=>by obtain⟨t,h1,h2,h3⟩:=sQ hx;exact aF.mpr ⟨t,bS.mpr ⟨h1,hp _ h3⟩,h2⟩
  intro q hq;rcases bg.mp hq with hq|hq
  ·rcases h3 _ (P2.vh q hq)with w|w
   ·exact toh _ (λk h=>by cases k<;>first|rfl|cases h) _ w
   ·exact toh _ (λk h=>by rw[bq h];rfl) _ w
  ·rw[aO]at hq;subst hq;exact toh _ (λk h=>by rw[bq h];rfl) _ hz
 case Ry=>
  intro r hr;rcases bg.mp hr with hr|hr
  ·exact ao (aF.mpr ⟨_,hr,rfl⟩) hyk
  ·rw[aO]at hr;cases hr;exact hz
 have run:tL (stL 8 es [sp])=some (.rt (atD (A2++[(y,z)])) [.im sp,.pm es3,.im (atD (A2++[(y,z)])),.ls (Hs1.map D.str),.ls [],t5,t6,.im (.lst (rm.map D.str))]):=by
  unfold tL;refine(n4 (ρ':=[.im sp,.pm es,.dk [] [],.un,.un,.un,.un,.un]) rfl).trans ?_;refine(n4 (ρ':=[.im sp,.pm es,.dk [] [],.ls (Hs.map D.str),.un,.un,.un,.un]) ((wo (n9 (nZ rfl (nZ rfl rfl)) (of_ok (by omega) (λk=>!k.pl) Xw))).trans rfl)).trans ?_;refine(n4 (ρ':=[.im sp,.pm es,.dk [] [],.ls (Hs.map D.str),.ls (bx.map D.str),.un,.un,.un]) ((wo (n9 (nZ rfl (nZ rfl rfl)) (of_ok (by omega) (λk=>decide (k=.box)) VP))).trans rfl)).trans ?_;refine(n4 h8).trans ?_;refine(n4 ((qp (z7 (pD (n9 (nZ rfl (nZ rfl rfl)) (of_ok (by omega) Kd.ot Xx))))).trans q8)).trans ?_;refine(n4 (ρ':=[.im sp,.pm es2,dkA A2,.ls (Hs1.map D.str),.ls [],t5,t6,.im (.lst (rm.map D.str))]) ((oH (pD (n9 (nZ rfl (nZ rfl rfl)) (of_ok (by omega) (λk=>decide (k=.room)) J8)))).trans rfl)).trans ?_;have ev:c2 dIx bV (pb n8 1 (nY (c1 p9 bV) oq)) [.im sp,.pm es2,dkA A2,.ls (Hs1.map D.str),.ls [],t5,t6,.im (.lst (rm.map D.str))]=some (.str z,[.im sp,.pm es3,dkA A2,.ls (Hs1.map D.str),.ls [],t5,t6,.im (.lst (rm.map D.str))]):=
   og (x:=.lst (rm.map D.str)) (y:=.int j) (ρ1:=[.im sp,.pm es2,dkA A2,.ls (Hs1.map D.str),.ls [],t5,t6,.im (.lst (rm.map D.str))]) rfl ((rj (i:=1) (es0:=es2) (es:=es2) (ρ1:=[.im sp,.pm es2,dkA A2,.ls (Hs1.map D.str),.ls [],t5,t6,.im (.lst (rm.map D.str))]) (ds:=[.int rm.length]) rfl (by show some ([D.int ((rm.map D.str).length:Nat)],_)=_;rw[ah]) rfl d3).trans rfl) (rF (aL hj))
  refine(n4 (ρ':=[.im sp,.pm es3,dkA (A2++[(y,z)]),.ls (Hs1.map D.str),.ls [],t5,t6,.im (.lst (rm.map D.str))]) ((FL (x:=y) ev rfl rfl (Jc hyk) (by rw[ah];omega) (by rw[ah,ah])).trans ?_)).trans rfl;show some (Out.nx [.im sp,.pm es3,Sl.dk ((A2.map λq=>kS q.1)++[kS y]) ((A2.map λq=>D.str q.2)++[.str z]),.ls (Hs1.map D.str),.ls [],t5,t6,.im (.lst (rm.map D.str))])=_;rw[DC]
 unfold rU fnL;rw[ai (show [sp].length=1 from rfl),run];rfl
theorem Jf{α β:Type}{f:α->β}(hf:∀a b,f a=f b->a=b){l:List α}(h:l.Nodup):(l.map f).Nodup:=List.Pairwise.map f (λa b h e=>h (hf a b e)) h
abbrev Ky:=Str×Str
def prD(q:Ky×L4.D):L4.D:=.tup [.tup [.str q.1.1,.str q.1.2],q.2]
theorem Ka(a b c d:Str):dEq false (.tup [.str a,.str b]) (.tup [.str c,.str d])=some (.bl (decide ((a,b)=(c,d)))):=by have e0:BG false (.tup [.str a,.str b]) (.tup [.str c,.str d])=none:=rfl;have e1:Cq false (.tup [.str a,.str b]) (.tup [.str c,.str d])=some (.bl (L3.eqD (.tup [.str a,.str b]) (.tup [.str c,.str d]))):=rfl;unfold dEq;rw[e0];simp only;rw[e1];congr 2;rw[cM];simp[L3.eqD,L3.tV]
theorem DE(p:Sl)(k:Ky):∀(S:List (Ky×L4.D)) (s:Sl),∃s',(∃d,(k,d)∈S/\forL (gN 2) (sIf (cT (c2 (dEq false) (c2 dIx ar aU) ag)) (oj (c2 dIx ar aJ)) oA) (S.map prD) [p,.im (.tup [.str k.1,.str k.2]),s]=some (.rt d [p,.im (.tup [.str k.1,.str k.2]),s']))\/
  (k∉S.map aC/\forL (gN 2) (sIf (cT (c2 (dEq false) (c2 dIx ar aU) ag)) (oj (c2 dIx ar aJ)) oA) (S.map prD) [p,.im (.tup [.str k.1,.str k.2]),s]=some (.nx [p,.im (.tup [.str k.1,.str k.2]),s']))
 |[],s=>⟨s,.inr ⟨bO,rfl⟩⟩
 |q::S,s=>by
  have ev:cT (c2 (dEq false) (c2 dIx ar aU) ag) [p,.im (.tup [.str k.1,.str k.2]),.im (prD q)]=some (decide (q.1=k),[p,.im (.tup [.str k.1,.str k.2]),.im (prD q)]):=ph (og (x:=.tup [.str q.1.1,.str q.1.2]) (y:=.tup [.str k.1,.str k.2]) rfl rfl (Ka _ _ _ _));rw[ay];unfold forL;rw[show gN 2 (prD q) [p,.im (.tup [.str k.1,.str k.2]),s]=some [p,.im (.tup [.str k.1,.str k.2]),.im (prD q)] from rfl];by_cases h:q.1=k
  ·rw[aT h]at ev;refine⟨.im (prD q),.inl ⟨q.2,by rw[<-h];exact ba,?_⟩⟩;simp only[oV ev];rfl
  ·rw[aH h]at ev;obtain⟨s',h1⟩:=DE p k S (.im (prD q));simp only[oM ev];refine⟨s',?_⟩;rcases h1 with ⟨d,h1,h2⟩|⟨h1,h2⟩
   ·exact .inl ⟨d,bh _ h1,h2⟩
   ·exact .inr ⟨λz=>by
     rw[ay]at z;rcases aM.mp z with z|z
     ·exact h z.symm
     ·exact h1 z,h2⟩
theorem z9(S:List (Ky×L4.D))(k:Ky):(∃d,(k,d)∈S/\uP [.tup (S.map prD),.tup [.str k.1,.str k.2]]=some d)\/(k∉S.map aC/\uP [.tup (S.map prD),.tup [.str k.1,.str k.2]]=some .non):=by
 obtain⟨s',h⟩:=DE (.im (.tup (S.map prD))) k S .un;rcases h with ⟨d,h1,h2⟩|⟨h1,h2⟩
 ·refine .inl ⟨d,h1,ox rfl (oO ((qp rfl).trans h2))⟩
 ·refine .inr ⟨h1,ox rfl ((n4 ((qp rfl).trans h2)).trans rfl)⟩
def bas(A:List (Str×Str))(V:List (Str×Int)):List (Ky×L4.D):=(A.map λq=>((("at", q.1):Ky),D.str q.2))++V.map λq=>((("mark", q.1):Ky),D.int q.2)
theorem HA:∀B:List (Ky×L4.D),xC (B.map prD)=some (B.map λq=>[q.1.1,q.1.2])
 |[]=>rfl
 |q::B=>by rw[ay];unfold xC;rw[HA B];rfl
theorem Jg{α:Type}(d:α):∀l:List α,(bz l.length).map (λi=>l.getD i d)=l:=λl=>by
 apply List.ext_getElem
 ·rw[ah,fW]
 ·intro i h1 h2;rw[List.getElem_map,List.getElem_range,ck,aL h2];rfl
theorem QU(B:List (Ky×L4.D))(nd:(B.map aC).Nodup)(h0:0<B.length)(h1:B.length<64):∃S:List (Ky×L4.D),S.Perm B/\Ek (B.map prD)=some (S.map prD):=by
 let ks:=B.map λq=>[q.1.1,q.1.2];have hn:ks.Nodup:=by
  have:ks=(B.map aC).map λk=>[k.1,k.2]:=by rw[aV];rfl
  rw[this];exact Jf (λa b h=>by injection h with a1 a2;injection a2 with a2 _;exact Prod.ext a1 a2) nd
 let c:Nat->Nat->Bool:=λi j=>xB (ks.getD i []) (ks.getD j []);refine⟨(GW c B.length).map λi=>B.getD i (("", ""),.non),?_,?_⟩
 ·have:=(Ar c h0).map λi=>B.getD i (("", ""),.non);rw[Jg]at this;exact this
 ·unfold Ek;rw[HA];simp only[ah];rw[ai ⟨hn,h0,h1⟩,aV];congr 1;refine List.map_congr_left λi hi=>?_;have hl:=Fk c h0 i hi;show (B.map prD).getD i .non=prD (B.getD i (("", ""),.non));rw[ck,ck,bj,aL hl];rfl
theorem DF:∀V:List (Str×Str),zv ((V.map λq=>kS q.1).map Iu) (V.map λq=>D.str q.2)=V.map λq=>D.tup [.str q.1,.str q.2]
 |[]=>rfl
 |q::V=>by have:=DF V;unfold zv at this ⊢;rw[ay,ay,ay,dY,this];rfl
theorem QV(h:e ρ=some (.lst ds,ρ1))(h1:Ek ds=some es):CI e ρ=some (es,ρ1):=by unfold CI;rw[h];simp only[h1]
structure zf(A:List (Str×Str))(V:List (Str×Int))(S:List (Ky×L4.D)):Prop where
 i:∀q∈A,((("at", q.1):Ky),D.str q.2)∈S
 o:∀x d,((("at", x):Ky),d)∈S->∃z,d=.str z/\(x,z)∈A
 mi:∀q∈V,((("mark", q.1):Ky),D.int q.2)∈S
 mo:∀x d,((("mark", x):Ky),d)∈S->∃z,d=.int z/\(x,z)∈V
abbrev gH:=(nY ag oq)
abbrev nE:=(nY (pd (nY (cC (.str "mark")) iX)) gH)
theorem Of{V:List (Str×Int)}(a:ye A y)(nv:(V.map aC).Nodup)(lv:V.length<=40):∃S,zf A V S/\(S.length<=900/\∀q∈S,(∃z,q.2=.str z)\/∃n,q.2=.int n)/\uj [atD A,dcI V]=some (.tup (S.map prD)):=by
 have hl:=a.ln;have h0:0<A.length:=by obtain⟨r,h⟩:=a.yo;exact List.length_pos_of_mem h
 have nd:((bas A V).map aC).Nodup:=by
  unfold bas;rw[aW,aV,aV,bX];have e1:A.map (aC∘λq=>((("at", q.1):Ky),D.str q.2))=(A.map aC).map λx=>(("at", x):Ky):=by rw[aV];rfl
  have e2:V.map (aC∘λq=>((("mark", q.1):Ky),D.int q.2))=(V.map aC).map λx=>(("mark", x):Ky):=by rw[aV];rfl
  rw[e1,e2];refine⟨Jf (λa b h=>aR iG h) a.nd,Jf (λa b h=>aR iG h) nv,λx hx z hz e=>?_⟩;obtain⟨_,_,rfl⟩:=aF.mp hx;obtain⟨_,_,rfl⟩:=aF.mp hz;have:=aR aC e;exact ao this (by decide:¬(("at" : Str)="mark"))
 obtain⟨S,p,e⟩:=QU (bas A V) nd (by unfold bas;rw[aA,ah];omega) (by unfold bas;rw[aA,ah,ah];omega);refine⟨S,⟨λq hq=>p.mem_iff.mpr (bF _ (aF.mpr ⟨q,hq,rfl⟩)),λx d h=>?_,λq hq=>p.mem_iff.mpr (bH _ (aF.mpr ⟨q,hq,rfl⟩)),λx d h=>?_⟩,⟨?_,λq hq=>?_⟩,?_⟩
 ·rcases bg.mp (p.mem_iff.mp h)with h|h
  ·obtain⟨q,hq,e⟩:=aF.mp h;cases e;exact⟨_,rfl,hq⟩
  ·obtain⟨q,hq,e⟩:=aF.mp h;have:=aR (λz=>z.1.1) e;exact ao this (by decide:¬(("mark" : Str)="at"))
 ·rcases bg.mp (p.mem_iff.mp h)with h|h
  ·obtain⟨q,hq,e⟩:=aF.mp h;have:=aR (λz=>z.1.1) e;exact ao this (by decide:¬(("at" : Str)="mark"))
  ·obtain⟨q,hq,e⟩:=aF.mp h;cases e;exact⟨_,rfl,hq⟩
 ·have:=p.length_eq;unfold bas at this;rw[aA,ah,ah]at this;omega
 ·rcases bg.mp (p.mem_iff.mp hq)with h|h
  ·obtain⟨b,_,rfl⟩:=aF.mp h;exact .inl ⟨_,rfl⟩
  ·obtain⟨b,_,rfl⟩:=aF.mp h;exact .inr ⟨_,rfl⟩
 ·let ρ0:aZ:=[.im (atD A),.im (dcI V),.un];let pa:Str×Str->L4.D:=λq=>.tup [.tup [.str "at", .str q.1],.str q.2];let pm:Str×Int->L4.D:=λq=>.tup [.tup [.str "mark", .str q.1],.int q.2];let ρ1:aZ:=[.im (atD A),.im (dcI V),.im (.lst (A.map pa))];have c1:oT 2 [] (iIt aa) (gT (oK (gN 0) (oK (gN 1) qv)) 2) pM (pd (nY (pd (nY (cC (.str "at")) iX)) gH)) ρ0=some (A.map pa,ρ0):=by refine(wt (ds:=A.map λq=>D.tup [.str q.1,.str q.2]) (ρ1:=ρ0) ((Jb rfl).trans (by rw[DF])) (by rw[ah];omega)).trans ?_;exact Fn (λq:Str×Str=>D.tup [.str q.1,.str q.2]) pa A λq _=>⟨[.im (.str q.1),.im (.str q.2)],_,rfl,rfl,rfl⟩
  have c2:oT 2 [] (iIt ag) (gT (oK (gN 0) (oK (gN 1) qv)) 2) pM (pd nE) ρ1=some (V.map pm,ρ1):=by refine(wt (ds:=V.map λq=>D.tup [.str q.1,.int q.2]) (ρ1:=ρ1) ((Jb rfl).trans (by rw[AG])) (by rw[ah];omega)).trans ?_;exact Fn (λq:Str×Int=>D.tup [.str q.1,.int q.2]) pm V λq _=>⟨[.im (.str q.1),.im (.int q.2)],_,rfl,rfl,rfl⟩
  have eb:(bas A V).map prD=A.map pa++V.map pm:=by unfold bas;rw[aW,aV,aV];rfl
  have c3:=QV (e:=cL (qz ar (cL (oT 2 [] (iIt ag) (gT (oK (gN 0) (oK (gN 1) qv)) 2) pM (pd nE))))) (ρ:=ρ1) (pD (rX (xs:=A.map pa) rfl (pD c2) (by rw[ah,ah];omega))) (eb▸e);refine ox (ρ:=ρ1) rfl ((n4 (ρ':=ρ1) ((oH (pD c1)).trans rfl)).trans (ou ?_));unfold AO;rw[pD c3]
inductive Ch(A:List (Str×Str)):Str->aB->Prop
 |nil {x}:x∉A.map aC->Ch A x []
 |cons {x z l}:(x,z)∈A->Ch A z l->Ch A x (z::l)
theorem Aa(a:ye A y)(x:Str):∃l,Ch A x l/\l.length<=40:=by
 obtain⟨rk,hr⟩:=a.rk;have gen:∀(n:Nat) (x:Str),(x∈A.map aC->rk x<n)->∃l,Ch A x l/\l.length<=n:=by
  intro n
  induction n with
  |zero=>intro x h;exact⟨[],.nil (λz=>ao (h z) (by omega)),by simp⟩
  |succ n ih=>
   intro x h;by_cases hx:x∈A.map aC
   ·obtain⟨q,hq,rfl⟩:=aF.mp hx;have:=h hx;obtain⟨l,h1,h2⟩:=ih q.2 λ_=>by have:=(hr q hq).1;omega
    exact⟨q.2::l,.cons hq h1,by rw[aE];omega⟩
   ·exact⟨[],.nil hx,by simp⟩
 exact gen 40 x λh=>by obtain⟨q,hq,rfl⟩:=aF.mp h;exact(hr q hq).2
theorem VQ(c:Ch A x l):∀a∈l,∃q∈A,q.2=a:=by
 induction c with
 |nil _=>intro a h;cases h
 |cons h _ ih=>
  intro a ha;rcases aM.mp ha with e|ha
  ·exact⟨_,h,e.symm⟩
  ·exact ih a ha
theorem QW{A:List (Str×Str)}(nd:(A.map aC).Nodup)(h:(x,z)∈A)(h':(x,z')∈A):z=z':=by
 induction A with
 |nil=>cases h
 |cons a A ih=>
  rw[ay,cg]at nd;rcases aM.mp h with h1|h1<;>rcases aM.mp h' with h2|h2
  ·rw[<-h1]at h2;exact(aR iG h2).symm
  ·exact ao (show a.1∈A.map aC from h1▸aF.mpr ⟨_,h2,rfl⟩) nd.1
  ·exact ao (show a.1∈A.map aC from h2▸aF.mpr ⟨_,h1,rfl⟩) nd.1
  ·exact ih nd.2 h1 h2
abbrev sD(S:List (Ky×L4.D)):L4.D:=.tup (S.map prD)
abbrev wO(T:List Th)(M:List Mk)(dk:aB)(y:Str)(mo:L4.D):L4.D:=.obj 14 wNs (wDs T M dk y mo)
section
variable{A:List (Str×Str)}{V:List (Str×Int)}{S:List (Ky×L4.D)}{y:Str}{T:List Th}{M:List Mk}{dk:aB}{mo:L4.D}
theorem Og(g:Good T M dk):qL [TD T,MD M]=some (dcI (moL T M)):=by
 have hl:=g.len;have hm:=g.m4;have nd:(nmK T Kd.mk++M.map Mk.n).Nodup:=g.nd.sublist ((pX T _).append (eA _));have ndk:(((nmK T Kd.mk).map kS)++M.map λm=>kS m.n).Nodup:=by have:=uv nd;rw[aW,aV]at this;exact this
 have hln:(nmK T Kd.mk).length<=200:=by have:=(pX T Kd.mk).length_le;rw[ah]at this;omega
 have g1:∀(l:List Th) (ks:List Key) (ds:List L4.D) (s:Sl),(ks++(nmK l Kd.mk).map kS).Nodup->ks.length+l.length<=900->ds.length=ks.length->∃s',forL (gN 3) (sIf (cT (o6 qB "has_mark" aq oq)) (pF 2 (c1 (oN oX "name") aq) aJ) oA) (l.map thD) [.im (TD T),.im (MD M),.dk ks ds,s,.un]=some (.nx [.im (TD T),.im (MD M),.dk (ks++(nmK l Kd.mk).map kS) (ds++(nmK l Kd.mk).map λ_=>D.int 1),s',.un]):=by
  intro l
  induction l with
  |nil=>exact λks ds s _ _ _=>⟨s,by unfold nmK;simp;rfl⟩
  |cons t l ih=>
   intro ks ds s nd hk he;rw[aE]at hk;have em:cT (o6 qB "has_mark" aq oq) [.im (TD T),.im (MD M),.dk ks ds,.im (thD t),.un]=some (t.k.mk,[.im (TD T),.im (MD M),.dk ks ds,.im (thD t),.un]):=ph (o8 (xs:=[.str t.n,.tup (t.w.map D.str),.str t.k.s,oS t.s]) (ys:=[]) rfl rfl rfl rfl (J2 t));cases q:t.k.mk with
   |true=>
    rw[q]at em;have e0:nmK (t::l) Kd.mk=t.n::nmK l Kd.mk:=by unfold nmK;rw[fZ,q,ai rfl,ay]
    rw[e0,ay]at nd;rw[e0,ay,ay];have hn:kS t.n∉ks:=λz=>by rw[bX]at nd;exact nd.2.2 _ z _ ba rfl
    obtain⟨s',h⟩:=ih (ks++[kS t.n]) (ds++[.int 1]) (.im (thD t)) (by rw[bB];exact nd) (by rw[aA,bb];omega) (by rw[aA,aA,he,bb,bb]);refine⟨s',?_⟩;rw[ay];unfold forL;rw[show gN 3 (thD t) [.im (TD T),.im (MD M),.dk ks ds,s,.un]=some [.im (TD T),.im (MD M),.dk ks ds,.im (thD t),.un] from rfl];have ev:=(oV (f:=pF 2 (c1 (oN oX "name") aq) aJ) (g:=oA) em).trans (yc (i:=2) (fk:=c1 (oN oX "name") aq) (fv:=cC (.int 1)) (ρ:=[.im (TD T),.im (MD M),.dk ks ds,.im (thD t),.un]) (x:=t.n) (d:=.int 1) rfl rfl (pC rfl (vH t)) hn (by omega) he);simp only[ev];refine h.trans ?_;rw[bB,bB];rfl
   |false=>
    rw[q]at em;have e0:nmK (t::l) Kd.mk=nmK l Kd.mk:=by unfold nmK;rw[fZ,q,aj (by decide)]
    rw[e0]at nd ⊢;obtain⟨s',h⟩:=ih ks ds (.im (thD t)) nd (by omega) he;refine⟨s',?_⟩;rw[ay];unfold forL;rw[show gN 3 (thD t) [.im (TD T),.im (MD M),.dk ks ds,s,.un]=some [.im (TD T),.im (MD M),.dk ks ds,.im (thD t),.un] from rfl];have ev:=(oM (f:=pF 2 (c1 (oN oX "name") aq) aJ) (g:=oA) em);simp only[ev];exact h
 obtain⟨s1,e1⟩:=g1 T [] [] .un (by rw[bK];exact(bX.mp ndk).1) (by simp;omega) rfl;rw[bK,bK]at e1;obtain⟨s2,e2⟩:=v5 (g:=gN 4) (i:=2) (fk:=c1 (oN oX "name") av) (fv:=c1 (oN uE "most") av) mkD Mk.n (λm=>D.int m.mo) (λks ds s=>[.im (TD T),.im (MD M),.dk ks ds,s1,s])
  (λm ks ds s=>⟨[.im (TD T),.im (MD M),.dk ks ds,s1,.im (mkD m)],rfl,pC rfl (QJ m),rfl,pC rfl (FB m),λks' ds'=>⟨_,rfl⟩⟩) M ((nmK T Kd.mk).map kS) ((nmK T Kd.mk).map λ_=>D.int 1) .un ndk (by rw[ah];omega) (by rw[ah,ah])
 refine ox (ρ:=[.im (TD T),.im (MD M),.im (dcI (moL T M)),s1,s2]) rfl ?_;unfold tZ;refine(n4 (ρ':=[.im (TD T),.im (MD M),.dk [] [],.un,.un]) rfl).trans ?_;refine(n4 ((qp rfl).trans e1)).trans ((n4 ((qp rfl).trans e2)).trans ?_);have q1:(moL T M).map (λq=>kS q.1)=(nmK T Kd.mk).map kS++M.map λm=>kS m.n:=by simp only[moL,aW,aV];rfl
 have q2:(moL T M).map (λq=>D.int q.2)=((nmK T Kd.mk).map λ_=>D.int 1)++M.map λm=>D.int m.mo:=by simp only[moL,aW,aV];rfl
 unfold dcI;rw[q1,q2];rfl
theorem FM:(moL T M).map aC=nmK T Kd.mk++M.map Mk.n:=by simp only[moL,aW,aV];rw[show (aC∘λx:Str=>(x,(1:Int)))=id from rfl,ka];rfl
abbrev wM(T:List Th)(M:List Mk)(dk:aB)(y:Str):L4.D:=wO T M dk y (dcI (moL T M))
theorem Oh{V:List (Str×Int)}(nv:(V.map aC).Nodup)(h:(x,z)∈V):sU (V.map λq=>kS q.1) (V.map λq=>D.int q.2) (kS x)=some (.int z):=
 zB (by have:=uv nv;rw[aV]at this;exact this) (by rw[jS];exact aF.mpr ⟨_,h,rfl⟩)
theorem yx(a:ye A y)(o:zf A V S)(h:(x,z)∈A):rN [sD S,.str x]=some (.str z):=by
 refine ox (ρ:=[.im (sD S),.im (.str x)]) rfl (ou (n9 (ds:=[sD S,.tup [.str "at", .str x]]) (nZ rfl (nZ rfl rfl)) ?_));rcases z9 S ("at", x)with ⟨d,h1,h2⟩|⟨h1,h2⟩
 ·obtain⟨z',rfl,h3⟩:=o.o x d h1;rw[h2,QW a.nd h3 h]
 ·exact ao (aF.mpr ⟨_,o.i _ h,rfl⟩) h1
theorem BU(o:zf A V S)(h:x∉A.map aC):rN [sD S,.str x]=some .non:=by
 refine ox (ρ:=[.im (sD S),.im (.str x)]) rfl (ou (n9 (ds:=[sD S,.tup [.str "at", .str x]]) (nZ rfl (nZ rfl rfl)) ?_));rcases z9 S ("at", x)with ⟨d,h1,h2⟩|⟨h1,h2⟩
 ·obtain⟨z',rfl,h3⟩:=o.o x d h1;exact ao (aF.mpr ⟨_,h3,rfl⟩) h
 ·exact h2
abbrev kz:=(nY ag (nY av oq))
theorem LC(a:ye A y)(o:zf A V S)(w nm:Sl)(c:Ch A x l):∀(n:Nat) (hs:List L4.D) (ab:L4.D),rN [sD S,.str x]=some ab->l.length<n->hs.length+l.length<=1000->
  whL (cT (c2 uY av aY)) (oe (o9 (uC 3 av)) (oP 4 (oa rN kz))) n [w,.im (sD S),nm,.ls hs,.im ab]=some (.nx [w,.im (sD S),nm,.ls (hs++l.map D.str),.im .non]):=by
 induction c with
 |@nil x h=>
  intro n hs ab e hn _;rw[BU o h]at e;cases e;cases n with
  |zero=>cases hn
  |succ n=>rw[bI,bt];rfl
 |@cons x z l h c ih=>
  intro n hs ab e hn hl;rw[yx a o h]at e;cases e;rw[aE]at hn hl;cases n with
  |zero=>cases hn
  |succ n=>
   obtain⟨ab',e'⟩:∃ab',rN [sD S,.str z]=some ab':=by
    cases c with
    |nil h=>exact⟨_,BU o h⟩
    |cons h _=>exact⟨_,yx a o h⟩
   have ev:oe (o9 (uC 3 av)) (oP 4 (oa rN kz)) [w,.im (sD S),nm,.ls hs,.im (.str z)]=some (.nx [w,.im (sD S),nm,.ls (hs++[.str z]),.im ab']):=by refine(n4 (ρ':=[w,.im (sD S),nm,.ls (hs++[.str z]),.im (.str z)]) (pU ((yX (es:=hs) rfl rfl rfl (by omega)).trans rfl))).trans ?_;exact(oH (n9 (nZ rfl (nZ rfl rfl)) e')).trans rfl
   rw[ay];unfold whL;rw[show cT (c2 uY av aY) [w,.im (sD S),nm,.ls hs,.im (.str z)]=some (true,[w,.im (sD S),nm,.ls hs,.im (.str z)]) from rfl];simp only[ev];refine(ih n (hs++[.str z]) ab' e' (by omega) (by rw[aA,bb];omega)).trans ?_;rw[bB];rfl
theorem FN(a:ye A y)(o:zf A V S)(w:L4.D)(c:Ch A x l)(hl:l.length<=40):qI [w,sD S,.str x]=some (l.map D.str):=by
 obtain⟨ab,e⟩:∃ab,rN [sD S,.str x]=some ab:=by
  cases c with
  |nil h=>exact⟨_,BU o h⟩
  |cons h _=>exact⟨_,yx a o h⟩
 refine yY (ρ:=[.im w,.im (sD S),.im (.str x),.un,.im .non]) rfl ?_;refine(n4 (ρ':=[.im w,.im (sD S),.im (.str x),.ls [],.un]) rfl).trans ?_;refine(n4 (ρ':=[.im w,.im (sD S),.im (.str x),.ls [],.im ab]) ((oH (n9 (nZ rfl (nZ rfl rfl)) e)).trans rfl)).trans ?_;exact(n4 (LC a o (.im w) (.im (.str x)) c 50 [] ab e (by omega) (by simp;omega))).trans rfl
theorem FP{V:List (Str×Int)}(nd:(V.map aC).Nodup)(h:(x,z)∈V)(h':(x,z')∈V):z=z':=by
 induction V with
 |nil=>cases h
 |cons a V ih=>
  rw[ay,cg]at nd;rcases aM.mp h with h1|h1<;>rcases aM.mp h' with h2|h2
  ·rw[<-h1]at h2;exact(aR iG h2).symm
  ·exact ao (show a.1∈V.map aC from h1▸aF.mpr ⟨_,h2,rfl⟩) nd.1
  ·exact ao (show a.1∈V.map aC from h2▸aF.mpr ⟨_,h1,rfl⟩) nd.1
  ·exact ih nd.2 h1 h2
theorem FQ(nv:(V.map aC).Nodup)(o:zf A V S)(h:(x,z)∈V):se [sD S,.str x]=some (.int z):=by
 refine ox (ρ:=[.im (sD S),.im (.str x)]) rfl (ou (n9 (ds:=[sD S,.tup [.str "mark", .str x]]) (nZ rfl (nZ rfl rfl)) ?_));rcases z9 S ("mark", x)with ⟨d,h1,h2⟩|⟨h1,h2⟩
 ·obtain⟨z',rfl,h3⟩:=o.mo x d h1;rw[h2,FP nv h3 h]
 ·exact ao (aF.mpr ⟨_,o.mi _ h,rfl⟩) h1
theorem yf(nd:(T.map Th.n).Nodup){t:Th}(ht:t∈T):rM [wO T M dk y mo,.str t.n]=some (thD t):=by refine ox (ρ:=[.im (wO T M dk y mo),.im (.str t.n)]) rfl (ou (og (x:=.dic (nK T) (T.map thD)) (y:=.str t.n) rfl rfl ?_));show some ((sU (nK T) (T.map thD) (kS t.n)).getD .non)=_;rw[zB (J3 nd) (d:=thD t) (by unfold nK;rw[jS];exact aF.mpr ⟨t,ht,rfl⟩)];rfl
def shB(T:List Th)(V:List (Str×Int))(x:Str):Bool:=decide (x∈nmK T λk=>decide (k=.box))&&decide ((x,0)∈V)
theorem Kb(nd:(T.map Th.n).Nodup){t:Th}(ht:t∈T):t.n∈(nmK T λk=>decide (k=.box)) ↔ t.k=.box:=by
 constructor
 ·intro h;obtain⟨u,h1,h2,h3⟩:=sQ h;have:=Jd nd h1 ht h2;subst this;exact bq h3
 ·intro h;exact aF.mpr ⟨t,bS.mpr ⟨ht,aT h⟩,rfl⟩
theorem Oi(t:Th):dEq false (.str t.k.s) (.str "box")=some (.bl (decide (t.k=.box))):=by cases t.k<;>kernel_rfl
theorem Xy(nv:(V.map aC).Nodup)(h:(x,z)∈V):decide ((x,0)∈V)=decide (z=0):=by
 rw[cM,bG,bG];constructor
 ·intro h';exact FP nv h h'
 ·intro e;rw[<-e];exact h
theorem tT(h1:e ρ=some (.bl false,ρ1)):p8 e e' ρ=some (.bl false,ρ1):=by unfold p8;rw[h1]
abbrev iR:=(nY ar oq)
theorem QX(nd:(T.map Th.n).Nodup)(nv:(V.map aC).Nodup)(hv:∀x∈(nmK T λk=>decide (k=.box)),∃z,(x,z)∈V)(o:zf A V S){t:Th}(ht:t∈T):sj [wO T M dk y mo,sD S,.str t.n]=some (.bl (shB T V t.n)):=by
 let ρ:aZ:=[.im (wO T M dk y mo),.im (sD S),.im (.str t.n)];have e1:c2 (dEq false) (c1 (oN pB "kind") (o6 pG "thing_of" aa iR)) eM ρ=some (.bl (decide (t.k=.box)),ρ):=
  og (pC (o8 (m:="thing_of") (ns:=wNs) (xs:=wDs T M dk y mo) (ys:=[.str t.n]) rfl rfl rfl rfl (yf nd ht)) (yb t)) rfl (Oi t)
 refine ox (ρ:=ρ) rfl (ou ?_);unfold shB;by_cases h:t.k=.box
 ·have hb:=(Kb nd ht).mpr h;obtain⟨z,hz⟩:=hv _ hb;rw[aT h]at e1;rw[aT hb,Xy nv hz];refine(pA e1).trans (og (n9 (nZ rfl (nZ rfl rfl)) (FQ nv o hz)) rfl ?_);rw[sF];rfl
 ·rw[aH h]at e1;rw[aH λz=>h ((Kb nd ht).mp z)];exact tT e1
def opn(sh:Str->Bool)(h:Str):aB->Bool
 |[]=>false
 |a::l=>if a=h then true else if sh a then false else opn sh h l
theorem Oj:opn sh h (a::l)=if a=h then true else if sh a then false else opn sh h l:=rfl
abbrev kN:=(nY aa kz)
theorem EL{st:L4.D}(h:Str):∀(l:aB) (s:Sl),(∀a∈l,sj [w,st,.str a]=some (.bl (sh a)))->∃s',forL (gN 4) (oe (sIf (cT (c2 (dEq false) av aq)) (oj cE) oA)
 (sIf (cT (oa sj kN)) (oj bM) oA)) (l.map D.str) [.im w,.im st,.im x,.im (.str h),s]=some (.rt (.bl (opn sh h l)) [.im w,.im st,.im x,.im (.str h),s'])\/(opn sh h l=false/\forL (gN 4) (oe (sIf (cT (c2 (dEq false) av aq)) (oj cE) oA)
 (sIf (cT (oa sj kN)) (oj bM) oA)) (l.map D.str) [.im w,.im st,.im x,.im (.str h),s]=some (.nx [.im w,.im st,.im x,.im (.str h),s']))
 |[],s,_=>⟨s,.inr ⟨rfl,rfl⟩⟩
 |a::l,s,hh=>by
  let ρ:aZ:=[.im w,.im st,.im x,.im (.str h),.im (.str a)];have e1:cT (c2 (dEq false) av aq) ρ=some (decide (a=h),ρ):=ph (og (x:=.str a) (y:=.str h) rfl rfl (uc false a h));have e2:cT (oa sj kN) ρ=some (sh a,ρ):=ph (n9 (nZ rfl (nZ rfl (nZ rfl rfl))) (hh a ba));rw[ay];unfold forL;rw[show gN 4 (.str a) [.im w,.im st,.im x,.im (.str h),s]=some ρ from rfl];rw[Oj];by_cases h1:a=h
  ·rw[aT h1]at e1;rw[ai h1];refine⟨.im (.str a),.inl ?_⟩;have e3:∀f:FS,oe (sIf (cT (c2 (dEq false) av aq)) (oj cE) oA) f ρ=some (.rt (.bl true) ρ):=λf=>oO ((oV e1).trans rfl);simp only[e3];rfl
  ·rw[aH h1]at e1;rw[aj h1];have e3:∀f:FS,oe (sIf (cT (c2 (dEq false) av aq)) (oj cE) oA) f ρ=f ρ:=λf=>n4 ((oM e1).trans rfl);simp only[e3];cases q:sh a with
   |true=>rw[q]at e2;refine⟨.im (.str a),.inl ?_⟩;simp only[(oV e2).trans (rfl:oj bM ρ=some (.rt (.bl false) ρ)),if_true];rfl
   |false=>rw[q]at e2;obtain⟨s',g⟩:=EL (w:=w) (st:=st) (x:=x) (sh:=sh) h l (.im (.str a)) λb hb=>hh b (bh _ hb);refine⟨s',?_⟩;simp only[(oM e2).trans (rfl:oA ρ=some (.nx ρ)),dZ,if_false];exact g
abbrev ja:=(nY ag iR)
theorem QY(a:ye A y)(o:zf A V S)(c:Ch A x l)(hl:l.length<=40)(hh:∀a∈l,sj [w,sD S,.str a]=some (.bl (sh a))):sq [w,sD S,.str x,.str h]=some (.bl (opn sh h l)):=by
 obtain⟨s',g⟩:=EL (w:=w) (st:=sD S) (x:=.str x) (sh:=sh) h l .un hh;have e0:=pD (n9 (a:=nY aa ja) (ρ:=[.im w,.im (sD S),.im (.str x),.im (.str h),.un]) (nZ rfl (nZ rfl (nZ rfl rfl))) (FN a o w c hl));rcases g with g|⟨g0,g⟩
 ·exact ox rfl (oO ((qp (z7 e0)).trans g))
 ·rw[g0];exact ox rfl ((n4 ((qp (z7 e0)).trans g)).trans rfl)
end
section
variable{A:List (Str×Str)}{V:List (Str×Int)}{S:List (Ky×L4.D)}{y:Str}{T:List Th}{M:List Mk}{dk:aB}{mo:L4.D}
abbrev bxs(T:List Th):aB:=nmK T λk=>decide (k=.box)
abbrev lms(T:List Th):aB:=nmK T λk=>decide (k=.lamp)
theorem VR(nv:(V.map aC).Nodup)(k:Int)(h:(x,z)∈V):decide ((x,k)∈V)=decide (z=k):=by
 rw[cM,bG,bG];constructor
 ·intro h';exact FP nv h h'
 ·intro e;rw[<-e];exact h
end
structure Sit(T:List Th)(A:List (Str×Str))(V:List (Str×Int))(S:List (Ky×L4.D))(y r:Str):Prop where
 nd:(T.map Th.n).Nodup
 hT:T.length<=200
 p7:(T.filter λt=>t.k.pl).length<=7
 a:ye A y
 pn:∀q∈A,q.2∈T.map Th.n
 nv:(V.map aC).Nodup
 hv:∀x∈nmK T Kd.mk,∃z,(x,z)∈V
 o:zf A V S
 hr:(y,r)∈A
section
variable{A:List (Str×Str)}{V:List (Str×Int)}{S:List (Ky×L4.D)}{y r:Str}{T:List Th}{M:List Mk}{dk:aB}{mo:L4.D}
def lf(a:ye A y)(x:Str):aB:=Classical.choose (Aa a x)
theorem VS(a:ye A y)(x:Str):Ch A x (lf a x):=(lE (Aa a x)).1
theorem Xz(a:ye A y)(x:Str):(lf a x).length<=40:=(lE (Aa a x)).2
theorem Ol(h:∀k,p k=true->q k=true)(hx:x∈nmK T p):x∈nmK T q:=by obtain⟨t,h1,h2,h3⟩:=sQ hx;exact aF.mpr ⟨t,bS.mpr ⟨h1,h _ h3⟩,h2⟩
theorem Sit.vb(s:Sit T A V S y r):∀x∈bxs T,∃z,(x,z)∈V:=λx hx=>s.hv x (Ol (λk h=>by rw[bq h];rfl) hx)
theorem Sit.vl(s:Sit T A V S y r):∀x∈lms T,∃z,(x,z)∈V:=λx hx=>s.hv x (Ol (λk h=>by rw[bq h];rfl) hx)
theorem Sit.op(s:Sit T A V S y r)(x h:Str):sq [wO T M dk y mo,sD S,.str x,.str h]=some (.bl (opn (shB T V) h (lf s.a x))):=
 QY s.a s.o (VS s.a x) (Xz s.a x) λb hb=>by obtain⟨q,hq,rfl⟩:=VQ (VS s.a x) b hb;obtain⟨t,ht,e⟩:=aF.mp (s.pn q hq);rw[<-e];exact QX s.nd s.nv s.vb s.o ht
theorem Om:Bk [wO T M dk y mo]=some (.str y):=rfl
theorem HB(s:Sit T A V S y r):sf [wO T M dk y mo,sD S]=some (.str r):=
 ox (ρ:=[.im (wO T M dk y mo),.im (sD S)]) rfl (ou (n9 (nZ rfl (nZ (o8 (m:="you") (ns:=wNs) (xs:=wDs T M dk y mo) (ys:=[]) rfl rfl rfl rfl Om) rfl)) (yx s.a s.o s.hr)))
def QZ(dk:aB)(s:Sit T A V S y r):Bool:=!decide (r∈dk)||(lms T).any λb=>decide ((b,1)∈V)&&opn (shB T V) r (lf s.a b)
theorem Q0:xi [wO T M dk y mo,.str r]=some (.bl (decide (r∈dk))):=
 ox (ρ:=[.im (wO T M dk y mo),.im (.str r)]) rfl (ou (og (x:=.str r) (y:=.lst (dk.map D.str)) rfl rfl (uD false r dk)))
theorem On(s:Sit T A V S y r)(hb:b∈lms T):wF [wO T M dk y mo,sD S,.str b,.str r]=some (.bl (decide ((b,1)∈V)&&opn (shB T V) r (lf s.a b))):=by
 let ρ:aZ:=[.im (wO T M dk y mo),.im (sD S),.im (.str b),.im (.str r)];obtain⟨z,hz⟩:=s.vl b hb;have e1:c2 (dEq false) (oa se ja) aJ ρ=some (.bl (decide ((b,1)∈V)),ρ):=og (n9 (nZ rfl (nZ rfl rfl)) (FQ s.nv s.o hz)) rfl (by rw[sF,VR s.nv 1 hz];rfl);refine ox (ρ:=ρ) rfl (ou ?_);cases q:decide ((b,1)∈V)with
 |true=>rw[q]at e1;exact(pA e1).trans (n9 (nZ rfl (nZ rfl (nZ rfl (nZ rfl rfl)))) (s.op b r))
 |false=>rw[q]at e1;exact tT e1
abbrev gR:=(nY aa gH)
theorem Oo(s:Sit T A V S y r):zQ [wO T M dk y mo,sD S]=some (.bl (QZ dk s)):=by
 let W:=wO T M dk y mo;let ρ:aZ:=[.im W,.im (sD S),.im (.str r)];have e1:oP 2 (oa sf gR) [.im W,.im (sD S),.un]=some (.nx ρ):=(oH (n9 (nZ rfl (nZ rfl rfl)) (HB s))).trans rfl;have e2:qu (cT (o6 tJ "is_dark" aa iR)) ρ=some (!decide (r∈dk),ρ):=sC (ph (o8 (m:="is_dark") (ns:=wNs) (xs:=wDs T M dk y mo) (ys:=[.str r]) rfl rfl rfl rfl Q0));unfold QZ;cases q:decide (r∈dk)with
 |false=>rw[q]at e2;exact ox rfl ((n4 e1).trans (oO ((oV e2).trans rfl)))
 |true=>
  rw[q]at e2;have hl:=s.hT;have e3:oT 1 [0,1,2] (iL (o6 qO "of_kind" aa (nY iJ oq))) (gN 0) pM (oa wF (nY ag (nY ar (nY aa (nY aq oq))))) ρ=some ((lms T).map λb=>D.bl (decide ((b,1)∈V)&&opn (shB T V) r (lf s.a b)),ρ):=by
   have hlen:(lms T).length<=1000:=by have:=(pX T λk=>decide (k=.lamp)).length_le;rw[ah]at this;exact bL this (by omega)
   refine xl D.str (λb=>D.bl (decide ((b,1)∈V)&&opn (shB T V) r (lf s.a b))) (lms T) (ρ1:=ρ) ((z7 (o8 (m:="of_kind") (ns:=wNs) (xs:=wDs T M dk y mo) (ys:=[.str Kd.lamp.s]) rfl rfl rfl rfl (Dy T (by omega) _ _ .lamp))).trans (by unfold lms nmK;rw[aV];rfl)) hlen λb hb=>⟨[.im (.str b),.im W,.im (sD S),.im (.str r)],[.im (.str b),.im W,.im (sD S),.im (.str r)],rfl,n9 (nZ rfl (nZ rfl (nZ rfl (nZ rfl rfl)))) (On s hb),rfl⟩
  exact ox rfl ((n4 e1).trans ((n4 ((oM e2).trans rfl)).trans (ou (pC (pD e3) (JX _ _)))))
def Oq(dk:aB)(s:Sit T A V S y r)(x:Str):Bool:=(QZ dk s&&opn (shB T V) r (lf s.a x))||opn (shB T V) y (lf s.a x)
theorem Os(s:Sit T A V S y r){t:Th}(ht:t∈T):AD [wO T M dk y mo,sD S,.str t.n]=some (.bl (t.k.pl&&Oq dk s t.n)):=by
 let W:=wO T M dk y mo;let ρ:aZ:=[.im W,.im (sD S),.im (.str t.n),.im (thD t)];have e1:oP 3 (o6 pG "thing_of" aa iR) [.im W,.im (sD S),.im (.str t.n),.un]=some (.nx ρ):=(oH (o8 (m:="thing_of") (ns:=wNs) (xs:=wDs T M dk y mo) (ys:=[.str t.n]) rfl rfl rfl rfl (yf s.nd ht))).trans rfl;have e2:rG (cT (c2 wj aq aY)) (qu (cT (o6 qC "is_plainly" aq oq))) ρ=some (!t.k.pl,ρ):=rQ rfl (sC (ph (o8 (m:="is_plainly") (ns:=["name", "words", "kind", "start"]) (xs:=[.str t.n,.tup (t.w.map D.str),.str t.k.s,oS t.s]) (ys:=[]) rfl rfl rfl rfl (Hf t))));have e3:cT (oa sq (nY aa (nY ag (nY ar (nY (o6 vY "you" aa oq) oq))))) ρ=some (opn (shB T V) y (lf s.a t.n),ρ):=ph (n9 (nZ rfl (nZ rfl (nZ rfl (nZ (o8 (m:="you") (ns:=wNs) (xs:=wDs T M dk y mo) (ys:=[]) rfl rfl rfl rfl Om) rfl)))) (s.op t.n y));have e4:oa sq (nY aa (nY ag (nY ar (nY (oa sf gR) oq)))) ρ=some (.bl (opn (shB T V) r (lf s.a t.n)),ρ):=n9 (nZ rfl (nZ rfl (nZ rfl (nZ (n9 (nZ rfl (nZ rfl rfl)) (HB s)) rfl)))) (s.op t.n r);unfold Oq;cases q1:t.k.pl with
 |false=>rw[q1]at e2;exact ox rfl ((n4 e1).trans (oO ((oV e2).trans rfl)))
 |true=>
  rw[q1]at e2;cases q2:opn (shB T V) y (lf s.a t.n)with
  |true=>rw[q2]at e3;rw[mW];exact ox rfl ((n4 e1).trans ((n4 ((oM e2).trans rfl)).trans (oO ((oV e3).trans rfl))))
  |false=>
   rw[q2]at e3;rw[mQ,mT,Bool.and_comm];refine ox (ρ:=ρ) rfl ((n4 e1).trans ((n4 ((oM e2).trans rfl)).trans ((n4 ((oM e3).trans rfl)).trans (ou ?_))));cases q3:opn (shB T V) r (lf s.a t.n)with
   |true=>rw[q3]at e4;exact(pA e4).trans (n9 (nZ rfl (nZ rfl rfl)) (Oo s))
   |false=>rw[q3]at e4;exact tT e4
end
section
variable{A:List (Str×Str)}{V:List (Str×Int)}{S:List (Ky×L4.D)}{y r:Str}{T:List Th}{M:List Mk}{dk:aB}{mo:L4.D}
theorem XA(k:Kd):dIn false (.str k.s) (.lst [.str "plain", .str "fixed", .str "box", .str "lamp"])=some (.bl k.pl):=by cases k<;>kernel_rfl
theorem v7(h:c ρ=some (true,ρ1)):rG c c' ρ=some (true,ρ1):=by unfold rG;rw[h]
end
section
variable{A:List (Str×Str)}{V:List (Str×Int)}{S:List (Ky×L4.D)}{y:Str}{T:List Th}{M:List Mk}{dk:aB}{mo:L4.D}
theorem Q1(a b:L4.D):rA [wO T M dk y mo,.tup [.str "take", a,b]]=some (.tup [a,b]):=by kernel_rfl
theorem Ot(a b:L4.D):rA [wO T M dk y mo,.tup [.str "put", a,b]]=some (.tup [a,b]):=by kernel_rfl
def noT(x:Str):Bool:=decide (x∉(["here", "it", "other"]:aB))
theorem VT(h:Nm x):x∉(["here", "it", "other"]:aB):=bq (FC (p:=noT) (by kernel_rfl) h)
theorem Kc{st:L4.D}(h:rA [w,c]=some (.tup [a,b])):p6 [w,st,c,.str "it"]=some a:=by let ρ:aZ:=[.im w,.im st,.im c,.im (.str "it")];refine ox (ρ:=ρ) rfl ?_;unfold yw;refine(n4 (ρ':=ρ) ((oM (ρ':=ρ) (ph (og rfl rfl (by kernel_rfl)))).trans rfl)).trans ?_;exact oO ((oV (ρ':=ρ) (ph (og rfl rfl (by kernel_rfl)))).trans (ou (og (n9 rfl h) rfl rfl)))
theorem Jh{st:L4.D}(h:rA [w,c]=some (.tup [a,b])):p6 [w,st,c,.str "other"]=some b:=by let ρ:aZ:=[.im w,.im st,.im c,.im (.str "other")];refine ox (ρ:=ρ) rfl ?_;unfold yw;refine(n4 (ρ':=ρ) ((oM (ρ':=ρ) (ph (og rfl rfl (by kernel_rfl)))).trans rfl)).trans ?_;refine(n4 (ρ':=ρ) ((oM (ρ':=ρ) (ph (og rfl rfl (by kernel_rfl)))).trans rfl)).trans ?_;exact oO ((oV (ρ':=ρ) (ph (og rfl rfl (by kernel_rfl)))).trans (ou (og (n9 rfl h) rfl rfl)))
theorem Q2{st:L4.D}(hx:Nm x):p6 [w,st,c,.str x]=some (.str x):=by
 have n:=VT hx;have n1:dEq false (.str x) (.str "here")=some (.bl false):=by rw[uc,aH λe=>n (by rw[e];simp)];rfl
 have n2:dEq false (.str x) (.str "it")=some (.bl false):=by rw[uc,aH λe=>n (by rw[e];simp)];rfl
 have n3:dEq false (.str x) (.str "other")=some (.bl false):=by rw[uc,aH λe=>n (by rw[e];simp)];rfl
 let ρ:aZ:=[.im w,.im st,.im c,.im (.str x)];refine ox (ρ:=ρ) rfl ?_;unfold yw;refine(n4 (ρ':=ρ) ((oM (ρ':=ρ) (ph (og rfl rfl n1))).trans rfl)).trans ?_;refine(n4 (ρ':=ρ) ((oM (ρ':=ρ) (ph (og rfl rfl n2))).trans rfl)).trans ?_;refine(n4 (ρ':=ρ) ((oM (ρ':=ρ) (ph (og rfl rfl n3))).trans rfl)).trans ?_;rfl
theorem Q3(a:ye A y)(o:zf A V S)(h:(y,r)∈A):sf [wO T M dk y mo,sD S]=some (.str r):=
 ox (ρ:=[.im (wO T M dk y mo),.im (sD S)]) rfl (ou (n9 (ds:=[sD S,.str y]) rfl (yx a o h)))
theorem LD(a:ye A y)(o:zf A V S)(h:(y,r)∈A):p6 [wO T M dk y mo,sD S,c,.str "here"]=some (.str r):=by let ρ:aZ:=[.im (wO T M dk y mo),.im (sD S),.im c,.im (.str "here")];refine ox (ρ:=ρ) rfl ?_;unfold yw;exact oO ((oV (ρ':=ρ) (ph (og rfl rfl (by kernel_rfl)))).trans (ou (n9 (ds:=[wO T M dk y mo,sD S]) rfl (Q3 a o h))))
end
section
variable{y:Str}{T:List Th}{M:List Mk}{dk:aB}
theorem tk{n:Int}(hn:0<n)(hi:IL es)(h0:pZ ρ j=some es)(he:e ρ=some (.int n,ρ)):∃r es',IL es'/\0<=r/\r<n/\pb n8 j (nY e oq) ρ=some (.int r,putAt ρ j es'):=by obtain⟨r,es',h1,h2,h3,h4⟩:=qm hi n hn;exact⟨r,es',h1,h2,h3,rj h0 (nZ he rfl) h0 h4⟩
theorem pk(hl:l≠[])(hi:IL es)(h0:pZ ρ j=some es)(hv:cV i ρ=some (.lst (l.map D.str),ρ)):∃x es',x∈l/\IL es'/\c2 dIx (cV i) (pb n8 j (nY (c1 p9 (cV i)) oq)) ρ=some (.str x,putAt ρ j es'):=by
 have hp:=lQ.mpr hl;obtain⟨r,es',h1,h2,h3,h4⟩:=tk (n:=l.length) (e:=c1 p9 (cV i)) (by omega) hi h0 (pC hv (by show some (D.int _)=_;rw[ah]));obtain⟨r,rfl⟩:=cn h2;have hr:r<l.length:=by omega
 exact⟨l[r],es',cZ hr,h1,og hv h4 (rF (aL hr))⟩
theorem yg(x:Str)(xs:aB):dEq false (.lst ((x::xs).map D.str)) (.lst [])=some (.bl false):=by
 have e0:BG false (.lst ((x::xs).map D.str)) (.lst [])=none:=rfl;have e1:toD (.lst ((x::xs).map D.str))=some (.lst ((x::xs).map L3.Dq.str)):=by unfold toD;rw[AH]
 have e3:dpt (.lst ((x::xs).map L3.Dq.str))=1:=by rw[dpt,yi]
 unfold dEq;rw[e0];show Cq false _ _=_;unfold Cq;rw[e1,show toD (.lst [])=some (.lst []) from rfl];show (if D7 (.lst ((x::xs).map L3.Dq.str)) (.lst [])&&decide (dpt (.lst ((x::xs).map L3.Dq.str))<=20)&&decide (dpt (.lst [])<=20)then some (D.bl (eqD (.lst ((x::xs).map L3.Dq.str)) (.lst [])))else none)=_;rw[e3];rfl
inductive Cm(sm:aB):L4.D->Str->Prop
 |go (z:Str):Cm sm (.tup [.str "go", .str z,.non]) "way"
 |wait:Cm sm (.tup [.str "wait", .non,.non]) "alone"
 |take {a:Str}:a∈sm->Cm sm (.tup [.str "take", .str a,.non]) "one"
 |put {a b:Str}:a∈sm->b∈sm->Cm sm (.tup [.str "put", .str a,.str b]) "two"
theorem Q4{sm:aB}(h:Cm sm c f):vo [c]=some (.str f):=by cases h<;>kernel_rfl
theorem Ji(h0:0<=r)(h1:r<2):dIx (.lst [a,b]) (.int r)=some (if r=0 then a else b):=by
 have:r=0\/r=1:=by omega
 rcases this with rfl|rfl<;>rfl
abbrev m5:=(nY (cC (.str "north")) (nY (cC (.str "up")) oq))
abbrev m8:=(nY (pd (nY (cC (.str "go")) (nY (c2 dIx (cL (oG m5)) (pb n8 1 kO)) (nY aY oq)))) (nY (pd (nY (cC (.str "wait")) (nY aY (nY aY oq)))) oq))
theorem Jj(g:Good T M dk)(hi:IL es):∃c f es',IL es'/\Cm (nmK T Kd.pl) c f/\rB es [pS T M dk y]=some (c,es'):=by
 let sp:=pS T M dk y;let sm:=nmK T Kd.pl;let L:L4.D:=.lst (sm.map D.str);have hl:=g.len;have run:∃c f es' x4,IL es'/\Cm sm c f/\∃x3,sN (stL 5 es [sp])=some (.rt c [.im sp,.pm es',.im L,x3,x4]):=by
  unfold sN;have e1:(oP 2 (cL (pe pY (nY aa (nY (cL (oG (nY ku (nY (cC (.str "fixed")) (nY eM (nY iJ oq)))))) oq)))):FS) (stL 5 es [sp])=some (.nx [.im sp,.pm es,.im L,.un,.un]):=(oH (pD (n9 (nZ rfl (nZ rfl rfl)) (of_ok (by omega) Kd.pl XA)))).trans rfl;rw[n4 e1];obtain⟨w,es1,i1,w0,w1,h1⟩:=tk (ρ:=[.im sp,.pm es,.im L,.un,.un]) (j:=1) (e:=cC (.int 8)) (n:=8) (by decide) hi rfl rfl;rw[n4 ((oH h1).trans (show _=some (Out.nx [.im sp,.pm es1,.im L,.im (.int w),.un]) from rfl))];let ρ:aZ:=[.im sp,.pm es1,.im L,.im (.int w),.un];have far:∃c f es',IL es'/\Cm sm c f/\(oj (c2 dIx (cL (oG m8)) (c2 rh aq b0)):FS) ρ=some (.rt c [.im sp,.pm es',.im L,.im (.int w),.un]):=by
   obtain⟨r,es2,i2,r0,r1,h2⟩:=tk (ρ:=ρ) (j:=1) (e:=cC (.int 2)) (n:=2) (by decide) i1 rfl rfl;have m0:=jH w (by decide:(2:Int)≠0);have m1:=jx w (by decide:(0:Int)<2);let z:Str:=if r=0 then "north" else "up"
   let ρ2:aZ:=[.im sp,.pm es2,.im L,.im (.int w),.un];have ez:(if r=0 then D.str "north" else .str "up")=.str z:=by show _=D.str (if r=0 then "north" else "up");split<;>rfl
   have en:=og (g:=dIx) (e:=cL (oG m5)) (ρ:=ρ) (ρ1:=ρ) rfl h2 ((Ji r0 r1).trans (aR some ez));have er:=ou (og (g:=dIx) (e:=cL (oG m8)) (e':=c2 rh aq b0) (x:=.lst [.tup [.str "go", .str z,.non],.tup [.str "wait", .non,.non]]) (y:=.int (w % 2)) (ρ:=ρ) (ρ1:=ρ2) (ρ2:=ρ2) (pD (wq (nZ (qA (nZ rfl (nZ en rfl)) (bE rfl)) rfl) (bE rfl))) (og rfl rfl (ub (by decide))) (Ji m0 m1));by_cases hw:w % 2=0
   ·rw[ai hw]at er;exact⟨_,_,es2,i2,.go z,er⟩
   ·rw[aj hw]at er;exact⟨_,_,es2,i2,.wait,er⟩
  obtain⟨c0,f0,es0,j0,k0,far⟩:=far;by_cases h0:sm=[]
  ·have et:rG (cT (c2 (dEq false) ar (cL (oG oq)))) (cT (c2 Cn aq dr)) ρ=some (true,ρ):=v7 (ph (og (x:=L) (y:=.lst []) rfl rfl (by show dEq false (.lst (sm.map D.str)) _=_;rw[h0];rfl)));exact⟨c0,f0,es0,_,j0,k0,_,oO ((oV et).trans far)⟩
  ·have ee:cT (c2 (dEq false) ar (cL (oG oq))) ρ=some (false,ρ):=ph (og (x:=L) (y:=.lst []) rfl rfl (by
    show dEq false (.lst (sm.map D.str)) _=_;obtain⟨a,r,e⟩:=eU h0;rw[e];exact yg a r))
   have et:rG (cT (c2 (dEq false) ar (cL (oG oq)))) (cT (c2 Cn aq dr)) ρ=some (decide (w > 5),ρ):=rQ ee (ph (og rfl rfl rfl));by_cases hw:w > 5
   ·rw[aT hw]at et;exact⟨c0,f0,es0,_,j0,k0,_,oO ((oV et).trans far)⟩
   ·rw[aH hw]at et;rw[n4 ((oM et).trans (show _=some (Out.nx ρ) from rfl))];obtain⟨a,es2,ha,i2,h2⟩:=pk (ρ:=ρ) (i:=2) (j:=1) h0 i1 rfl rfl;rw[n4 ((oH h2).trans (show _=some (Out.nx [.im sp,.pm es2,.im L,.im (.int w),.im (.str a)]) from rfl))];let ρ2:aZ:=[.im sp,.pm es2,.im L,.im (.int w),.im (.str a)];have e2:cT (c2 yy aq b0) ρ2=some (decide (w<2),ρ2):=ph (og rfl rfl rfl);by_cases hw:w<2
    ·rw[aT hw]at e2;exact⟨_,_,es2,_,i2,.take ha,_,oO ((oV e2).trans rfl)⟩
    ·rw[aH hw]at e2;rw[n4 ((oM e2).trans (show _=some (Out.nx ρ2) from rfl))];obtain⟨b,es3,hb,i3,h3⟩:=pk (ρ:=ρ2) (i:=2) (j:=1) h0 i2 rfl rfl;exact⟨_,_,es3,_,i3,.put ha hb,_,ou (qA (nZ rfl (nZ rfl (nZ h3 rfl))) (bE rfl))⟩
 obtain⟨c,f,es',x4,i',cm,x3,run⟩:=run;refine⟨c,f,es',i',cm,?_⟩;unfold rB fnL;rw[ai (show [sp].length=1 from rfl),run];rfl
end
section
variable{y:Str}{T:List Th}{M:List Mk}{dk:aB}{A:List (Str×Str)}
inductive Tm(A:List (Str×Str)) (y:Str):L4.D->Str->Str->Prop
 |it1 (a:Str):Tm A y (.tup [.str "take", .str a,.non]) "it" a
 |it2 (a b:Str):Tm A y (.tup [.str "put", .str a,.str b]) "it" a
 |oth (a b:Str):Tm A y (.tup [.str "put", .str a,.str b]) "other" b
 |nm (c:L4.D) {x:Str}:Nm x->Tm A y c x x
 |here (c:L4.D) {r:Str}:(y,r)∈A->Tm A y c "here" r
theorem XB(k:Kd):dIn false (.str k.s) (.lst [.str "room", .str "box", .str "you"])=some (.bl k.hd):=by cases k<;>kernel_rfl
theorem LF{sm:aB}(cm:Cm sm c f):dIn false (.str f) (.lst [.str "one", .str "two"])=some (.bl (decide (f="one" \/ f="two"))):=by cases cm<;>kernel_rfl
theorem is2{sm:aB}(cm:Cm sm c f):dEq false (.str f) (.str "two")=some (.bl (decide (f="two"))):=by cases cm<;>kernel_rfl
theorem nmN(g:Good T M dk)(h:x∈nmK T p):Nm x:=g.nm _ (bF _ ((pX T p).subset h))
theorem Ke{sm:aB}(cm:Cm sm c f){t:Str}(h:(t="it" /\ (f="one" \/ f="two"))\/(t="other" /\ f="two")):∃z,Tm A y c t z/\z∈sm:=by
 cases cm with
 |go z=>rcases h with ⟨_,h|h⟩|⟨_,h⟩<;>exact ao h (by decide)
 |wait=>rcases h with ⟨_,h|h⟩|⟨_,h⟩<;>exact ao h (by decide)
 |@take a ha=>
  rcases h with ⟨rfl,_⟩|⟨_,h⟩
  ·exact⟨a,.it1 a,ha⟩
  ·exact ao h (by decide)
 |@put a b ha hb=>
  rcases h with ⟨rfl,_⟩|⟨rfl,_⟩
  ·exact⟨a,.it2 a b,ha⟩
  ·exact⟨b,.oth a b,hb⟩
def itL(n:Nat)(f:Str):aB:=if f="one" \/ f="two" then dJ n "it" else []
def otL(f:Str):aB:=if f="two" then ["other", "other"]else []
theorem FR{sm:aB}(cm:Cm sm c f){n:Nat}{t:Str}(h:t∈itL n f\/t∈otL f):∃z,Tm A y c t z/\z∈sm:=by
 refine Ke cm ?_;rcases h with h|h
 ·unfold itL at h;split at h
  ·rename_i e;exact .inl ⟨(List.mem_replicate.mp h).2,e⟩
  ·cases h
 ·unfold otL at h;split at h
  ·rename_i e;refine .inr ⟨?_,e⟩;rcases aM.mp h with h|h
   ·exact h
   ·exact aO.mp h
  ·cases h
abbrev fE:=(nY (cC (.str "one")) (nY (cC (.str "two")) oq))
abbrev fF:=(cC (.str "two"))
abbrev kK:=(cC (.str "other"))
abbrev iI:=(nY kK oq)
abbrev fH:=(cC (.str "it"))
theorem HC(g:Good T M dk)(cm:Cm (nmK T Kd.pl) c f)(hr:∃r,(y,r)∈A/\r∈T.map Th.n)(hi:IL es):∃p w es',IL es'/\Tm A y c p w/\w∈T.map Th.n/\uo es [pS T M dk y,.str f]=some (.str p,es'):=by
 let sp:=pS T M dk y;let hs:=nmK T Kd.hd;let L:L4.D:=.lst (hs.map D.str);have hl:=g.len;have h0:hs≠[]:=λe=>by have:=g.r1;obtain⟨t,ht⟩:=List.exists_mem_of_length_pos (by omega:0<(T.filter λt=>decide (t.k=.room)).length);rw[bS]at ht;have hm:t.n∈hs:=aF.mpr ⟨t,bS.mpr ⟨ht.1,by rw[bq ht.2];rfl⟩,rfl⟩;rw[e]at hm;cases hm
 let ρ:List L4.D->Sl->aZ:=λes s=>[.im sp,.im (.str f),.pm es,.im L,s];obtain⟨a,es1,ha,i1,e1⟩:=pk (ρ:=ρ es .un) (i:=3) (j:=2) h0 hi rfl rfl;obtain⟨b,es2,hb,i2,e2⟩:=pk (ρ:=ρ es1 .un) (i:=3) (j:=2) h0 i1 rfl rfl;let P1:aB:=[a,b,"here"]++itL 1 f;let P2:aB:=P1++otL f;have hP:∀t∈P2,∃w,Tm A y c t w/\w∈T.map Th.n:=λt ht=>by
  have sub:∀{p:Kd->Bool} {x:Str},x∈nmK T p->x∈T.map Th.n:=λh=>(pX T _).subset h;rcases bg.mp ht with ht|ht
  ·rcases bg.mp ht with ht|ht
   ·rcases aM.mp ht with rfl|ht
    ·exact⟨_,.nm c (nmN g ha),sub ha⟩
    ·rcases aM.mp ht with rfl|ht
     ·exact⟨_,.nm c (nmN g hb),sub hb⟩
     ·rw[aO.mp ht];obtain⟨r,h1,h2⟩:=hr;exact⟨r,.here c h1,h2⟩
   ·obtain⟨z,h1,h2⟩:=FR (A:=A) (y:=y) cm (.inl ht);exact⟨z,h1,sub h2⟩
  ·obtain⟨z,h1,h2⟩:=FR (n:=1) (A:=A) (y:=y) cm (.inr ht);exact⟨z,h1,sub h2⟩
 have lP:P2.length<=10:=by show (([a,b,"here"]++itL 1 f)++otL f).length<=10;unfold itL otL;split<;>split<;>simp
 have s1:(sIf (cT (c2 (dIn false) ag (cL (oG fE)))) (o9 (uC 4 fH)) oA:FS) (ρ es2 (.ls ([a,b,"here"].map D.str)))=some (.nx (ρ es2 (.ls (P1.map D.str)))):=by
  have et:cT (c2 (dIn false) ag (cL (oG fE))) (ρ es2 (.ls ([a,b,"here"].map D.str)))=some (decide (f="one" \/ f="two"),ρ es2 (.ls ([a,b,"here"].map D.str))):=ph (og (x:=.str f) (y:=.lst [.str "one", .str "two"]) rfl rfl (LF cm));by_cases h:f="one" \/ f="two"
  ·rw[aT h]at et;show _=some (Out.nx (ρ es2 (.ls (([a,b,"here"]++itL 1 f).map D.str))));unfold itL;rw[ai h];exact(oV et).trans rfl
  ·rw[aH h]at et;show _=some (Out.nx (ρ es2 (.ls (([a,b,"here"]++itL 1 f).map D.str))));unfold itL;rw[aj h];exact(oM et).trans rfl
 have s2:(sIf (cT (c2 (dEq false) ag fF)) (rS 4 (qz (cFz 4) (cL (oG (nY kK iI))))) oA:FS) (ρ es2 (.ls (P1.map D.str)))=some (.nx (ρ es2 (.ls (P2.map D.str)))):=by
  have et:cT (c2 (dEq false) ag fF) (ρ es2 (.ls (P1.map D.str)))=some (decide (f="two"),ρ es2 (.ls (P1.map D.str))):=ph (og (x:=.str f) (y:=.str "two") rfl rfl (is2 cm));by_cases h:f="two"
  ·rw[aT h]at et;have e:P2=P1++(["other", "other"]:aB):=by show P1++otL f=_;unfold otL;rw[ai h]
   rw[e]at lP ⊢;rw[aA]at lP;refine(oV et).trans ((wo (rX (xs:=P1.map D.str) (ys:=[.str "other", .str "other"]) (ρ1:=ρ es2 (.im (.lst (P1.map D.str)))) rfl rfl (by rw[ah];simp at lP ⊢;omega))).trans ?_);rw[aW (l₁:=P1)];rfl
  ·rw[aH h]at et;have e:P2=P1:=by show P1++otL f=_;unfold otL;rw[aj h,bt]
   rw[e];exact(oM et).trans rfl
 have hne:P2≠[]:=λe=>by have:=aR bT e;simp[P2,P1]at this
 obtain⟨p,es3,hp,i3,e3⟩:=FK (ρ:=ρ es2 (.ls (P2.map D.str))) (i:=2) (j:=4) (Hs:=P2) i2 hne rfl rfl rfl (λes'=>rfl);obtain⟨w,tm,hw⟩:=hP p hp;refine⟨p,w,es3,i3,tm,hw,?_⟩;have run:um (stL 5 es [sp,.str f])=some (.rt (.str p) (ρ es3 (.ls (P2.map D.str)))):=by unfold um;refine(n4 (ρ':=ρ es .un) ((oH (pD (n9 (ds:=[sp,.lst [.str "room", .str "box", .str "you"]]) (nZ rfl (nZ rfl rfl)) (of_ok (by omega) Kd.hd XB)))).trans rfl)).trans ?_;refine(n4 (ρ':=ρ es2 (.ls ([a,b,"here"].map D.str))) ((wo (wq (nZ e1 (nZ e2 (nZ rfl rfl))) (bE rfl))).trans rfl)).trans ?_;refine(n4 s1).trans ((n4 s2).trans ?_);exact(ou e3).trans rfl
 unfold uo fnL;rw[ai (show [sp,D.str f].length=2 from rfl),run];rfl
end
section
variable{A:List (Str×Str)}{V:List (Str×Int)}{S:List (Ky×L4.D)}{y:Str}{T:List Th}{M:List Mk}{dk:aB}{mo:L4.D}
theorem sR(a:ye A y)(o:zf A V S){t:Str}(tm:Tm A y c t z):p6 [wO T M dk y mo,sD S,c,.str t]=some (.str z):=by
 cases tm with
 |it1 a=>exact Kc (Q1 _ _)
 |it2 a b=>exact Kc (Ot _ _)
 |oth a b=>exact Jh (Ot _ _)
 |nm c hx=>exact Q2 hx
 |here c h=>exact LD a o h
end
section
variable{y:Str}{T:List Th}{M:List Mk}{dk:aB}{A:List (Str×Str)}
abbrev mks(T:List Th)(M:List Mk):aB:=nmK T Kd.mk++M.map Mk.n
theorem ndM(g:Good T M dk):(mks T M).Nodup:=g.nd.sublist ((pX T _).append (eA _))
theorem Kg(g:Good T M dk):(mks T M).length<=11:=by
 unfold mks;rw[aA,ah];have h2:=Je (T:=T) (p:=Kd.mk) (q:=Kd.pl) λk h=>by cases k<;>first|rfl|cases h
 have h3:=g.p7;have h4:=g.m4;omega
theorem EM:∀V:List (Str×Int),AY (V.map λq=>kS q.1)=some (V.map aC)
 |[]=>rfl
 |q::V=>by rw[ay,ay];show (AY _).map _=_;rw[EM V];rfl
theorem Ou{V:List (Str×Int)}(h:e ρ=some (dcI V,ρ))(hl:V.length<64):Au e ρ=some ((AX (V.map aC)).map D.str,ρ):=by unfold Au;rw[h];simp only[EM,ah,hl,if_true]
theorem uw(h:c ρ=some (true,ρ1)):sA c c' ρ=c' ρ1:=by unfold sA;rw[h]
theorem v8(h:c ρ=some (false,ρ1)):sA c c' ρ=some (false,ρ1):=by unfold sA;rw[h]
abbrev m7:=(nY (c2 dIx (cL (oG (nY fH (nY (c2 dIx (cL (oG (nY fH iI))) (c1 Gu (c2 (dEq false) ag fF))) oq)))) (pb n8 2 kO)) (nY (pb n8 2 (nY dS oq)) oq))
theorem EN(g:Good T M dk)(cm:Cm (nmK T Kd.pl) c f)(hi:IL es)(hf:f="one" \/ f="two" \/ moL T M≠[]):∃t z v es',IL es'/\Tm A y c t z/\qS es [pS T M dk y,.str f]=some (.tup [.str t,.int v],es'):=by
 let sp:=pS T M dk y;obtain⟨V,em,v1,v2,rfl⟩:=z8 (y:=y) g;let N:=AX ((moL T M).map aC);let L:L4.D:=.lst (N.map D.str);have hN:∀x,x∈N ↔ x∈(moL T M).map aC:=λx=>(jo _ leS).mem_iff;have hl:(moL T M).length<=11:=by have:=Kg g;have h:=aR bT v1;rw[ah]at h;rw[h];exact this
 let ρ:List L4.D->Sl->aZ:=λes s=>[.im sp,.im (.str f),.pm es,.im (dcI (moL T M)),.im L,s];have byit:∀es1,IL es1->(f="one" \/ f="two")->∃t z v es',IL es'/\Tm A y c t z/\(oj (pd m7):FS) (ρ es1 .un)=some (.rt (.tup [.str t,.int v]) (ρ es' .un)):=λes1 i1 h=>by
  obtain⟨r,es2,i2,r0,r1,h2⟩:=tk (ρ:=ρ es1 .un) (j:=2) (e:=cC (.int 2)) (n:=2) (by decide) i1 rfl rfl;obtain⟨v,es3,i3,_,_,h3⟩:=tk (ρ:=ρ es2 .un) (j:=2) (e:=cC (.int 4)) (n:=4) (by decide) i2 rfl rfl;have fin:∀b:Str,c2 dIx (cL (oG (nY fH iI))) (c1 Gu (c2 (dEq false) ag fF)) (ρ es1 .un)=some (.str b,ρ es1 .un)->(oj (pd m7):FS) (ρ es1 .un)=some (.rt (.tup [.str (if r=0 then "it" else b),.int v]) (ρ es3 .un)):=λb eb=>by
   have ez:(if r=0 then D.str "it" else .str b)=.str (if r=0 then "it" else b):=by split<;>rfl
   exact ou (qA (nZ (og (x:=.lst [.str "it", .str b]) (y:=.int r) (ρ1:=ρ es1 .un) (pD (wq (nZ rfl (nZ eb rfl)) (bE rfl))) h2 ((Ji r0 r1).trans (aR some ez))) (nZ h3 rfl)) (bE rfl))
  cases cm with
  |go z=>rcases h with h|h<;>exact ao h (by decide)
  |wait=>rcases h with h|h<;>exact ao h (by decide)
  |@take a ha=>refine⟨_,a,v,es3,i3,?_,fin "it" (by kernel_rfl)⟩;rw[ite_self];exact .it1 a
  |@put a b ha hb=>
   by_cases hr:r=0
   ·refine⟨_,a,v,es3,i3,?_,fin "other" (by kernel_rfl)⟩;rw[ai hr];exact .it2 a b
   ·refine⟨_,b,v,es3,i3,?_,fin "other" (by kernel_rfl)⟩;rw[aj hr];exact .oth a b
 have byname:∀es1,IL es1->N≠[]->∃t z v es' s,IL es'/\Tm A y c t z/\(oe (oP 5 (c2 dIx av (pb n8 2 (nY (c1 p9 av) oq))))
   (oj (pd (nY aP (nY (pb n8 2 (nY (c2 pE (c2 qt aq aP) aJ) oq)) oq)))):FS) (ρ es1 .un)=some (.rt (.tup [.str t,.int v]) (ρ es' s)):=λes1 i1 h=>by
  obtain⟨x,es2,hx,i2,h2⟩:=pk (ρ:=ρ es1 .un) (i:=4) (j:=2) h i1 rfl rfl;obtain⟨q,hq,rfl⟩:=aF.mp ((hN x).mp hx);have h1:=v2 q hq;have hm:q.1∈mks T M:=by show q.1∈nmK T Kd.mk++M.map Mk.n;rw[<-v1];exact aF.mpr ⟨q,hq,rfl⟩
  have nm:Nm q.1:=g.nm _ (((pX T Kd.mk).append (eA _)).subset hm);rw[n4 ((oH h2).trans (show _=some (Out.nx (ρ es2 (.im (.str q.1)))) from rfl))];obtain⟨v,es3,i3,_,_,h3⟩:=tk (ρ:=ρ es2 (.im (.str q.1))) (j:=2) (e:=c2 pE (c2 qt aq aP) aJ) (n:=q.2+1) (by omega) i2 rfl (og (x:=.int q.2) (y:=.int 1) (og (x:=dcI (moL T M)) (y:=.str q.1) rfl rfl (Oh (by rw[v1];exact ndM g) (x:=q.1) (z:=q.2) hq)) rfl rfl);exact⟨q.1,q.1,v,es3,_,i3,.nm c nm,ou (qA (nZ rfl (nZ h3 rfl)) (bE rfl))⟩
 have run:∃t z v es' s,IL es'/\Tm A y c t z/\tM (stL 6 es [sp,.str f])=some (.rt (.tup [.str t,.int v]) (ρ es' s)):=by
  unfold tM;rw[n4 ((oH (n9 (ds:=[sp]) (ρ1:=[.im sp,.im (.str f),.pm es,.un,.un,.un]) rfl em)).trans (show _=some (Out.nx [.im sp,.im (.str f),.pm es,.im (dcI (moL T M)),.un,.un]) from rfl))];rw[n4 ((oH (pD (Ou (V:=moL T M) rfl (by omega)))).trans (show _=some (Out.nx (ρ es .un)) from rfl))];by_cases h12:f="one" \/ f="two"
  ·have e1:cT (c2 (dIn false) ag (cL (oG fE))) (ρ es .un)=some (true,ρ es .un):=by rcases h12 with h|h<;>(subst h;kernel_rfl)
   by_cases h0:N=[]
   ·obtain⟨t,z,v,es',i',tm,e⟩:=byit es hi h12;exact⟨t,z,v,es',.un,i',tm,oO ((oV ((uw e1).trans (v7 (ph (og (x:=L) (y:=.lst []) rfl rfl (by show dEq false (.lst (N.map D.str)) _=_;rw[h0];rfl)))))).trans e)⟩
   ·have e2:cT (c2 (dEq false) av (cL (oG oq))) (ρ es .un)=some (false,ρ es .un):=ph (og (x:=L) (y:=.lst []) rfl rfl (by
     show dEq false (.lst (N.map D.str)) _=_;obtain⟨a,r,e⟩:=eU h0;rw[e];exact yg a r))
    obtain⟨r,es1,i1,_,_,h1⟩:=tk (ρ:=ρ es .un) (j:=2) (e:=cC (.int 2)) (n:=2) (by decide) hi rfl rfl;have e3:=(uw e1).trans (rQ e2 (ph (og (e':=cC (.int 0)) h1 rfl (sF false r 0))));by_cases hr:r=0
    ·obtain⟨t,z,v,es',i',tm,e⟩:=byit es1 i1 h12;rw[aT hr]at e3;exact⟨t,z,v,es',.un,i',tm,oO ((oV e3).trans e)⟩
    ·obtain⟨t,z,v,es',s,i',tm,e⟩:=byname es1 i1 h0;rw[aH hr]at e3;exact⟨t,z,v,es',s,i',tm,(n4 ((oM e3).trans rfl)).trans e⟩
  ·have h0:N≠[]:=λh=>by
    rcases hf with h'|h'|h'
    ·exact h12 (.inl h')
    ·exact h12 (.inr h')
    ·obtain⟨q,r,e⟩:=eU h';have:q.1∈N:=(hN _).mpr (by rw[e];exact ba ..);rw[h]at this;cases this
   have e1:cT (c2 (dIn false) ag (cL (oG fE))) (ρ es .un)=some (false,ρ es .un):=ph (og (x:=.str f) (y:=.lst [.str "one", .str "two"]) rfl rfl ((uD false f ["one", "two"]).trans (by simp;exact⟨λh=>h12 (.inl h),λh=>h12 (.inr h)⟩)));obtain⟨t,z,v,es',s,i',tm,e⟩:=byname es hi h0;exact⟨t,z,v,es',s,i',tm,(n4 ((oM (v8 e1)).trans rfl)).trans e⟩
 obtain⟨t,z,v,es',s,i',tm,run⟩:=run;refine⟨t,z,v,es',i',tm,?_⟩;unfold qS fnL;rw[ai (show [sp,D.str f].length=2 from rfl),run];rfl
end
section
variable{y:Str}{T:List Th}{M:List Mk}{dk:aB}{A:List (Str×Str)}
theorem Kh(l:aB)(lo hi:Option Int):∃l':aB,cutD (l.map D.str) lo hi=l'.map D.str/\(∀x∈l',x∈l)/\l'.length<=l.length:=
 ⟨(l.drop (HT.sIx l.length 0 lo)).take (HT.sIx l.length l.length hi - HT.sIx l.length 0 lo),by unfold cutD;rw[ah,<- fi,<- fj],λx hx=>jj (lI hx),by rw[br,cc];omega⟩
theorem Ki{ρ:Sl->aZ}{c:FT}{b:Bool}{e:FA}{P ys:aB}(hs:∀d s,(ρ s).set 4 (.im d)=ρ (.im d))(h4:∀d,cV 4 (ρ (.im d))=some (d,ρ (.im d)))(hc:∀s,c (ρ s)=some (b,ρ s))(he:∀s,e (ρ s)=some (ys.map D.str,ρ s))(hl:P.length+ys.length<=900):
  (sIf c (oP 4 (cL (qz av (cL e)))) oA:FS) (ρ (.im (.lst (P.map D.str))))=some (.nx (ρ (.im (.lst ((P++if b then ys else []).map D.str))))):=by
 cases b with
 |false=>exact(oM (hc _)).trans (by rw[aj bp,bt];rfl)
 |true=>refine(oV (hc _)).trans ((oH (pD (rX (xs:=P.map D.str) (ys:=ys.map D.str) (h4 _) (pD (he _)) (by rw[ah,ah];omega)))).trans ?_);rw[hs,ai rfl,aW]
theorem Q5(g:Good T M dk)(cm:Cm (nmK T Kd.pl) c f)(hr:∃r,(y,r)∈A/\r∈T.map Th.n)(hi:IL es):∃t z es',IL es'/\Tm A y c t z/\z∈T.map Th.n/\rD es [pS T M dk y,.str f]=some (.str t,es'):=by
 let sp:=pS T M dk y;let N:=T.map Th.n;have hl:=g.len;let ρ:List L4.D->Sl->aZ:=λes s=>[.im sp,.im (.str f),.pm es,.im (.lst (N.map D.str)),s];have hN:0<N.length:=by have h1:=g.r1;have h2:=fQ (λt:Th=>decide (t.k=.room)) T;show 0<(T.map Th.n).length;rw[ah];omega
 have lN:N.length=T.length:=ah _;obtain⟨r,es1,i1,_,_,e1⟩:=tk (ρ:=ρ es .un) (j:=2) (e:=c1 p9 aq) (n:=N.length) (by omega) hi rfl (pC rfl (by show some (D.int ((N.map D.str).length:Nat))=_;rw[ah]));obtain⟨l1,cq1,m1,n1⟩:=Kh N (some r) none;obtain⟨l2,cq2,m2,n2⟩:=Kh l1 none (some 3);let P0:aB:=l2++(["here"]:aB);let P1:aB:=P0++if decide (f="one" \/ f="two")then (["it", "it", "it"]:aB)else []
 let P2:aB:=P1++if decide (f="two")then (["other", "other"]:aB)else []
 have lP0:P0.length<=300:=by show (l2++(["here"]:aB)).length<=300;rw[aA];simp;omega
 have lP1:P1.length<=303:=by show (P0++if decide (f="one" \/ f="two")then (["it", "it", "it"]:aB)else []).length<=303;rw[aA];split<;>simp<;>omega
 have hP:∀t∈P2,∃w,Tm A y c t w/\w∈T.map Th.n:=λt ht=>by
  have byc:((t="it" /\ (f="one" \/ f="two"))\/(t="other" /\ f="two"))->∃w,Tm A y c t w/\w∈T.map Th.n:=λh=>by obtain⟨z,h1,h2⟩:=Ke (A:=A) (y:=y) cm h;exact⟨z,h1,(pX T _).subset h2⟩
  rcases bg.mp ht with ht|ht
  ·rcases bg.mp ht with ht|ht
   ·rcases bg.mp ht with ht|ht
    ·have h:=m1 _ (m2 _ ht);exact⟨t,.nm c (g.nm _ (bF _ h)),h⟩
    ·rw[aO.mp ht];obtain⟨r,h1,h2⟩:=hr;exact⟨r,.here c h1,h2⟩
   ·split at ht
    ·rename_i h;refine byc (.inl ⟨?_,bq h⟩);simpa using ht
    ·cases ht
  ·split at ht
   ·rename_i h;refine byc (.inr ⟨?_,bq h⟩);simpa using ht
   ·cases ht
 have hne:P2≠[]:=λe=>by have:=aR bT e;simp[P2,P1,P0]at this
 obtain⟨t,es2,ht,i2,e2⟩:=pk (ρ:=ρ es1 (.im (.lst (P2.map D.str)))) (i:=4) (j:=2) hne i1 rfl rfl;obtain⟨z,tm,hz⟩:=hP t ht;refine⟨t,z,es2,i2,tm,hz,?_⟩;have run:tR (stL 5 es [sp,.str f])=some (.rt (.str t) (ρ es2 (.im (.lst (P2.map D.str))))):=by
  unfold tR;have ec:=xl (k:=3) (cap:=[]) (s:=iL (c2 qt aa gA)) (g:=gT (oK (gN 0) (oK (gN 1) (oK (gN 2) qv))) 3) (fe:=cV 0) (λt:Th=>oR t.rw) (λt=>D.str t.n) T (ρ:=[.im sp,.im (.str f),.pm es,.un,.un]) (ρ1:=[.im sp,.im (.str f),.pm es,.un,.un]) rfl (by omega) λt _=>⟨_,_,rfl,rfl,rfl⟩;refine(n4 (ρ':=ρ es .un) ((oH (pD ec)).trans ?_)).trans ?_
  ·show _=some (Out.nx [.im sp,.im (.str f),.pm es,.im (.lst ((T.map Th.n).map D.str)),.un]);rw[aV];rfl
  refine(n4 (ρ':=ρ es1 (.im (.lst (P0.map D.str)))) ((oH (pD (rX (xs:=l2.map D.str) (ys:=[.str "here"]) (ρ1:=ρ es1 .un) (ρ2:=ρ es1 .un) (pD ?_) rfl (by rw[ah];simp;omega)))).trans ?_)).trans ?_
  ·have h1:vq aq (oAt (pb n8 2 fL)) oNo (ρ es .un)=some (l1.map D.str,ρ es1 .un):=by unfold vq oAt;show (match (match pb n8 2 (nY (c1 p9 aq) oq) (ρ es .un)with|some (.int i,ρ')=>some (some i,ρ')|_=>none)with|some (l,ρ2)=>some (cutD (N.map D.str) l none,ρ2)|none=>none)=_;rw[e1];show some (cutD (N.map D.str) (some r) none,ρ es1 .un)=_;rw[cq1]
   unfold cSl;rw[pD h1];show some (cutD (l1.map D.str) none (some 3),ρ es1 .un)=_;rw[cq2]
  ·rw[show P0.map D.str=l2.map D.str++[.str "here"] from aW];rfl
  refine(n4 (Ki (ρ:=ρ es1) (P:=P0) (e:=oG kC) (ys:=["it", "it", "it"]) (λ_ _=>rfl) (λ_=>rfl) (λs=>ph (og (x:=.str f) (y:=.lst [.str "one", .str "two"]) rfl rfl (LF cm))) (λ_=>rfl) (by simp;omega))).trans ?_;refine(n4 (Ki (ρ:=ρ es1) (P:=P1) (e:=oG iW) (ys:=["other", "other"]) (λ_ _=>rfl) (λ_=>rfl) (λs=>ph (og (x:=.str f) (y:=.str "two") rfl rfl (is2 cm))) (λ_=>rfl) (by simp;omega))).trans ?_;exact(ou e2).trans rfl
 unfold rD fnL;rw[ai (show [sp,D.str f].length=2 from rfl)];rw[show tR (stL 5 es [pS T M dk y,.str f])=_ from run];rfl
end
section
variable{y:Str}{T:List Th}{M:List Mk}{dk:aB}{A:List (Str×Str)}
abbrev Tn(A:List (Str×Str))(y:Str)(c c':L4.D)(t z:Str):Prop:=Tm A y c t z/\Tm A y c' t z
inductive Ak(T:List Th) (A:List (Str×Str)) (y:Str) (c c':L4.D):Nat->L4.D->Prop
 |at {n:Nat} {t p z w:Str}:Tn A y c c' t z->Tn A y c c' p w->Ak T A y c c' n (.tup [.str "at", .str t,.str p])
 |has {n:Nat} {t z:Str}:Tn A y c c' t z->Ak T A y c c' n (.tup [.str "has", .str t])
 |seen {n:Nat} {t z:Str}:Tn A y c c' t z->z∈T.map Th.n->Ak T A y c c' n (.tup [.str "seen", .str t])
 |kind {n:Nat} {t z:Str} (k:Str):noT k=true->Tn A y c c' t z->z∈T.map Th.n->Ak T A y c c' n (.tup [.str "kind", .str t,.str k])
 |word {n:Nat} (x z:Str):c=.tup [.str "go", .str z,.non]->c'=c->Ak T A y c c' n (.tup [.str "word", .str x])
 |marked {n:Nat} {t z:Str} (v:Int):Tn A y c c' t z->Ak T A y c c' n (.tup [.str "marked", .str t,.int v])
 |lit {n:Nat}:Ak T A y c c' n (.tup [.str "lit"])
 |no {n:Nat} {a:L4.D}:Ak T A y c c' n a->Ak T A y c c' (n+1) (.tup [.str "not", a])
 |both {n:Nat} {a b:L4.D}:Ak T A y c c' n a->Ak T A y c c' n b->Ak T A y c c' (n+1) (.tup [.str "both", a,b])
theorem rP{g:List L4.D->List L4.D->Option (L4.D×List L4.D)}(h1:a ρ=some (ds,ρ1))(h2:pZ ρ1 i=some es)(h3:g es ds=some (d,es')):pJ g i a ρ=some (d,putAt ρ1 i es'):=by unfold pJ;rw[h1];simp only[h2,h3]
theorem Ov(h1:f ρ=some (d,ρ1))(h2:gg d ρ1=some ρ2):Gh f gg ρ=some (.nx ρ2):=by unfold Gh;rw[h1];simp only[h2]
theorem Kj{l:aB}{r:Int}(h0:0<=r)(h1:r<l.length):∃x,x∈l/\dIx (.lst (l.map D.str)) (.int r)=some (.str x):=by
 obtain⟨m,rfl⟩:=cn h0;have hm:m<l.length:=by omega
 exact⟨_,cZ hm,rF (aL hm)⟩
theorem Q6{n:Nat}(h:n<=3)(a b p q r s t:Sl):c2 dIx (cL (oG kH)) (c1 Gu (c2 Cn aq aJ)) [a,b,p,.im (.int ((n+1:Nat):Int)),q,r,s,t]=some (.int (if n=0 then 7 else 10),[a,b,p,.im (.int ((n+1:Nat):Int)),q,r,s,t]):=by
 match n,h with
 |0,_=>kernel_rfl
 |1,_=>kernel_rfl
 |2,_=>kernel_rfl
 |3,_=>kernel_rfl
theorem HD(g:Good T M dk){c:L4.D}{f:Str}(cm:Cm (nmK T Kd.pl) c f)(hr:∃r,(y,r)∈A/\r∈T.map Th.n){n:Nat}(hn:n<=3)
  (ih:∀m,n=m+1->∀es,IL es->∃d es',IL es'/\Ak T A y c c m d/\oY n es [pS T M dk y,.str f,.int n]=some (d,es')) {es:List L4.D} (hi:IL es):∃d es',IL es'/\Ak T A y c c n d/\oY (n+1) es [pS T M dk y,.str f,.int ((n+1:Nat):Int)]=some (d,es'):=by
 let dp:Int:=((n+1:Nat):Int);let sp:=pS T M dk y;let ρ:List L4.D->Sl->Sl->Sl->Sl->aZ:=λes a b p q=>[.im sp,.im (.str f),.pm es,.im (.int dp),a,b,p,q];have suf:∀{d:L4.D} {es':List L4.D} {a b p q:Sl},pW (oY n) (ρ es .un .un .un .un)=some (.rt d (ρ es' a b p q))->oY (n+1) es [pS T M dk y,.str f,.int dp]=some (d,es'):=λ{d es' a b p q} run=>by unfold oY fnJ;rw[ai (show [sp,D.str f,.int dp].length=3 from rfl)];rw[show pW (oY n) (stJ 2 8 es [pS T M dk y,.str f,.int dp])=_ from run];rfl
 obtain⟨r,es1,i1,r0,r1,e1⟩:=tk (ρ:=ρ es .un .un .un .un) (j:=2) (e:=c2 dIx (cL (oG kH)) (c1 Gu (c2 Cn aq aJ))) (n:=if n=0 then 7 else 10) (by split<;>decide) hi rfl (Q6 hn _ _ _ _ _ _ _);have fin:(∃d es' a b p q,IL es'/\Ak T A y c c n d/\pW (oY n) (ρ es .un .un .un .un)=some (.rt d (ρ es' a b p q)))->∃d es',IL es'/\Ak T A y c c n d/\oY (n+1) es [pS T M dk y,.str f,.int dp]=some (d,es'):=λ⟨d,es',a,b,p,q,h1,h2,h3⟩=>⟨d,es',h1,h2,suf h3⟩;refine fin ?_;unfold pW;rw[n4 ((oH e1).trans (show _=some (Out.nx (ρ es1 (.im (.int r)) .un .un .un)) from rfl))];have trm:∀{es0:List L4.D} (s5:Sl),IL es0->∃t z es',IL es'/\Tm A y c t z/\z∈T.map Th.n/\pJ rD 2 bP (ρ es0 (.im (.int r)) s5 .un .un)=some (.str t,ρ es' (.im (.int r)) s5 .un .un):=λ{es0} s5 h=>by obtain⟨t,z,es',h1,h2,h3,h4⟩:=Q5 (A:=A) (y:=y) g cm hr h;exact⟨t,z,es',h1,h2,h3,(rP (i:=2) (ds:=[sp,.str f]) (ρ1:=ρ es0 (.im (.int r)) s5 .un .un) rfl rfl h4).trans rfl⟩
 have hgo:f="way" -> ∃z,c=.tup [.str "go", .str z,.non]:=λh=>by
  cases cm with
  |go z=>exact⟨z,rfl⟩
  |_=>exact ao h (by decide)
 have rest:(4<=r)->f≠"way" \/ r≠4->∀tl:FS,tl=(oe (sIf (sA (cT (c2 yy av cx)) (rG (cT (c2 (dIn false) ag (cL (oG cR)))) (cT (c2 QC (oa pO bw) (u4 []))))) (oe (Gh (pJ qS 2 bP) (gT (oK (gN 6) (oK (gN 7) qv)) 2))
   (oj (pd nu))) oA)
   (oe (sIf (cT (c2 yy av dc)) (oj (pd iN)) oA)
   (oe (sIf (cT (c2 (dEq false) av dc)) (oj (pd (nY gE (a1 (pJ (oY n) 2 eP))))) oA)
   (oj (pd (nY gz (nY (pJ (oY n) 2 eP) (a1 (pJ (oY n) 2 eP)))))))))->∃d es' a b p q,IL es'/\Ak T A y c c n d/\tl (ρ es1 (.im (.int r)) .un .un .un)=some (.rt d (ρ es' a b p q)):=λh4 hw tl et=>by
  subst et;obtain⟨V,em,v1,v2,rfl⟩:=z8 (y:=y) g;have lit:r<7->∀{tl:FS},(oe (sIf (cT (c2 yy av dc)) (oj (pd iN)) oA) tl:FS) (ρ es1 (.im (.int r)) .un .un .un)=some (.rt (.tup [.str "lit"]) (ρ es1 (.im (.int r)) .un .un .un)):=λh7 {tl}=>oO ((oV (ρ':=ρ es1 (.im (.int r)) .un .un .un) (ph (og (x:=.int r) (y:=.int 7) rfl rfl (by show some (D.bl (decide (r<7)))=_;rw[aT h7])))).trans rfl);have lt:∀k:Int,cT (c2 yy av (cC (.int k))) (ρ es1 (.im (.int r)) .un .un .un)=some (decide (r<k),ρ es1 (.im (.int r)) .un .un .un):=λk=>rfl;by_cases h7:7<=r
  ·have hn0:n≠0:=λe=>by rw[ai e]at r1;omega
   obtain⟨m,em'⟩:=Nat.exists_eq_succ_of_ne_zero hn0;have rcr:∀es0,IL es0->∃d es',IL es'/\Ak T A y c c m d/\pJ (oY n) 2 eP (ρ es0 (.im (.int r)) .un .un .un)=some (d,ρ es' (.im (.int r)) .un .un .un):=λes0 h=>by obtain⟨d,es',h1,h2,h3⟩:=ih m em' es0 h;refine⟨d,es',h1,h2,(rP (i:=2) (ds:=[sp,.str f,.int n]) (ρ1:=ρ es0 (.im (.int r)) .un .un .un) (nZ rfl (nZ rfl (nZ (og (x:=.int dp) (y:=.int 1) rfl rfl ?_) rfl))) rfl h3).trans rfl⟩;show some (D.int (((n+1:Nat):Int) - 1))=_;congr 2;omega
   have n6:=lt 6;rw[aH (by omega)]at n6;have n7:=lt 7;rw[aH (by omega)]at n7;rw[n4 ((oM (ρ':=ρ es1 (.im (.int r)) .un .un .un) (v8 n6)).trans rfl),n4 ((oM n7).trans rfl)];obtain⟨d1,es2,i2,k1,e2⟩:=rcr es1 i1;have q7:cT (c2 (dEq false) av dc) (ρ es1 (.im (.int r)) .un .un .un)=some (decide (r=7),ρ es1 (.im (.int r)) .un .un .un):=ph (og (x:=.int r) (y:=.int 7) rfl rfl (sF false r 7));by_cases h8:r=7
   ·rw[aT h8]at q7;exact⟨_,es2,_,_,_,_,i2,em'▸.no k1,oO ((oV q7).trans (ou (qA (nZ rfl (nZ e2 rfl)) (bE rfl))))⟩
   ·rw[aH h8]at q7;obtain⟨d2,es3,i3,k2,e3⟩:=rcr es2 i2;exact⟨_,es3,_,_,_,_,i3,em'▸.both k1 k2,(n4 ((oM q7).trans rfl)).trans (ou (qA (nZ rfl (nZ e2 (nZ e3 rfl))) (bE rfl)))⟩
  by_cases hb:r<6/\(f="one" \/ f="two" \/ moL T M≠[])
  ·obtain⟨h6,hf⟩:=hb;obtain⟨t,z,v,es',i',tm,e⟩:=EN (A:=A) (y:=y) g cm i1 hf;refine⟨_,es',_,_,_,_,i',.marked v ⟨tm,tm⟩,oO ((oV (ρ':=ρ es1 (.im (.int r)) .un .un .un) ?_).trans ((n4 (Ov (rP (ds:=[sp,.str f]) rfl rfl e) rfl)).trans rfl))⟩;refine(uw (ρ1:=ρ es1 (.im (.int r)) .un .un .un) ((lt 6).trans (by rw[aT h6]))).trans ?_;have e0:cT (c2 (dIn false) ag (cL (oG cR))) (ρ es1 (.im (.int r)) .un .un .un)=some (decide (f="one" \/ f="two"),ρ es1 (.im (.int r)) .un .un .un):=ph (og (x:=.str f) (y:=.lst [.str "one", .str "two"]) rfl rfl (LF cm));by_cases h12:f="one" \/ f="two"
   ·rw[aT h12]at e0;exact v7 e0
   ·rw[aH h12]at e0;have hm:moL T M≠[]:=by
     rcases hf with h|h|h
     ·exact ao (.inl h) h12
     ·exact ao (.inr h) h12
     ·exact h
    refine(rQ e0 (ph (og (x:=dcI (moL T M)) (y:=.dic [] []) (n9 (ds:=[sp]) rfl em) rfl rfl))).trans ?_;obtain⟨q,l,e⟩:=eU hm;rw[e];rfl
  ·refine⟨_,es1,_,_,_,_,i1,.lit,(n4 (ρ':=ρ es1 (.im (.int r)) .un .un .un) ((oM (ρ':=ρ es1 (.im (.int r)) .un .un .un) ?_).trans rfl)).trans (lit (by omega))⟩;by_cases h6:r<6
   ·have hn:¬(f="one" \/ f="two" \/ moL T M≠[]):=λh=>hb ⟨h6,h⟩;have h12:¬(f="one" \/ f="two"):=λh=>hn (h.elim .inl λh=>.inr (.inl h));have hm:moL T M=[]:=gU λh=>hn (.inr (.inr h));refine(uw (ρ1:=ρ es1 (.im (.int r)) .un .un .un) ((lt 6).trans (by rw[aT h6]))).trans ?_;have e0:cT (c2 (dIn false) ag (cL (oG cR))) (ρ es1 (.im (.int r)) .un .un .un)=some (decide (f="one" \/ f="two"),ρ es1 (.im (.int r)) .un .un .un):=ph (og (x:=.str f) (y:=.lst [.str "one", .str "two"]) rfl rfl (LF cm));rw[aH h12]at e0;refine(rQ e0 (ph (og (x:=dcI (moL T M)) (y:=.dic [] []) (n9 (ds:=[sp]) rfl em) rfl rfl))).trans ?_;rw[hm];rfl
   ·have:r=6:=by omega
    subst this;exact v8 rfl
 have cs:r=0\/r=1\/r=2\/r=3\/4<=r:=by omega
 rcases cs with rfl|rfl|rfl|rfl|h4
 ·obtain⟨t,z,es2,i2,tz,_,e2⟩:=trm .un i1;obtain⟨p,w,es3,i3,tw,_,e3⟩:=HC (A:=A) (y:=y) g cm hr i2;exact⟨_,es3,_,_,_,_,i3,.at ⟨tz,tz⟩ ⟨tw,tw⟩,oO ((oV rfl).trans (ou (qA (nZ rfl (nZ e2 (nZ (rP (ds:=[sp,.str f]) rfl rfl e3) rfl))) (bE rfl))))⟩
 ·obtain⟨t,z,es2,i2,tz,_,e2⟩:=trm .un i1;exact⟨_,es2,_,_,_,_,i2,.has ⟨tz,tz⟩,(n4 ((oM rfl).trans rfl)).trans (oO ((oV rfl).trans (ou (qA (nZ rfl (nZ e2 rfl)) (bE rfl)))))⟩
 ·obtain⟨t,z,es2,i2,tz,hz,e2⟩:=trm .un i1;exact⟨_,es2,_,_,_,_,i2,.seen ⟨tz,tz⟩ hz,(n4 ((oM rfl).trans rfl)).trans ((n4 ((oM rfl).trans rfl)).trans (oO ((oV rfl).trans (ou (qA (nZ rfl (nZ e2 rfl)) (bE rfl))))))⟩
 ·let ks:aB:=["room", "plain", "fixed", "box", "lamp", "you", "box", "lamp"];obtain⟨t,z,es2,i2,tz,hz,e2⟩:=trm (.im (.lst (ks.map D.str))) i1;obtain⟨q,es3,i3,q0,q1,e3⟩:=tk (ρ:=ρ es2 (.im (.int 3)) (.im (.lst (ks.map D.str))) .un .un) (j:=2) (e:=cC (.int 8)) (n:=8) (by decide) i2 rfl rfl;obtain⟨k,hk,ek⟩:=Kj (l:=ks) q0 q1;have nk:noT k=true:=bC.mp (show ks.all noT=true by kernel_rfl) k hk;refine⟨_,es3,_,_,_,_,i3,.kind k nk ⟨tz,tz⟩ hz,(n4 ((oM rfl).trans rfl)).trans ((n4 ((oM rfl).trans rfl)).trans ((n4 ((oM rfl).trans rfl)).trans (oO ((oV rfl).trans ((n4 (ρ':=ρ es1 (.im (.int 3)) (.im (.lst (ks.map D.str))) .un .un) rfl).trans (ou (qA (nZ rfl (nZ e2 (nZ (og (x:=.lst (ks.map D.str)) rfl e3 ek) rfl))) (bE rfl)))))))) ⟩
 ·have n0:∀k:Int,k<4->∀{s t:FS},(oe (sIf (cT (c2 (dEq false) av (cC (.int k)))) s oA) t:FS) (ρ es1 (.im (.int r)) .un .un .un)=t (ρ es1 (.im (.int r)) .un .un .un):=λk hk s t=>n4 ((oM (ρ':=ρ es1 (.im (.int r)) .un .un .un) (ph (og (x:=.int r) (y:=.int k) rfl rfl ((sF false r k).trans (by rw[aH (by omega)];rfl))))).trans rfl);rw[n0 0 (by decide),n0 1 (by decide),n0 2 (by decide),n0 3 (by decide)];by_cases hw:f="way" /\ r=4
  ·obtain⟨rfl,rfl⟩:=hw;obtain⟨q,es3,i3,q0,q1,e3⟩:=tk (ρ:=ρ es1 (.im (.int 4)) .un .un .un) (j:=2) (e:=cC (.int 4)) (n:=4) (by decide) i1 rfl rfl;obtain⟨k,_,ek⟩:=Kj (l:=["north", "up", "down", "upp"]) q0 q1;exact⟨_,es3,_,_,_,_,i3,.word k _ (hgo rfl).choose_spec rfl,oO ((oV (ρ':=ρ es1 (.im (.int 4)) .un .un .un) (by kernel_rfl)).trans (ou (qA (nZ rfl (nZ (og (x:=.lst [.str "north", .str "up", .str "down", .str "upp"]) rfl e3 ek) rfl)) (bE rfl))))⟩
  ·have ew:sA (cT (c2 (dEq false) av dS)) (cT (c2 (dEq false) ag gB)) (ρ es1 (.im (.int r)) .un .un .un)=some (false,ρ es1 (.im (.int r)) .un .un .un):=by
    have e4:cT (c2 (dEq false) av dS) (ρ es1 (.im (.int r)) .un .un .un)=some (decide (r=4),ρ es1 (.im (.int r)) .un .un .un):=ph (og (x:=.int r) (y:=.int 4) rfl rfl (sF false r 4));by_cases h:r=4
    ·rw[aT h]at e4;refine(uw e4).trans (ph (og (x:=.str f) (y:=.str "way") rfl rfl ?_));cases cm with
     |go z=>exact ao ⟨rfl,h⟩ hw
     |_=>rfl
    ·rw[aH h]at e4;exact v8 e4
   rw[n4 ((oM ew).trans (show _=some (Out.nx (ρ es1 (.im (.int r)) .un .un .un)) from rfl))];exact rest h4 (gU λh=>hw ⟨gU λq=>h (.inl q),gU λq=>h (.inr q)⟩) _ rfl
theorem HE(g:Good T M dk)(cm:Cm (nmK T Kd.pl) c f)(hr:∃r,(y,r)∈A/\r∈T.map Th.n):∀{n:Nat},n<=3->∀{es:List L4.D},IL es->∃d es',IL es'/\Ak T A y c c n d/\oY (n+1) es [pS T M dk y,.str f,.int ((n+1:Nat):Int)]=some (d,es')
 |0,h,es,hi=>HD g cm hr h (λm e=>by cases e) hi
 |n+1,h,es,hi=>HD g cm hr h (λm e es' h'=>by cases e;exact HE g cm hr (by omega) h') hi
end
def Pq(n:Nat)(d:L4.D):Prop:=∃x,toD d=some x/\dpt x<=n
theorem Kk{n:Nat}:∀{ds:List L4.D},(∀d∈ds,Pq n d)->∃l,yz ds=some l/\qo l<=n
 |[],_=>⟨[],by unfold yz;rfl,by rw[qo];omega⟩
 |d::ds,h=>by
  obtain⟨x,e1,e2⟩:=h d ba;obtain⟨l,e3,e4⟩:=Kk λd' hd=>h d' (bh _ hd);refine⟨x::l,?_,?_⟩
  ·unfold yz;rw[e1];simp only[e3]
  ·rw[qo];omega
theorem FU{n:Nat}(h:∀d∈ds,Pq n d):Pq (n+1) (.tup ds):=by obtain⟨l,e1,e2⟩:=Kk h;exact⟨.tup l,by unfold toD;rw[e1],by rw[dpt];omega⟩
theorem pT{n:Nat}(x:Str):Pq n (.str x):=⟨.str x,by unfold toD;rfl,by unfold dpt;omega⟩
theorem Jk{n:Nat}(x:Int):Pq n (.int x):=⟨.int x,by unfold toD;rfl,by unfold dpt;omega⟩
theorem BV{n:Nat}(h:Pq n (.tup ds))(hn:n<=20):dEq neg (.tup ds) (.tup ds)=some (.bl !neg):=by
 obtain⟨x,e1,e2⟩:=h;unfold dEq;rw[show BG neg (.tup ds) (.tup ds)=none from rfl];simp only;unfold Cq;rw[e1];have hl:D7 x x=true:=by
  unfold toD at e1;split at e1
  ·cases e1;rfl
  ·cases e1
 simp only[hl,Gc,aT (bL e2 hn)];cases neg<;>rfl
section
variable{A:List (Str×Str)}{V:List (Str×Int)}{S:List (Ky×L4.D)}{y r:Str}{T:List Th}{M:List Mk}{dk:aB}{mo c c' d:L4.D}{n:Nat}{t z:Str}
theorem pl2(ha:Pq n a)(hb:Pq n b):Pq (n+1) (.tup [a,b]):=FU λd hd=>by
 rcases aM.mp hd with rfl|h
 ·exact ha
 ·rw[aO.mp h];exact hb
theorem pl3(ha:Pq n a)(hb:Pq n b)(he:Pq n e):Pq (n+1) (.tup [a,b,e]):=FU λd hd=>by
 rcases aM.mp hd with rfl|h
 ·exact ha
 ·rcases aM.mp h with rfl|h
  ·exact hb
  ·rw[aO.mp h];exact he
theorem XC(h:Ak T A y c c' n d):Pq (n+1) d:=by
 induction h with
 |«at» _ _=>exact pl3 (pT _) (pT _) (pT _)
 |has _=>exact pl2 (pT _) (pT _)
 |seen _ _=>exact pl2 (pT _) (pT _)
 |kind _ _ _ _=>exact pl3 (pT _) (pT _) (pT _)
 |word _ _ _ _=>exact pl2 (pT _) (pT _)
 |marked v _=>exact pl3 (pT _) (pT _) (Jk v)
 |lit=>exact FU λd hd=>by rw[aO.mp hd];exact pT _
 |no _ ih=>exact pl2 (pT _) ih
 |both _ _ ih ih'=>exact pl3 (pT _) ih ih'
theorem XD(h:Ak T A y c c' n d):∃ds,d=.tup ds:=by cases h<;>exact⟨_,rfl⟩
theorem sk{c:FT}{f t:FS}{ρ:aZ}(h:c ρ=some (false,ρ)):oe (sIf c f oA) t ρ=t ρ:=n4 ((oM h).trans rfl)
theorem VU(h:e ρ=some (.bl b,ρ1)):BF e ρ=some (.bl !b,ρ1):=by unfold BF;rw[h]
theorem VW(h:e ρ=some (.bl b,ρ1))(h':e' ρ1=some (.bl b',ρ1)):p8 e e' ρ=some (.bl (b&&b'),ρ1):=by
 cases b with
 |true=>exact(pA h).trans h'
 |false=>exact tT h
structure Tst(n:Nat)(T:List Th)(M:List Mk)(dk:aB)(y:Str)(mo:L4.D)(S:List (Ky×L4.D))(c d:L4.D)(k:Nat)(ns:aB)(ds:List L4.D):Prop where
 m:ql (n+1) [d]=some (.obj k ns ds)
 o:qQ (n+1) [d]=some (.obj k ns ds)
 t:∃ht,oU n k=some ht/\ht [.obj k ns ds]=some d
 nn:ns.contains "holds" = false/\ns.contains "told" = false
 h:∃hh b,pj n k=some hh/\hh [.obj k ns ds,wO T M dk y mo,sD S,c]=some (.bl b)
 s:tS [.obj k ns ds,.obj k ns ds]=some (.bl true)
theorem DG{k:Nat}(m:ql (n+1) [d]=some (.obj k ns ds))(o:qQ (n+1) [d]=some (.obj k ns ds))(t1:oU n k=some ht)(t2:ht [.obj k ns ds]=some d)(h1:pj n k=some hh)(h2:hh [.obj k ns ds,wO T M dk y mo,sD S,c]=some (.bl b))(nn:ns.contains "holds" = false/\ns.contains "told" = false)(s:tS [.obj k ns ds,.obj k ns ds]=some (.bl true)):∃k ns ds,Tst n T M dk y mo S c d k ns ds:=
 ⟨k,ns,ds,m,o,⟨ht,t1,t2⟩,nn,⟨hh,b,h1,h2⟩,s⟩
theorem XE(s:Sit T A V S y r)(ak:Ak T A y c c n d):∃k ns ds,Tst n T M dk y mo S c d k ns ds:=by
 let W:=wO T M dk y mo
 induction ak with
 |@«at» n t p z w tz tw=>
  have hm:∀{ab:L4.D} {b:Bool},rN [sD S,.str z]=some ab->p8 (c2 uY aP aY) (c2 (dEq false) aP (oa p6 ky)) [.im (.obj 3 ["term", "place"] [.str t,.str p]),.im W,.im (sD S),.im c,.im (.str z),.im ab]=some (.bl b,[.im (.obj 3 ["term", "place"] [.str t,.str p]),.im W,.im (sD S),.im c,.im (.str z),.im ab])->wH [.obj 3 ["term", "place"] [.str t,.str p],W,sD S,c]=some (.bl b):=λ{ab b} h1 h2=>by refine ox (ρ:=[.im (.obj 3 ["term", "place"] [.str t,.str p]),.im W,.im (sD S),.im c,.im (.str z),.im ab]) rfl ?_;unfold zd;exact(n4 ((oH (n9 (ds:=[W,sD S,c,.str t]) rfl (sR s.a s.o tz.1))).trans rfl)).trans ((n4 (ρ':=[.im (.obj 3 ["term", "place"] [.str t,.str p]),.im W,.im (sD S),.im c,.im (.str z),.im ab]) ((oH (n9 (ds:=[sD S,.str z]) rfl h1)).trans rfl)).trans (ou h2))
  by_cases hz:z∈A.map aC
  ·obtain⟨q,hq,rfl⟩:=aF.mp hz;exact DG (k:=3) (ns:=["term", "place"]) (ds:=[.str t,.str p]) (hh:=wH) (b:=decide (q.2=w)) (by kernel_rfl) (by kernel_rfl) (by cases n<;>rfl) (by kernel_rfl) (by cases n<;>rfl) (hm (yx s.a s.o (x:=q.1) (z:=q.2) hq) ((pA rfl).trans (og (x:=.str q.2) (y:=.str w) rfl (n9 (ds:=[W,sD S,c,.str p]) rfl (sR s.a s.o tw.1)) (uc false _ _)))) (by decide) (by kernel_rfl)
  ·exact DG (k:=3) (ns:=["term", "place"]) (ds:=[.str t,.str p]) (hh:=wH) (b:=false) (by kernel_rfl) (by kernel_rfl) (by cases n<;>rfl) (by kernel_rfl) (by cases n<;>rfl) (hm (BU s.o hz) (tT rfl)) (by decide) (by kernel_rfl)
 |@has n t z tz=>exact DG (k:=4) (ns:=["term"]) (ds:=[.str t]) (hh:=Bp) (b:=decide (y∈lf s.a z)) (by kernel_rfl) (by kernel_rfl) (by cases n<;>rfl) (by kernel_rfl) (by cases n<;>rfl) (ox (ρ:=[.im (.obj 4 ["term"] [.str t]),.im W,.im (sD S),.im c]) rfl (ou (n9 (ds:=[W,sD S,.str z]) (nZ rfl (nZ rfl (nZ (n9 (ds:=[W,sD S,c,.str t]) rfl (sR s.a s.o tz.1)) rfl))) (ox (ρ:=[.im W,.im (sD S),.im (.str z)]) rfl (ou (og (x:=.str y) rfl (pD (n9 (ds:=[W,sD S,.str z]) rfl (FN s.a s.o W (VS s.a z) (Xz s.a z)))) (uD false y _))))))) (by decide) (by kernel_rfl)
 |@seen n t z tz hz=>obtain⟨u,hu,rfl⟩:=aF.mp hz;exact DG (k:=5) (ns:=["term"]) (ds:=[.str t]) (hh:=zT) (b:=u.k.pl&&Oq dk s u.n) (by kernel_rfl) (by kernel_rfl) (by cases n<;>rfl) (by kernel_rfl) (by cases n<;>rfl) (ox (ρ:=[.im (.obj 5 ["term"] [.str t]),.im W,.im (sD S),.im c]) rfl (ou (n9 (ds:=[W,sD S,.str u.n]) (nZ rfl (nZ rfl (nZ (n9 (ds:=[W,sD S,c,.str t]) rfl (sR s.a s.o tz.1)) rfl))) (Os s hu)))) (by decide) (by kernel_rfl)
 |@kind n t z k hk tz hz=>obtain⟨u,hu,rfl⟩:=aF.mp hz;refine DG (k:=7) (ns:=["term", "kind"]) (ds:=[.str t,.str k]) (hh:=zU) (b:=decide (u.k.s=k)) (by kernel_rfl) (by kernel_rfl) (by cases n<;>rfl) (by kernel_rfl) (by cases n<;>rfl) (ox (ρ:=[.im (.obj 7 ["term", "kind"] [.str t,.str k]),.im W,.im (sD S),.im c,.im (thD u)]) rfl ?_) (by decide) (by kernel_rfl);unfold wI;exact(n4 (ρ':=[.im (.obj 7 ["term", "kind"] [.str t,.str k]),.im W,.im (sD S),.im c,.im (thD u)]) ((oH (o8 (m:="thing_of") (ns:=wNs) (xs:=wDs T M dk y mo) (ys:=[.str u.n]) rfl rfl rfl (nZ (n9 (ds:=[W,sD S,c,.str t]) rfl (sR s.a s.o tz.1)) rfl) (yf s.nd hu))).trans rfl)).trans (ou ((pA rfl).trans (og (x:=.str u.k.s) (y:=.str k) rfl rfl (uc false _ _))))
 |@word n x z h h'=>subst h;exact DG (k:=8) (ns:=["word"]) (ds:=[.str x]) (hh:=zW) (b:=decide (z=x)) (by kernel_rfl) (by kernel_rfl) (by cases n<;>rfl) (by kernel_rfl) (by cases n<;>rfl) (ox (ρ:=[.im (.obj 8 ["word"] [.str x]),.im W,.im (sD S),.im (.tup [.str "go", .str z,.non])]) rfl (ou ((pA (n9 (ds:=[W,.tup [.str "go", .str z,.non]]) rfl (by kernel_rfl))).trans (og (x:=.str z) (y:=.str x) rfl rfl (uc false z x))))) (by decide) (by kernel_rfl)
 |@marked n t z v tz=>
  let o:L4.D:=.obj 6 ["term", "value"] [.str t,.int v];have hm:∀{ab:L4.D} {b:Bool},se [sD S,.str z]=some ab->p8 (c2 uY av aY) (c2 (dEq false) av (c1 (oN yq "value") aa)) [.im o,.im W,.im (sD S),.im c,.im ab]=some (.bl b,[.im o,.im W,.im (sD S),.im c,.im ab])->sJ [o,W,sD S,c]=some (.bl b):=λ{ab b} h1 h2=>by refine ox (ρ:=[.im o,.im W,.im (sD S),.im c,.im ab]) rfl ?_;unfold uQ;exact(n4 (ρ':=[.im o,.im W,.im (sD S),.im c,.im ab]) ((oH (n9 (ds:=[sD S,.str z]) (nZ rfl (nZ (n9 (ds:=[W,sD S,c,.str t]) rfl (sR s.a s.o tz.1)) rfl)) h1)).trans rfl)).trans (ou h2)
  by_cases hz:z∈V.map aC
  ·obtain⟨q,hq,rfl⟩:=aF.mp hz;exact DG (k:=6) (ns:=["term", "value"]) (ds:=[.str t,.int v]) (hh:=sJ) (b:=decide (q.2=v)) (by kernel_rfl) (by kernel_rfl) (by cases n<;>rfl) (by kernel_rfl) (by cases n<;>rfl) (hm (FQ s.nv s.o (x:=q.1) (z:=q.2) hq) ((pA rfl).trans (og (x:=.int q.2) (y:=.int v) rfl rfl (sF false _ _)))) (by decide) (by kernel_rfl)
  ·have h0:se [sD S,.str z]=some .non:=by
    refine ox (ρ:=[.im (sD S),.im (.str z)]) rfl (ou (n9 (ds:=[sD S,.tup [.str "mark", .str z]]) rfl ?_));rcases z9 S ("mark", z)with ⟨d,h1,h2⟩|⟨h1,h2⟩
    ·obtain⟨z',rfl,h3⟩:=s.o.mo z d h1;exact ao (aF.mpr ⟨_,h3,rfl⟩) hz
    ·exact h2
   exact DG (k:=6) (ns:=["term", "value"]) (ds:=[.str t,.int v]) (hh:=sJ) (b:=false) (by kernel_rfl) (by kernel_rfl) (by cases n<;>rfl) (by kernel_rfl) (by cases n<;>rfl) (hm h0 (tT rfl)) (by decide) (by kernel_rfl)
 |@lit n=>exact DG (k:=15) (ns:=[]) (ds:=[]) (hh:=Br) (b:=QZ dk s) (by kernel_rfl) (by kernel_rfl) (by cases n<;>rfl) (by kernel_rfl) (by cases n<;>rfl) (ox (ρ:=[.im (.obj 15 [] []),.im W,.im (sD S),.im c]) rfl (ou (n9 (ds:=[W,sD S]) rfl (Oo s)))) (by decide) (by kernel_rfl)
 |@no n a _ ih=>
  obtain⟨k,ns,ds,i⟩:=ih;obtain⟨ht,t1,t2⟩:=i.t;obtain⟨hh,b,h1,h2⟩:=i.h;refine DG (k:=9) (ns:=["inner"]) (ds:=[.obj k ns ds]) (b:=!b) ?_ ?_ rfl (ox (ρ:=[.im (.obj 9 ["inner"] [.obj k ns ds])]) rfl (ou (qA (nZ rfl (nZ (o8 (xs:=ds) (ys:=[]) rfl t1 i.nn.2 rfl t2) rfl)) (bE rfl)))) rfl (ox (ρ:=[.im (.obj 9 ["inner"] [.obj k ns ds]),.im W,.im (sD S),.im c]) rfl (ou (VU (o8 (xs:=ds) (ys:=[W,sD S,c]) rfl h1 i.nn.1 rfl h2)))) (by decide) (by kernel_rfl)
  ·refine ox (ρ:=[.im (.tup [.str "not", a]),.im (.str "not")]) rfl ?_;unfold rE;refine(n4 rfl).trans ?_
   iterate 6 refine(sk rfl).trans ?_
   exact oO ((oV rfl).trans (ou (zA (ds:=[.obj k ns ds]) (nZ (n9 (ds:=[a]) rfl i.m) rfl) rfl)))
  ·refine ox (ρ:=[.im (.tup [.str "not", a]),.im (.str "not")]) rfl ?_;unfold tE;exact(n4 rfl).trans (oO ((oV rfl).trans (ou (zA (ds:=[.obj k ns ds]) (nZ (n9 (ds:=[a]) rfl i.o) rfl) rfl))))
 |@both n a b _ _ ih ih'=>
  obtain⟨k,ns,ds,i⟩:=ih;obtain⟨ht,t1,t2⟩:=i.t;obtain⟨hh,b1,h1,h2⟩:=i.h;obtain⟨k',ns',ds',j⟩:=ih';obtain⟨ht',u1,u2⟩:=j.t;obtain⟨hh',b2,g1,g2⟩:=j.h;refine DG (k:=10) (ns:=["one", "other"]) (ds:=[.obj k ns ds,.obj k' ns' ds']) (b:=b1&&b2) ?_ ?_ rfl (ox (ρ:=[.im (.obj 10 ["one", "other"] [.obj k ns ds,.obj k' ns' ds'])]) rfl (ou (qA (nZ rfl (nZ (o8 (xs:=ds) (ys:=[]) rfl t1 i.nn.2 rfl t2) (nZ (o8 (xs:=ds') (ys:=[]) rfl u1 j.nn.2 rfl u2) rfl))) (bE rfl)))) rfl (ox (ρ:=[.im (.obj 10 ["one", "other"] [.obj k ns ds,.obj k' ns' ds']),.im W,.im (sD S),.im c]) rfl (ou (VW (o8 (xs:=ds) (ys:=[W,sD S,c]) rfl h1 i.nn.1 rfl h2) (o8 (xs:=ds') (ys:=[W,sD S,c]) rfl g1 j.nn.1 rfl g2)))) (by decide) (by kernel_rfl)
  ·refine ox (ρ:=[.im (.tup [.str "both", a,b]),.im (.str "both")]) rfl ?_;unfold rE;refine(n4 rfl).trans ?_
   iterate 7 refine(sk rfl).trans ?_
   exact oO ((oV rfl).trans (ou (zA (ds:=[.obj k ns ds,.obj k' ns' ds']) (nZ (n9 (ds:=[a]) rfl i.m) (nZ (n9 (ds:=[b]) rfl j.m) rfl)) rfl)))
  ·refine ox (ρ:=[.im (.tup [.str "both", a,b]),.im (.str "both")]) rfl ?_;unfold tE;exact(n4 rfl).trans ((sk rfl).trans (oO ((oV rfl).trans (ou (zA (ds:=[.obj k ns ds,.obj k' ns' ds']) (nZ (n9 (ds:=[a]) rfl i.o) (nZ (n9 (ds:=[b]) rfl j.o) rfl)) rfl)))))
end
def kD(k:Ky):L4.D:=.tup [.str k.1,.str k.2]
def upS(k:Ky)(v:L4.D)(S:List (Ky×L4.D)):List (Ky×L4.D):=S.map λq=>if q.1=k then (k,v)else q
theorem Kl(S:List (Ky×L4.D))(hl:S.length<=900)(k:Ky)(v:L4.D):vd [sD S,kD k,v]=some (sD (upS k v S)):=by
 let ρ:aZ:=[.im (sD S),.im (kD k),.im v];refine ox (ρ:=ρ) rfl (ou ?_);have c:=xl (k:=1) (cap:=[1,2]) (g:=gN 0) (fe:=cIf (cT (c2 (dEq false) (c2 dIx aa aU) ag)) (pd ja) aa) (s:=iT aa) (ρ:=ρ) (ρ1:=ρ) prD (λq=>prD (if q.1=k then (k,v)else q)) S rfl (by omega) λq _=>by
  let ρ2:aZ:=[.im (prD q),.im (kD k),.im v];have et:cT (c2 (dEq false) (c2 dIx aa aU) ag) ρ2=some (decide (q.1=k),ρ2):=ph (og (x:=kD q.1) (y:=kD k) (og (x:=prD q) (y:=.int 0) rfl rfl rfl) rfl (Ka _ _ _ _));refine⟨ρ2,ρ2,rfl,?_,rfl⟩;unfold cIf;rw[et];by_cases h:q.1=k
  ·rw[aT h,ai h];rfl
  ·rw[aH h,aj h];rfl
 have e:AO (cL (oT 1 [1,2] (iT aa) (gN 0) pM (cIf (cT (c2 (dEq false) (c2 dIx aa aU) ag)) (pd ja) aa))) ρ=some (sD (upS k v S),ρ):=by unfold AO;rw[pD c];unfold upS;rw[sD,aV];rfl
 exact e
section
variable{A:List (Str×Str)}{V:List (Str×Int)}{S:List (Ky×L4.D)}{y:Str}{T:List Th}{M:List Mk}{dk:aB}{mo:L4.D}
theorem Km(nd:(nmK T Kd.mk++M.map Mk.n).Nodup)(h:(x,m)∈moL T M):qf [wM T M dk y,.str x]=some (.int m):=by refine ox (ρ:=[.im (wM T M dk y),.im (.str x)]) rfl (ou (og (x:=dcI (moL T M)) (y:=.str x) rfl rfl ?_));show some ((sU _ _ (kS x)).getD .non)=_;rw[Oh (by rw[FM];exact nd) h];rfl
theorem Ow{g:FE}(h:c ρ=some (true,ρ1)):cIf c f g ρ=f ρ1:=by unfold cIf;rw[h]
theorem HF{g:FE}(h:c ρ=some (false,ρ1)):cIf c f g ρ=g ρ1:=by unfold cIf;rw[h]
theorem Q7{V:List (Str×Int)}(h:x∉V.map aC):sU (V.map λq=>kS q.1) (V.map λq=>D.int q.2) (kS x)=none:=by refine Eo λz=>h ?_;obtain⟨q,hq,e⟩:=aF.mp z;exact aF.mpr ⟨q,hq,N0 e⟩
theorem Q8(h:x∉nmK T Kd.mk++M.map Mk.n):qf [wM T M dk y,.str x]=some .non:=by refine ox (ρ:=[.im (wM T M dk y),.im (.str x)]) rfl (ou (og (x:=dcI (moL T M)) (y:=.str x) rfl rfl ?_));show some ((sU _ _ (kS x)).getD .non)=_;rw[Q7 (by rw[FM];exact h)];rfl
theorem Ox(h:x∉nmK T Kd.mk++M.map Mk.n):rO [wM T M dk y,.str x]=some (.lst []):=by let ρ:aZ:=[.im (wM T M dk y),.im (.str x)];refine ox (ρ:=ρ) rfl (ou ?_);have t:cT (c2 wj (o6 qP "most_of" aa gH) aY) ρ=some (true,ρ):=ph (og (o8 (xs:=wDs T M dk y (dcI (moL T M))) (ys:=[.str x]) (hh:=qf) rfl rfl rfl rfl (Q8 h)) rfl rfl);exact(Ow t).trans rfl
theorem Jl(nd:(nmK T Kd.mk++M.map Mk.n).Nodup)(h:(x,m)∈moL T M):rO [wM T M dk y,.str x]=some (.lst [kD ("mark", x)]):=by let ρ:aZ:=[.im (wM T M dk y),.im (.str x)];refine ox (ρ:=ρ) rfl (ou ?_);have t:cT (c2 wj (o6 qP "most_of" aa gH) aY) ρ=some (false,ρ):=ph (og (o8 (xs:=wDs T M dk y (dcI (moL T M))) (ys:=[.str x]) (hh:=qf) rfl rfl rfl rfl (Km nd h)) rfl rfl);exact(HF t).trans rfl
theorem Q9(v:Int)(h:x∉nmK T Kd.mk++M.map Mk.n):tu [wM T M dk y,.str x,.int v]=some (.bl false):=by let ρ:aZ:=[.im (wM T M dk y),.im (.str x),.im (.int v)];refine ox (ρ:=ρ) rfl (ou ?_);have t:c2 (dEq true) (oa rO gR) (cL (oG oq)) ρ=some (.bl false,ρ):=og (n9 rfl (Ox h)) rfl rfl;exact tT t
theorem Oy(nd:(nmK T Kd.mk++M.map Mk.n).Nodup)(v:Int)(h:(x,m)∈moL T M):tu [wM T M dk y,.str x,.int v]=some (.bl (decide (v<=m))):=by let ρ:aZ:=[.im (wM T M dk y),.im (.str x),.im (.int v)];refine ox (ρ:=ρ) rfl (ou ?_);have t:c2 (dEq true) (oa rO gR) (cL (oG oq)) ρ=some (.bl true,ρ):=og (n9 rfl (Jl nd h)) rfl rfl;exact(pA t).trans (og rfl (o8 (xs:=wDs T M dk y (dcI (moL T M))) (ys:=[.str x]) (hh:=qf) rfl rfl rfl rfl (Km nd h)) rfl)
def putD(t:L4.D)(v:Int):L4.D:=.obj 12 ["term", "value"] [t,.int v]
theorem Kn{t:L4.D}{v:Int}(hm:p6 [wM T M dk y,sD S,c,t]=some (.str x))(hs:tu [wM T M dk y,.str x,.int v]=some (.bl false)):tD [putD t v,wM T M dk y,sD S,c]=some .non:=by let ρ:aZ:=[.im (putD t v),.im (wM T M dk y),.im (sD S),.im c,.im (.str x)];refine ox (ρ:=ρ) rfl ?_;unfold wK;refine(n4 (ρ':=ρ) ((oH (n9 (ds:=[wM T M dk y,sD S,c,t]) rfl hm)).trans rfl)).trans ?_;exact oO ((oV (ρ':=ρ) (sC (ph (n9 (ds:=[wM T M dk y,.str x,.int v]) rfl hs)))).trans rfl)
theorem Oz{t:L4.D}{v:Int}(hl:S.length<=900)(hm:p6 [wM T M dk y,sD S,c,t]=some (.str x))(hs:tu [wM T M dk y,.str x,.int v]=some (.bl true)):tD [putD t v,wM T M dk y,sD S,c]=some (sD (upS ("mark", x) (.int v) S)):=by let ρ:aZ:=[.im (putD t v),.im (wM T M dk y),.im (sD S),.im c,.im (.str x)];refine ox (ρ:=ρ) rfl ?_;unfold wK;refine(n4 (ρ':=ρ) ((oH (n9 (ds:=[wM T M dk y,sD S,c,t]) rfl hm)).trans rfl)).trans ?_;refine(n4 (ρ':=ρ) ((oM (ρ':=ρ) (sC (ph (n9 (ds:=[wM T M dk y,.str x,.int v]) rfl hs)))).trans rfl)).trans ?_;exact ou (n9 (ds:=[sD S,kD ("mark", x),.int v]) rfl (Kl S hl ("mark", x) (.int v)))
theorem LG(nd:(T.map Th.n).Nodup){t:Th}(ht:t∈T)(hk:t.k≠.room):wG [wO T M dk y mo,.str t.n]=some (.lst [kD ("at", t.n)]):=by let W:=wO T M dk y mo;let ρ:aZ:=[.im W,.im (.str t.n),.im (thD t)];refine ox (ρ:=ρ) rfl ?_;unfold zc;refine(n4 (ρ':=ρ) ((oH (o8 (xs:=wDs T M dk y mo) (ys:=[.str t.n]) (hh:=rM) rfl rfl rfl rfl (yf nd ht))).trans rfl)).trans (ou ?_);have e:cT (c2 (dEq false) (c1 (oN pB "kind") ar) eL) ρ=some (false,ρ):=ph (og (x:=.str t.k.s) (y:=.str "room") (pC rfl (yb t)) rfl ((BA t.k .room).trans (by rw[aH hk])));exact(HF (rQ (ρ1:=ρ) rfl e)).trans rfl
theorem XF(nd:(T.map Th.n).Nodup){t:Th}(ht:t∈T)(hk:t.k≠.room)(hu:u∈T):xS [wO T M dk y mo,.str t.n,.str u.n]=some (.bl (u.k.hd&&!decide (u.n=t.n))):=by
 let W:=wO T M dk y mo;let ρ:aZ:=[.im W,.im (.str t.n),.im (.str u.n),.im (thD u)];refine ox (ρ:=ρ) rfl ?_;unfold Dl;refine(n4 (ρ':=ρ) ((oH (o8 (xs:=wDs T M dk y mo) (ys:=[.str u.n]) (hh:=rM) rfl rfl rfl rfl (yf nd hu))).trans rfl)).trans (ou ?_);have e1:c2 (dEq true) (oa wG gR) (cL (oG oq)) ρ=some (.bl true,ρ):=og (n9 (ds:=[W,.str t.n]) rfl (LG nd ht hk)) rfl rfl;have e3:o6 pR "can_hold" aq oq ρ=some (.bl u.k.hd,ρ):=o8 (xs:=[.str u.n,.tup (u.w.map D.str),.str u.k.s,oS u.s]) (ys:=[]) rfl rfl rfl rfl (J1 u);refine(pA e1).trans ((pA (ρ1:=ρ) rfl).trans ?_);cases h:u.k.hd with
 |true=>rw[h]at e3;exact(pA e3).trans ((og (x:=.str u.n) (y:=.str t.n) rfl rfl (uc true u.n t.n)).trans (by rw[ai rfl,mT]))
 |false=>rw[h]at e3;exact(tT e3).trans (by rw[mL])
def bad(T:List Th)(l:aB)(z w:Str):Bool:=!decide (w∈nmK T Kd.hd)||decide (z∈w::l)
def mvD(t p:Str):L4.D:=.obj 11 ["term", "place"] [.str t,.str p]
abbrev nr:=(nY aP oq)
abbrev nM:=(nY ag (nY av nr))
abbrev nN:=(nY ag (nY ar nr))
theorem Rb(g:Good T M dk)(a:ye A y){S:List (Ky×L4.D)}(lS:S.length<=900)(o:zf A V S){t:Str}(tz:Tm A y c t z)(tw:Tm A y c p w)(ch:Ch A w l)(hl:l.length<=40){v:Th}(hu:u∈T)(uz:u.n=z)(uk:u.k≠.room)(hv:v∈T)(vw:v.n=w):
  xT [mvD t p,wO T M dk y mo,sD S,c]=some (if bad T l z w then .non else sD (upS ("at", z) (.str w) S)):=by
 let W:=wO T M dk y mo;let ρ:aZ:=[.im (mvD t p),.im W,.im (sD S),.im c,.im (.str z),.im (.str w)];have e1:(oP 4 (oa p6 (nY ag (nY ar (nY aq (nY (c1 (oN vR "term") aa) oq))))):FS) [.im (mvD t p),.im W,.im (sD S),.im c,.un,.un]=some (.nx [.im (mvD t p),.im W,.im (sD S),.im c,.im (.str z),.un]):=(oH (n9 (ds:=[W,sD S,c,.str t]) rfl (sR a o tz))).trans rfl;have e2:(oP 5 (oa p6 (nY ag (nY ar (nY aq (nY (c1 (oN Ax "place") aa) oq))))):FS) [.im (mvD t p),.im W,.im (sD S),.im c,.im (.str z),.un]=some (.nx ρ):=(oH (n9 (ds:=[W,sD S,c,.str p]) rfl (sR a o tw))).trans rfl;have hw:w∈nmK T Kd.hd ↔ v.k.hd=true:=by
  constructor
  ·intro h;obtain⟨x,h1,h2,h3⟩:=sQ h;have:=Jd g.ndT h1 hv (h2.trans vw.symm);subst this;exact h3
  ·intro h;exact aF.mpr ⟨v,bS.mpr ⟨hv,h⟩,vw⟩
 have eg:=XF (M:=M) (dk:=dk) (y:=y) (mo:=mo) g.ndT hu uk hv;rw[uz,vw]at eg;have et:rG (qu (cT (oa xS nM))) (cT (c2 (dIn false) av (cL (pe qI nN)))) ρ=some (bad T l z w,ρ):=by
  have ec:qu (cT (oa xS nM)) ρ=some (!(v.k.hd&&!decide (w=z)),ρ):=sC (ph (n9 (ds:=[W,.str z,.str w]) rfl eg));have eh:cT (c2 (dIn false) av (cL (pe qI nN))) ρ=some (decide (z∈l),ρ):=ph (og rfl (pD (n9 (ds:=[W,sD S,.str w]) rfl (FN a o W ch hl))) (uD false z l));unfold bad;by_cases h1:v.k.hd=true
  ·by_cases h2:w=z
   ·rw[h1,aT h2]at ec;rw[aT (aM.mpr (.inl h2.symm)),mW];exact v7 ec
   ·rw[h1,aH h2]at ec;refine(rQ ec eh).trans ?_;rw[aT (hw.mpr h1)];have:decide (z∈w::l)=decide (z∈l):=by simp;exact λe=>ao e.symm h2
    rw[this];rfl
  ·rw[Bool.not_eq_true]at h1;rw[h1]at ec;rw[aH λh=>by rw[hw,h1]at h;cases h];exact v7 ec
 cases hb:bad T l z w with
 |true=>rw[hb]at et;refine ox (ρ:=ρ) rfl ?_;unfold vg;exact(n4 e1).trans ((n4 e2).trans (oO ((oV et).trans rfl)))
 |false=>rw[hb]at et;refine ox (ρ:=ρ) rfl ?_;unfold vg;exact(n4 e1).trans ((n4 e2).trans ((n4 ((oM et).trans rfl)).trans (ou (n9 (ds:=[sD S,kD ("at", z),.str w]) rfl (Kl S lS ("at", z) (.str w))))))
end
section
variable{A:List (Str×Str)}{V:List (Str×Int)}{S:List (Ky×L4.D)}{y:Str}{T:List Th}{M:List Mk}{dk:aB}{mo:L4.D}
theorem VX(k:Kd):dIn false (.str k.s) (.lst [.str "plain", .str "fixed", .str "box", .str "lamp", .str "box"])=some (.bl k.pl):=by cases k<;>kernel_rfl
structure Mv(T:List Th)(A:List (Str×Str))(y:Str)(c:L4.D)(t p z w:Str):Prop where
 t:Tm A y c t z
 p:Tm A y c p w
 z:z∈nmK T Kd.pl\/z=y
 w:w∈T.map Th.n
theorem HG(g:Good T M dk)(hy:(T.filter λt=>decide (t.k=.you)).map Th.n=[y])(cm:Cm (nmK T Kd.pl) c f)(hr:∃r,(y,r)∈A/\r∈T.map Th.n)(hi:IL es):∃t p z w es',IL es'/\Mv T A y c t p z w/\sO es [pS T M dk y,.str f]=some (.tup [.str "move", .str t,.str p],es'):=by
 let sp:=pS T M dk y;let sm:=nmK T Kd.pl;have hl:=g.len;have lsm:sm.length<=200:=by have:=(pX T Kd.pl).length_le;rw[ah]at this;show (nmK T Kd.pl).length<=200;omega
 let ρ:List L4.D->L4.D->Sl->aZ:=λes l s=>[.im sp,.im (.str f),.pm es,.im l,s];let P1:aB:=sm++itL 3 f;let P2:aB:=P1++otL f;have li:(itL 3 f).length<=3:=by unfold itL;split<;>simp
 have s1:(sIf (cT (c2 (dIn false) ag (cL (oG fE)))) (oP 3 (cL (qz aq (cL (oG (nY fH (nY fH (a1 bN)))))))) oA:FS) (ρ es (.lst (sm.map D.str)) .un)=some (.nx (ρ es (.lst (P1.map D.str)) .un)):=by
  have et:cT (c2 (dIn false) ag (cL (oG fE))) (ρ es (.lst (sm.map D.str)) .un)=some (decide (f="one" \/ f="two"),ρ es (.lst (sm.map D.str)) .un):=ph (og (x:=.str f) (y:=.lst [.str "one", .str "two"]) rfl rfl (LF cm));by_cases h:f="one" \/ f="two"
  ·rw[aT h]at et;have e:P1=sm++(["it", "it", "it"]:aB):=by show sm++itL 3 f=_;unfold itL;rw[ai h];rfl
   rw[e,aW];exact(oV et).trans ((oH (pD (rX (xs:=sm.map D.str) (ys:=[.str "it", .str "it", .str "it"]) (ρ1:=ρ es (.lst (sm.map D.str)) .un) rfl rfl (by rw[ah];simp;omega)))).trans rfl)
  ·rw[aH h]at et;have e:P1=sm:=by show sm++itL 3 f=_;unfold itL;rw[aj h,bt]
   rw[e];exact(oM et).trans rfl
 have s2:(sIf (cT (c2 (dEq false) ag fF)) (oP 3 (cL (qz aq (cL (oG (nY kK iI)))))) oA:FS) (ρ es (.lst (P1.map D.str)) .un)=some (.nx (ρ es (.lst (P2.map D.str)) .un)):=by
  have et:cT (c2 (dEq false) ag fF) (ρ es (.lst (P1.map D.str)) .un)=some (decide (f="two"),ρ es (.lst (P1.map D.str)) .un):=ph (og (x:=.str f) (y:=.str "two") rfl rfl (is2 cm));by_cases h:f="two"
  ·rw[aT h]at et;have e:P2=P1++(["other", "other"]:aB):=by show P1++otL f=_;unfold otL;rw[ai h]
   rw[e,aW (l₁:=P1)];have l1:P1.length<=203:=by show (sm++itL 3 f).length<=203;rw[aA];omega
   exact(oV et).trans ((oH (pD (rX (xs:=P1.map D.str) (ys:=[.str "other", .str "other"]) (ρ1:=ρ es (.lst (P1.map D.str)) .un) rfl rfl (by rw[ah];simp;omega)))).trans rfl)
  ·rw[aH h]at et;have e:P2=P1:=by show P1++otL f=_;unfold otL;rw[aj h,bt]
   rw[e];exact(oM et).trans rfl
 have hP:∀t∈P2,∃z,Tm A y c t z/\z∈sm:=λt ht=>by
  rcases bg.mp ht with ht|ht
  ·rcases bg.mp ht with ht|ht
   ·exact⟨t,.nm c (nmN g ht),ht⟩
   ·exact FR cm (.inl ht)
  ·exact FR (n:=3) cm (.inr ht)
 have ny:y∈nmK T λk=>decide (k=.you):=by show y∈(T.filter _).map Th.n;rw[hy];exact aO.mpr rfl
 have you:∀es1,IL es1->∃p es' s,IL es'/\Mv T A y c y p y p/\(oe (oP 4 (cL (pe pY (nY aa (nY (cL (oG (nY eL oq))) oq)))))
   (oj (pd (nY (cC (.str "move")) (nY (c2 qt aa (cC (.str "you"))) (nY (c2 dIx av (pb n8 2 (nY (c1 p9 av) oq))) oq))))):FS) (ρ es1 (.lst (P2.map D.str)) .un)=some (.rt (.tup [.str "move", .str y,.str p]) (ρ es' (.lst (P2.map D.str)) s)):=λes1 i1=>by
  let rm:=nmK T λk=>decide (k=.room);have h0:rm≠[]:=λe=>by have h1:rm.length=(T.filter λt=>decide (t.k=.room)).length:=ah ..;rw[e]at h1;have h2:=g.r1;rw[<-h1]at h2;exact ao h2 (by decide)
  obtain⟨p,es2,hp,i2,e2⟩:=pk (ρ:=ρ es1 (.lst (P2.map D.str)) (.im (.lst (rm.map D.str)))) (i:=4) (j:=2) h0 i1 rfl rfl;refine⟨p,es2,.im (.lst (rm.map D.str)),i2,⟨.nm c (nmN g ny),.nm c (nmN g hp),.inr rfl,(pX T _).subset hp⟩,?_⟩;refine(n4 (ρ':=ρ es1 (.lst (P2.map D.str)) (.im (.lst (rm.map D.str)))) ((oH (pD (n9 (ds:=[sp,.lst [.str "room"]]) (nZ rfl (nZ rfl rfl)) (of_ok (by omega) (λk=>decide (k=.room)) J8)))).trans rfl)).trans ?_;exact ou (qA (nZ rfl (nZ rfl (nZ e2 rfl))) (bE rfl))
 have run:∃t p z w es' s,IL es'/\Mv T A y c t p z w/\uq (stL 5 es [sp,.str f])=some (.rt (.tup [.str "move", .str t,.str p]) (ρ es' (.lst (P2.map D.str)) s)):=by
  unfold uq;rw[n4 ((oH (pD (n9 (ds:=[sp,.lst [.str "plain", .str "fixed", .str "box", .str "lamp", .str "box"]]) (ρ1:=[.im sp,.im (.str f),.pm es,.un,.un]) (nZ rfl (nZ rfl rfl)) (of_ok (by omega) Kd.pl VX)))).trans (show _=some (Out.nx (ρ es (.lst (sm.map D.str)) .un)) from rfl)),n4 s1,n4 s2];by_cases h0:P2=[]
  ·obtain⟨p,es',s,i',mv,e⟩:=you es hi;exact⟨y,p,y,p,es',s,i',mv,oO ((oV (v7 (ph (og (x:=.lst (P2.map D.str)) (y:=.lst []) rfl rfl (by rw[h0];rfl))))).trans e)⟩
  ·have e1:cT (c2 (dEq false) aq (cL (oG oq))) (ρ es (.lst (P2.map D.str)) .un)=some (false,ρ es (.lst (P2.map D.str)) .un):=ph (og (x:=.lst (P2.map D.str)) (y:=.lst []) rfl rfl (by
    obtain⟨a,r,e⟩:=eU h0;rw[e];exact yg a r))
   obtain⟨r,es1,i1,_,_,h1⟩:=tk (ρ:=ρ es (.lst (P2.map D.str)) .un) (j:=2) (e:=cC (.int 6)) (n:=6) (by decide) hi rfl rfl;have e2:=rQ e1 (ph (og (e':=cC (.int 0)) h1 rfl (sF false r 0)));by_cases hr0:r=0
   ·obtain⟨p,es',s,i',mv,e⟩:=you es1 i1;rw[aT hr0]at e2;exact⟨y,p,y,p,es',s,i',mv,oO ((oV e2).trans e)⟩
   ·rw[aH hr0]at e2;obtain⟨t,es2,ht,i2,e3⟩:=pk (ρ:=ρ es1 (.lst (P2.map D.str)) .un) (i:=3) (j:=2) h0 i1 rfl rfl;obtain⟨p,w,es3,i3,tp,hw,e4⟩:=HC (y:=y) (A:=A) g cm hr i2;obtain⟨z,tz,hz⟩:=hP t ht;refine⟨t,p,z,w,es3,.un,i3,⟨tz,tp,.inl hz,hw⟩,(n4 ((oM e2).trans rfl)).trans ?_⟩;exact ou (qA (nZ rfl (nZ e3 (nZ (rP (ρ1:=ρ es2 (.lst (P2.map D.str)) .un) (ds:=[sp,.str f]) rfl rfl e4) rfl))) (bE rfl))
 obtain⟨t,p,z,w,es',s,i',mv,run⟩:=run;refine⟨t,p,z,w,es',i',mv,?_⟩;unfold sO fnL;rw[ai (show [sp,D.str f].length=2 from rfl),run];rfl
end
section
variable{A:List (Str×Str)}{V:List (Str×Int)}{S:List (Ky×L4.D)}{y r:Str}{T:List Th}{M:List Mk}{dk:aB}{mo c c' d:L4.D}{n:Nat}{t z f:Str}
theorem XG{sm:aB}(cm:Cm sm c f):dIn true (.str f) (.lst [.str "one", .str "two"])=some (.bl (!decide (f="one" \/ f="two"))):=by cases cm<;>kernel_rfl
inductive Td(T:List Th) (A:List (Str×Str)) (y:Str) (c:L4.D):L4.D->Prop
 |mv {t p z w:Str}:Mv T A y c t p z w->Td T A y c (.tup [.str "move", .str t,.str p])
 |pt {t z:Str} (v:Int):Tm A y c t z->Td T A y c (.tup [.str "put", .str t,.int v])
theorem VY(g:Good T M dk)(hy:(T.filter λt=>decide (t.k=.you)).map Th.n=[y])(cm:Cm (nmK T Kd.pl) c f)(hr:∃r,(y,r)∈A/\r∈T.map Th.n)(hi:IL es):∃d es',IL es'/\Td T A y c d/\wY es [pS T M dk y,.str f]=some (d,es'):=by
 let sp:=pS T M dk y;let ρ:List L4.D->Sl->Sl->aZ:=λes a b=>[.im sp,.im (.str f),.pm es,a,b];obtain⟨V,em,v1,v2,rfl⟩:=z8 (y:=y) g;have e1:cT (c2 (dIn true) ag (cL (oG cR))) (ρ es .un .un)=some (!decide (f="one" \/ f="two"),ρ es .un .un):=ph (og (x:=.str f) (y:=.lst [.str "one", .str "two"]) rfl rfl (XG cm));have mk:(f="one" \/ f="two" \/ moL T M≠[])->sA (cT (c2 (dIn true) ag (cL (oG cR)))) (cT (c2 NN (oa pO bw) (u4 []))) (ρ es .un .un)=some (false,ρ es .un .un)->∃d es' a b,IL es'/\Td T A y c d/\tG (stL 5 es [sp,.str f])=some (.rt d (ρ es' a b)):=λhf et=>by obtain⟨t,z,v,es',i',tm,e⟩:=EN (A:=A) (y:=y) g cm hi hf;refine⟨_,es',.im (.str t),.im (.int v),i',.pt v tm,?_⟩;unfold tG;exact(sk et).trans ((n4 (ρ':=ρ es' (.im (.str t)) (.im (.int v))) (Ov (rP (ρ1:=ρ es .un .un) (ds:=[sp,.str f]) rfl rfl e) rfl)).trans rfl)
 have run:∃d es' a b,IL es'/\Td T A y c d/\tG (stL 5 es [sp,.str f])=some (.rt d (ρ es' a b)):=by
  by_cases h12:f="one" \/ f="two"
  ·rw[aT h12]at e1;exact mk (h12.elim .inl λh=>.inr (.inl h)) (v8 e1)
  ·rw[aH h12]at e1;have e2:cT (c2 NN (oa pO bw) (u4 [])) (ρ es .un .un)=some (((moL T M).map λq=>kS q.1).isEmpty,ρ es .un .un):=ph (og (x:=dcI (moL T M)) (y:=.dic [] []) (n9 (ds:=[sp]) rfl em) rfl rfl);have et:=(uw e1).trans e2;by_cases h0:moL T M=[]
   ·rw[h0]at et;obtain⟨t,p,z,w,es',i',mv,e⟩:=HG g hy cm hr hi;refine⟨_,es',.un,.un,i',.mv mv,?_⟩;unfold tG;exact oO ((oV et).trans (ou (rP (ρ1:=ρ es .un .un) (ds:=[sp,.str f]) rfl rfl e)))
   ·obtain⟨q,r,eq⟩:=eU h0;rw[eq]at et;exact mk (.inr (.inr h0)) et
 obtain⟨d,es',a,b,i',td,run⟩:=run;refine⟨d,es',i',td,?_⟩;unfold wY fnL;rw[ai (show [sp,D.str f].length=2 from rfl),run];rfl
theorem RM(h:∀q∈S,(∃z,q.2=.str z)\/∃n,q.2=.int n):dEq false (sD S) (sD S)=some (.bl true):=BV (n:=3) (neg:=false) (FU λd hd=>by
 obtain⟨q,hq,rfl⟩:=aF.mp hd;refine pl2 (n:=1) (pl2 (n:=0) (pT _) (pT _)) ?_;rcases h q hq with ⟨z,e⟩|⟨z,e⟩<;>rw[e]
 ·exact pT _
 ·exact Jk _) (by decide)
theorem RN{k:Ky}{v:L4.D}(hv:(∃z,v=.str z)\/∃n,v=.int n)(h:∀q∈S,(∃z,q.2=.str z)\/∃n,q.2=.int n):∀q∈upS k v S,(∃z,q.2=.str z)\/∃n,q.2=.int n:=λq hq=>by
 obtain⟨p,hp,rfl⟩:=aF.mp hq;by_cases e:p.1=k
 ·rw[ai e];exact hv
 ·rw[aj e];exact h p hp
theorem Re(g:Good T M dk)(hy:y∈nmK T λk=>decide (k=.you))(a:ye A y)(o:zf A V S)(lS:S.length<=900)(fl:∀q∈S,(∃z,q.2=.str z)\/∃n,q.2=.int n)(td:Td T A y c d):∃k ns ds hh r,AE [d]=some (.obj k ns ds)/\uR k=some hh/\hh [.obj k ns ds,wM T M dk y,sD S,c]=some r/\dEq false r r=some (.bl true)/\((k=11/\ns=(["term", "place"]:aB)/\∃t p,ds=[.str t,.str p]/\d=.tup [.str "move", .str t,.str p])\/(k=12/\ns=(["term", "value"]:aB)/\∃t v,ds=[.str t,.int v]/\d=.tup [.str "put", .str t,.int v])):=by
 cases td with
 |@mv t p z w m=>
  obtain⟨u,hu,uz,uk⟩:∃u∈T,u.n=z/\u.k≠.room:=by
   rcases m.z with h|rfl
   ·obtain⟨u,h1,h2,h3⟩:=sQ h;exact⟨u,h1,h2,λe=>by rw[e]at h3;cases h3⟩
   ·obtain⟨u,h1,h2,h3⟩:=sQ hy;exact⟨u,h1,h2,λe=>by rw[e]at h3;cases h3⟩
  obtain⟨v,hv,vw⟩:=aF.mp m.w;obtain⟨l,ch,hl⟩:=Aa a w;refine⟨11,_,_,xT,_,by kernel_rfl,rfl,Rb (mo:=dcI (moL T M)) g a lS o m.t m.p ch hl hu uz uk hv vw,?_,.inl ⟨rfl,rfl,t,p,rfl,rfl⟩⟩;split
  ·rfl
  ·exact RM (RN (.inl ⟨w,rfl⟩) fl)
 |@pt t z v tm=>
  have nd:(nmK T Kd.mk++M.map Mk.n).Nodup:=ndM g;by_cases h:z∈nmK T Kd.mk++M.map Mk.n
  ·obtain⟨m,hm⟩:∃m,(z,m)∈moL T M:=by rw[<-FM]at h;obtain⟨q,hq,rfl⟩:=aF.mp h;exact⟨_,hq⟩
   have hs:=Oy (dk:=dk) (y:=y) nd v hm;by_cases hv:v<=m
   ·rw[aT hv]at hs;exact⟨12,_,_,tD,_,by kernel_rfl,rfl,Oz lS (sR a o tm) hs,RM (RN (.inr ⟨v,rfl⟩) fl),.inr ⟨rfl,rfl,t,v,rfl,rfl⟩⟩
   ·rw[aH hv]at hs;exact⟨12,_,_,tD,_,by kernel_rfl,rfl,Kn (sR a o tm) hs,rfl,.inr ⟨rfl,rfl,t,v,rfl,rfl⟩⟩
  ·exact⟨12,_,_,tD,_,by kernel_rfl,rfl,Kn (sR a o tm) (Q9 v h),rfl,.inr ⟨rfl,rfl,t,v,rfl,rfl⟩⟩
theorem LH(g:Good T M dk)(hy:y∈nmK T λk=>decide (k=.you))(a:ye A y)(o:zf A V S)(lS:S.length<=900)(fl:∀q∈S,(∃z,q.2=.str z)\/∃n,q.2=.int n)(td:Td T A y c d):qZ [wM T M dk y,sD S,c,d]=some (.bl true):=by
 obtain⟨k,ns,ds,hh,r,d1,d2,d3,d4,cs⟩:=Re g hy a o lS fl td;let W:=wM T M dk y;rcases cs with ⟨rfl,rfl,t,p,rfl,rfl⟩|⟨rfl,rfl,t,v,rfl,rfl⟩
 ·let q:L4.D:=.tup [.str "move", .str t,.str p];let ρ:aZ:=[.im W,.im (sD S),.im c,.im q,.im (mvD t p),.im (mvD t p)];have tl:o6 (oU 3) "told" av oq ρ=some (q,ρ):=o8 (xs:=[.str t,.str p]) (ys:=[]) (hh:=xU) rfl rfl rfl rfl (by kernel_rfl);have tl':o6 (oU 3) "told" aP oq ρ=some (q,ρ):=o8 (xs:=[.str t,.str p]) (ys:=[]) (hh:=xU) rfl rfl rfl rfl (by kernel_rfl);have eq:dEq true q q=some (.bl false):=BV (n:=1) (neg:=true) (pl3 (pT _) (pT _) (pT _)) (by decide);refine ox (ρ:=ρ) rfl ?_;unfold qY;refine(n4 (ρ':=[.im W,.im (sD S),.im c,.im q,.im (mvD t p),.un]) ((oV rfl).trans rfl)).trans ((n4 (ρ':=ρ) ((oH (n9 (ds:=[q]) rfl d1)).trans rfl)).trans ?_);refine(sk (rQ (ρ1:=ρ) (ph (og tl rfl eq)) (rQ (ρ1:=ρ) (ph (og tl' rfl eq)) (by kernel_rfl)))).trans ((sk (ρ:=ρ) (by kernel_rfl)).trans (ou ?_));exact og (o8 (xs:=[.str t,.str p]) (ys:=[W,sD S,c]) (ρ1:=ρ) rfl d2 rfl rfl d3) (o8 (xs:=[.str t,.str p]) (ys:=[W,sD S,c]) (ρ1:=ρ) rfl d2 rfl rfl d3) d4
 ·let q:L4.D:=.tup [.str "put", .str t,.int v];let b:L4.D:=putD (.str t) v;let ρ:aZ:=[.im W,.im (sD S),.im c,.im q,.im b,.im b];have tl:o6 (oU 3) "told" av oq ρ=some (q,ρ):=o8 (xs:=[.str t,.int v]) (ys:=[]) (hh:=ze) rfl rfl rfl rfl (by kernel_rfl);have tl':o6 (oU 3) "told" aP oq ρ=some (q,ρ):=o8 (xs:=[.str t,.int v]) (ys:=[]) (hh:=ze) rfl rfl rfl rfl (by kernel_rfl);have eq:dEq true q q=some (.bl false):=BV (n:=1) (neg:=true) (pl3 (pT _) (pT _) (Jk _)) (by decide);refine ox (ρ:=ρ) rfl ?_;unfold qY;refine(n4 (ρ':=[.im W,.im (sD S),.im c,.im q,.im b,.un]) ((oM rfl).trans rfl)).trans ((n4 (ρ':=ρ) ((oH (n9 (ds:=[q]) rfl d1)).trans rfl)).trans ?_);refine(sk (rQ (ρ1:=ρ) (ph (og tl rfl eq)) (rQ (ρ1:=ρ) (ph (og tl' rfl eq)) (by kernel_rfl)))).trans ((sk (ρ:=ρ) (by kernel_rfl)).trans (ou ?_));exact og (o8 (xs:=[.str t,.int v]) (ys:=[W,sD S,c]) (ρ1:=ρ) rfl d2 rfl rfl d3) (o8 (xs:=[.str t,.int v]) (ys:=[W,sD S,c]) (ρ1:=ρ) rfl d2 rfl rfl d3) d4
theorem LI(s:Sit T A V S y r)(ak:Ak T A y c c 3 d):qX [wO T M dk y mo,sD S,c,d]=some (.bl true):=by obtain⟨k,ns,ds,i⟩:=XE (M:=M) (dk:=dk) (mo:=mo) s ak;obtain⟨ht,t1,t2⟩:=i.t;obtain⟨hh,b,h1,h2⟩:=i.h;have pl:=XC ak;obtain⟨es,rfl⟩:=XD ak;let W:=wO T M dk y mo;let O:L4.D:=.obj k ns ds;let ρ:aZ:=[.im W,.im (sD S),.im c,.im (.tup es),.im O,.im O];have tl:∀j,cV j ρ=some (O,ρ)->o6 (oU 3) "told" (cV j) oq ρ=some (.tup es,ρ):=λj h=>o8 (xs:=ds) (ys:=[]) h t1 i.nn.2 rfl t2;have eq:dEq true (.tup es) (.tup es)=some (.bl false):=BV (n:=4) (neg:=true) pl (by decide);refine ox (ρ:=ρ) rfl ?_;unfold sP;refine(n4 (ρ':=[.im W,.im (sD S),.im c,.im (.tup es),.im O,.un]) ((oH (n9 (ds:=[.tup es]) rfl i.m)).trans rfl)).trans ((n4 (ρ':=ρ) ((oH (n9 (ds:=[.tup es]) rfl i.o)).trans rfl)).trans ?_);refine(sk (rQ (ρ1:=ρ) (ph (og (tl 4 rfl) rfl eq)) (rQ (ρ1:=ρ) (ph (og (tl 5 rfl) rfl eq)) (sC (b:=true) (ph (pC (tl 4 rfl) rfl)))))).trans ?_;refine(sk (rQ (ρ1:=ρ) (sC (b:=true) (ph (n9 (ds:=[O,O]) rfl i.s))) (sC (b:=true) (ph (n9 (ds:=[O,O]) (nZ rfl (nZ (n9 (ds:=[.tup es]) (nZ (tl 4 rfl) rfl) i.o) rfl)) i.s))))).trans (ou ?_);exact og (o8 (xs:=ds) (ys:=[W,sD S,c]) (ρ1:=ρ) rfl h1 i.nn.1 rfl h2) (o8 (xs:=ds) (ys:=[W,sD S,c]) (ρ1:=ρ) rfl h1 i.nn.1 rfl h2) (by cases b<;>rfl)
end
theorem Ko(ns:List Int)(k:Nat):∃c,sL [.fzl (ns.map D.int),.int k]=some (.int c):=by
 let ρ:aZ:=[.im (.fzl (ns.map D.int)),.im (.int k)];have ev:cT (c2 yy ag (c1 p9 aa)) ρ=some (decide ((k:Int)<((ns.map D.int).length:Nat)),ρ):=rfl;rw[ah]at ev;by_cases h:k<ns.length
 ·rw[aT (by omega)]at ev;refine⟨ns[k],ox (ρ:=ρ) rfl (oO ((oV ev).trans (ou (og (x:=.fzl (ns.map D.int)) (y:=.int k) rfl rfl ?_))))⟩;exact Jv (by rw[bj,aL h];rfl)
 ·rw[aH (by omega)]at ev;exact⟨0,ox (ρ:=ρ) rfl ((n4 ((oM ev).trans rfl)).trans rfl)⟩
def iB:FS:=(sIf (qu (cT (oa qZ ni))) (oj bM) oA)
def lB:FS:=(oe (rS 4 (pe sM nD))
 (oe (oP 5 (pJ rU 4 bY))
 (oe (oP 6 (oa uj nH))
 (oe (oP 7 (pJ rB 4 bY))
 (oe (oP 8 (oa vo (a1 bV)))
 (oe (sIf (qu (cT (oa qX m9))) (oj bM) oA)
 (sS (iL (cL (oG ng))) (gN 9) iB)))))))
theorem VZ(ns:List Int)(hl:ns.length<=63):RH [.fzl (ns.map D.int)]=some (.bl true):=by
 obtain⟨c0,e0⟩:=Ko ns 0;obtain⟨c1,e1⟩:=Ko ns 1;obtain⟨T,M,dk,y,es,g,hy⟩:=QS c0;have ew:=Oc g hy (Og g);have hyk:y∈nmK T λk=>decide (k=.you):=by unfold nmK;rw[hy];exact aO.mpr rfl
 let sc:=D.fzl (ns.map D.int);let W:=wM T M dk y;let sp:=pS T M dk y;let R:aZ->aZ:=λs=>.im sc::.im sp::.im W::s;have loop:∀(l:List Int) (s:aZ),s.length=7->∃s',s'.length=7/\forL (gN 3) lB (l.map D.int) (R s)=some (.nx (R s')):=by
  intro l
  induction l with
  |nil=>exact λs h=>⟨s,h,rfl⟩
  |cons c l ih=>
   intro s hs
   match s,hs with
   |[s3,s4,s5,s6,s7,s8,s9],_=>
   obtain⟨xs,ix,dx⟩:=Hn c 130 (by decide);obtain⟨A,x1,i1,a,pn,_,pl⟩:=LB g hy ix;obtain⟨V,x2,i2,mk,vn,_⟩:=Od (y:=y) g i1;obtain⟨cm,f,x3,i3,hc,ec⟩:=Jj (y:=y) g i2;obtain⟨r,hr⟩:=a.yo;have hr':∃r,(y,r)∈A/\r∈T.map Th.n:=⟨r,hr,pn _ hr⟩;obtain⟨q,x4,i4,ak,em⟩:=HE (A:=A) (y:=y) g hc hr' (n:=3) (by decide) i3;obtain⟨t,p,z,w,x5,i5,mv,e5⟩:=HG (A:=A) g hy hc hr' i4;obtain⟨d,x6,i6,td,e6⟩:=VY (A:=A) g hy hc hr' i5;have nv:(V.map aC).Nodup:=by rw[vn];exact ndM g
   have lv:V.length<=40:=by have h1:=aR bT vn;have h2:=Kg g;rw[ah]at h1;rw[h1];exact bL h2 (by decide)
   have hv:∀x∈nmK T Kd.mk,∃z,(x,z)∈V:=λx hx=>by
    have:x∈V.map aC:=by rw[vn];exact bF _ hx
    obtain⟨q,hq,rfl⟩:=aF.mp this;exact⟨_,hq⟩
   obtain⟨S,o,⟨lS,fl⟩,st⟩:=Of a nv lv;have tr:=LI (M:=M) (dk:=dk) (mo:=dcI (moL T M)) ⟨g.ndT,g.len,g.p7,a,pn,nv,hv,o,hr⟩ ak;let Q:List L4.D->Sl->aZ:=λxs s=>R [.im (.int c),.ls xs,.im (atD A),.im (sD S),.im cm,.im (.str f),s];have inner:∀(l:List L4.D) (s:Sl),(∀d∈l,Td T A y cm d)->∃s',forL (gN 9) iB l (Q x6 s)=some (.nx (Q x6 s')):=by
    intro l
    induction l with
    |nil=>exact λs _=>⟨s,rfl⟩
    |cons x l ih=>intro s h;obtain⟨s',h'⟩:=ih (.im x) λd hd=>h d (bh _ hd);refine⟨s',?_⟩;unfold forL;rw[show gN 9 x (Q x6 s)=some (Q x6 (.im x)) from rfl];have ev:iB (Q x6 (.im x))=some (.nx (Q x6 (.im x))):=(oM (sC (b:=true) (ph (n9 (ds:=[W,sD S,cm,x]) rfl (LH g hyk a o lS fl (h x ba)))))).trans rfl;simp only[ev];exact h'
   obtain⟨s',hin⟩:=inner [.tup [.str "move", .str t,.str p],d] s9 λx hx=>by
    rcases aM.mp hx with rfl|hx
    ·exact .mv mv
    ·rw[aO.mp hx];exact td
   obtain⟨s2,hs2,k'⟩:=ih [.im (.int c),.ls x6,.im (atD A),.im (sD S),.im cm,.im (.str f),s'] rfl;refine⟨s2,hs2,?_⟩;rw[ay];unfold forL;rw[show gN 3 (.int c) (R [s3,s4,s5,s6,s7,s8,s9])=some (R [.im (.int c),s4,s5,s6,s7,s8,s9]) from rfl];have ev:lB (R [.im (.int c),s4,s5,s6,s7,s8,s9])=some (.nx (Q x6 s')):=by unfold lB;refine(n4 (ρ':=R [.im (.int c),.ls xs,s5,s6,s7,s8,s9]) ((wo (n9 (nZ rfl (nZ rfl rfl)) dx)).trans rfl)).trans ?_;refine(n4 (ρ':=R [.im (.int c),.ls x1,.im (atD A),s6,s7,s8,s9]) ((oH (rP (ρ1:=R [.im (.int c),.ls xs,s5,s6,s7,s8,s9]) rfl rfl pl)).trans rfl)).trans ?_;refine(n4 (ρ':=R [.im (.int c),.ls x2,.im (atD A),.im (sD S),s7,s8,s9]) ((oH (n9 (ds:=[atD A,dcI V]) (nZ rfl (nZ (rP (ρ1:=R [.im (.int c),.ls x1,.im (atD A),s6,s7,s8,s9]) rfl rfl mk) rfl)) st)).trans rfl)).trans ?_;refine(n4 (ρ':=R [.im (.int c),.ls x3,.im (atD A),.im (sD S),.im cm,s8,s9]) ((oH (rP (ρ1:=R [.im (.int c),.ls x2,.im (atD A),.im (sD S),s7,s8,s9]) rfl rfl ec)).trans rfl)).trans ?_;refine(n4 (ρ':=Q x3 s9) ((oH (n9 (ds:=[cm]) rfl (Q4 hc))).trans rfl)).trans ?_;refine(n4 (ρ':=Q x4 s9) ((oM (sC (b:=true) (ph (n9 (ds:=[W,sD S,cm,q]) (ρ1:=Q x4 s9) (nZ rfl (nZ rfl (nZ rfl (nZ ((rP (ρ1:=Q x3 s9) (ds:=[sp,.str f,.int 4]) rfl rfl em).trans rfl) rfl)))) tr)))).trans rfl)).trans ?_;exact(qp (z7 (pD (wq (nZ ((rP (ρ1:=Q x4 s9) (ds:=[sp,.str f]) rfl rfl e5).trans rfl) (nZ ((rP (ρ1:=Q x5 s9) (ds:=[sp,.str f]) rfl rfl e6).trans rfl) rfl)) (bE rfl))))).trans hin
   simp only[ev];exact k'
 let cs:List Int:=c1::(ns.drop (HT.sIx ns.length 0 (some 2))).take (HT.sIx ns.length ns.length (some 11) - HT.sIx ns.length 0 (some 2));have ec:[D.int c1]++cutD (ns.map D.int) (some 2) (some 11)=cs.map D.int:=by unfold cutD;rw[ah,<- fi,<- fj];rfl
 have hc:(cutD (ns.map D.int) (some 2) (some 11)).length<=63:=by unfold cutD;rw[br,cc,ah];omega
 let un:aZ:=dJ 7 .un;obtain⟨s',_,e⟩:=loop cs un rfl;refine ox (ρ:=R s') rfl ?_;refine(n4 (ρ':=.im sc::.im sp::.un::un) ((oH (n9 (nZ (n9 (nZ rfl (nZ rfl rfl)) e0) rfl) es)).trans rfl)).trans ?_;refine(n4 (ρ':=R un) ((oH (n9 (nZ rfl rfl) ew)).trans rfl)).trans ?_;refine(n4 ((qp (ds:=cs.map D.int) (ρ1:=R un) ?_).trans e)).trans rfl;exact(z7 (pD (rX (xs:=[.int c1]) (ys:=cutD (ns.map D.int) (some 2) (some 11)) (pD (wq (nZ (n9 (nZ rfl (nZ rfl rfl)) e1) rfl) (show 1<=1000 by decide))) rfl (by show 1+_<=1000;omega)))).trans (by rw[ec])
end K29x
namespace K29x
open PySem L2 L3 L4
open PySem.W (nsIn)
structure Fx(K:aw)(C0 C1 C2 C3 C4 C5 C6 C7 C8 C9 C10 C11 C12 C13 C14 C15:Addr):Prop where
 a0:nsIn K mainGlobals "Thing" = some (some (.ref C0))
 a1:nsIn K mainGlobals "Mark" = some (some (.ref C1))
 a2:nsIn K mainGlobals "Verb" = some (some (.ref C2))
 a3:nsIn K mainGlobals "At" = some (some (.ref C3))
 a4:nsIn K mainGlobals "Has" = some (some (.ref C4))
 a5:nsIn K mainGlobals "Seen" = some (some (.ref C5))
 a6:nsIn K mainGlobals "Marked" = some (some (.ref C6))
 a7:nsIn K mainGlobals "Kind" = some (some (.ref C7))
 a8:nsIn K mainGlobals "Word" = some (some (.ref C8))
 a9:nsIn K mainGlobals "Not" = some (some (.ref C9))
 a10:nsIn K mainGlobals "Both" = some (some (.ref C10))
 a11:nsIn K mainGlobals "Move" = some (some (.ref C11))
 a12:nsIn K mainGlobals "Put" = some (some (.ref C12))
 a13:nsIn K mainGlobals "Rule" = some (some (.ref C13))
 a14:nsIn K mainGlobals "World" = some (some (.ref C14))
 a15:nsIn K mainGlobals "Lit" = some (some (.ref C15))
 k0:CF K C0 ["kind", "name", "start", "words"]
 k1:CF K C1 ["most", "name", "start"]
 k2:CF K C2 ["form", "joining", "name", "others"]
 k3:CF K C3 ["place", "term"]
 k4:CF K C4 ["term"]
 k5:CF K C5 ["term"]
 k6:CF K C6 ["term", "value"]
 k7:CF K C7 ["kind", "term"]
 k8:CF K C8 ["word"]
 k9:CF K C9 ["inner"]
 k10:CF K C10 ["one", "other"]
 k11:CF K C11 ["place", "term"]
 k12:CF K C12 ["term", "value"]
 k13:CF K C13 ["verb", "deeds", "refuses", "tests", "text"]
 k14:CF K C14 ["copied_rules", "kept_dark", "kept_things", "kept_verbs", "mosts_by_name", "shared_rules", "shared_verbs", "things_by_name", "verbs_by_word", "your_name", "kept_marks", "kept_rules", "kept_ways", "rules_by_verb"]
 k15:CF K C15 []
 i_At:qW K [C0,C1,C2,C3,C4,C5,C6,C7,C8,C9,C10,C11,C12,C13,C14,C15] C3 3=true
 i_Both:qW K [C0,C1,C2,C3,C4,C5,C6,C7,C8,C9,C10,C11,C12,C13,C14,C15] C10 10=true
 i_Has:qW K [C0,C1,C2,C3,C4,C5,C6,C7,C8,C9,C10,C11,C12,C13,C14,C15] C4 4=true
 i_Kind:qW K [C0,C1,C2,C3,C4,C5,C6,C7,C8,C9,C10,C11,C12,C13,C14,C15] C7 7=true
 i_Mark:qW K [C0,C1,C2,C3,C4,C5,C6,C7,C8,C9,C10,C11,C12,C13,C14,C15] C1 1=true
 i_Marked:qW K [C0,C1,C2,C3,C4,C5,C6,C7,C8,C9,C10,C11,C12,C13,C14,C15] C6 6=true
 i_Move:qW K [C0,C1,C2,C3,C4,C5,C6,C7,C8,C9,C10,C11,C12,C13,C14,C15] C11 11=true
 i_Not:qW K [C0,C1,C2,C3,C4,C5,C6,C7,C8,C9,C10,C11,C12,C13,C14,C15] C9 9=true
 i_Put:qW K [C0,C1,C2,C3,C4,C5,C6,C7,C8,C9,C10,C11,C12,C13,C14,C15] C12 12=true
 i_Seen:qW K [C0,C1,C2,C3,C4,C5,C6,C7,C8,C9,C10,C11,C12,C13,C14,C15] C5 5=true
 i_Thing:qW K [C0,C1,C2,C3,C4,C5,C6,C7,C8,C9,C10,C11,C12,C13,C14,C15] C0 0=true
 i_Word:qW K [C0,C1,C2,C3,C4,C5,C6,C7,C8,C9,C10,C11,C12,C13,C14,C15] C8 8=true
 n_Lit:cv K (.ref C15) "__init__" = some (some (.builtin "object.__init__"))
 nd:decide ([C0,C1,C2,C3,C4,C5,C6,C7,C8,C9,C10,C11,C12,C13,C14,C15]:List Addr).Nodup=true
 e:((["all", "any", "bool", "int", "isinstance", "len", "list", "range", "set", "sorted", "str", "tuple", "zip"]:aB).all λx=>match nsIn K mainGlobals x with|some none=>true|_=>false)=true
 g0:GS K "KINDS" ["room", "plain", "fixed", "box", "lamp", "you"]
 g1:GS K "KINDS_APART" ["room", "you"]
 g2:GS K "KINDS_THAT_HOLD" ["room", "box", "you"]
 g3:GS K "KINDS_WITH_MARK" ["box", "lamp"]
 g4:GC K "MOST_BESIDE" 7
 g5:GC K "MOST_IN_NAME" 8
 g6:GC K "MOST_IN_WORD" 12
 g7:GC K "MOST_MARKS" 4
 g8:GC K "MOST_OF_MARK" 3
 g9:GC K "MOST_ROOMS" 5
 g10:GC K "MOST_RULES" 20
 g11:GC K "MOST_VERBS" 6
 g12:GC K "MOST_WAYS" 10
 g13:GC K "MOST_WORDS" 4
 g14:GS K "NO_NAMES" ["it", "other", "here", "the", "a", "undo", "restart"]
 g15:GS K "NO_WORDS" ["the", "a"]
 g16:GS K "NO_WORDS_OF_ROWS" ["the", "a", "undo", "restart"]
 q17:GD K "is_small_letters" (top 6)
 q18:GD K "is_name" (top 7)
 q19:GD K "is_word" (top 8)
 q20:GD K "is_one_of" (top 10)
 q21:GD K "is_whole" (top 11)
 q22:GD K "is_list_up_to" (top 12)
 q23:GD K "own_list" (top 103)
 q24:GJ K C0 "Thing.__init__" (inClass (top 57) 0) [V.non]
 q25:GM K C1 "__init__" "Mark.__init__" (inClass (top 58) 0)
 q26:GJ K C2 "Verb.__init__" (inClass (top 59) 0) [V.non,(V.str "one"),V.non]
 q27:GM K C3 "__init__" "At.__init__" (inClass (top 29) 0)
 q28:GM K C4 "__init__" "Has.__init__" (inClass (top 30) 0)
 q29:GM K C5 "__init__" "Seen.__init__" (inClass (top 31) 0)
 q30:GM K C6 "__init__" "Marked.__init__" (inClass (top 32) 0)
 q31:GM K C7 "__init__" "Kind.__init__" (inClass (top 33) 0)
 q32:GM K C8 "__init__" "Word.__init__" (inClass (top 34) 0)
 q33:GM K C9 "__init__" "Not.__init__" (inClass (top 36) 0)
 q34:GM K C10 "__init__" "Both.__init__" (inClass (top 37) 0)
 q35:GM K C11 "__init__" "Move.__init__" (inClass (top 46) 0)
 q36:GM K C12 "__init__" "Put.__init__" (inClass (top 47) 0)
 q37:GJ K C13 "Rule.__init__" (inClass (top 102) 0) [(V.bl false)]
 q38:GM K C0 "can_hold" "Thing.can_hold" (inClass (top 57) 1)
 q39:GM K C0 "has_mark" "Thing.has_mark" (inClass (top 57) 2)
 q40:GM K C0 "is_plainly" "Thing.is_plainly" (inClass (top 57) 3)
 q41:GD K "refuse_unless" (top 72)
 q42:GD K "count_of" (top 75)
 q43:GD K "plain_ones" (top 76)
 q44:GD K "is_mark" (top 78)
 q45:GD K "check_things" (top 74)
 q46:GD K "check_marks" (top 77)
 q47:GD K "are_unlike" (top 80)
 q48:GD K "check_names" (top 79)
 q49:GD K "mark_names" (top 81)
 q50:GD K "is_start" (top 83)
 q51:GD K "comes_to_room" (top 84)
 q52:GD K "check_starts" (top 82)
 q53:GD K "are_words" (top 86)
 q54:GD K "has_all" (top 88)
 q55:GD K "is_told_apart" (top 87)
 q56:GD K "check_words_of_things" (top 85)
 q57:GD K "check_dark" (top 89)
 q58:GD K "is_way" (top 91)
 q59:GD K "check_ways" (top 90)
 q60:GD K "check_verbs" (top 92)
 q61:GD K "are_apart" (top 95)
 q62:GD K "check_vocabulary" (top 94)
 q63:GD K "check_parts" (top 73)
 q64:GD K "does" (top 126)
 q65:GD K "refuses" (top 127)
 q66:GD K "hand_rules" (top 128)
 q67:GD K "put_rules" (top 129)
 q68:GD K "lid_rules" (top 130)
 q69:GD K "flame_rules" (top 131)
 q70:GD K "way_tests" (top 133)
 q71:GD K "go_rules" (top 132)
 q72:GD K "wait_rules" (top 134)
 q73:GD K "common_rules" (top 125)
 q74:GD K "common_verbs" (top 124)
 q75:GD K "by_name" (top 138)
 q76:GD K "mosts_by_name" (top 139)
 q77:GD K "verbs_by_word" (top 140)
 q78:GD K "by_verb" (top 141)
 q79:GM K C14 "of_kind" "World.of_kind" (inClass (top 137) 3)
 q80:GM K C14 "all_verbs" "World.all_verbs" (inClass (top 137) 13)
 q81:GM K C14 "__init__" "World.__init__" (inClass (top 137) 0)
 q82:GM K C14 "you" "World.you" (inClass (top 137) 4)
 q83:GM K C14 "thing_of" "World.thing_of" (inClass (top 137) 2)
 q84:GM K C14 "is_dark" "World.is_dark" (inClass (top 137) 5)
 q85:GM K C14 "most_of" "World.most_of" (inClass (top 137) 6)
 q86:GD K "value_of" (top 14)
 q87:GD K "at_of" (top 15)
 q88:GD K "mark_of" (top 16)
 q89:GD K "with_part" (top 17)
 q90:GD K "holders_of" (top 19)
 q91:GD K "room_of" (top 20)
 q92:GD K "is_shut" (top 22)
 q93:GD K "in_open" (top 21)
 q94:GD K "has" (top 23)
 q95:GD K "burns_in" (top 25)
 q96:GD K "is_lit" (top 24)
 q97:GD K "is_seen" (top 26)
 q98:GM K C14 "verb_of" "World.verb_of" (inClass (top 137) 14)
 q99:GD K "is_of_way" (top 39)
 q100:GD K "things_of" (top 40)
 q101:GD K "meant" (top 41)
 q102:GD K "at_parts" (top 42)
 q103:GD K "mark_parts" (top 43)
 q104:GD K "can_go" (top 49)
 q105:GD K "can_show" (top 50)
 q106:GM K C3 "holds" "At.holds" (inClass (top 29) 1)
 q107:GM K C4 "holds" "Has.holds" (inClass (top 30) 1)
 q108:GM K C5 "holds" "Seen.holds" (inClass (top 31) 1)
 q109:GM K C6 "holds" "Marked.holds" (inClass (top 32) 1)
 q110:GM K C7 "holds" "Kind.holds" (inClass (top 33) 1)
 q111:GM K C8 "holds" "Word.holds" (inClass (top 34) 1)
 q112:GM K C15 "holds" "Lit.holds" (inClass (top 35) 0)
 q113:GM K C9 "holds" "Not.holds" (inClass (top 36) 1)
 q114:GM K C10 "holds" "Both.holds" (inClass (top 37) 1)
 q115:GM K C11 "done" "Move.done" (inClass (top 46) 1)
 q116:GM K C12 "done" "Put.done" (inClass (top 47) 1)
 q117:GM K C3 "told" "At.told" (inClass (top 29) 3)
 q118:GM K C4 "told" "Has.told" (inClass (top 30) 3)
 q119:GM K C5 "told" "Seen.told" (inClass (top 31) 3)
 q120:GM K C6 "told" "Marked.told" (inClass (top 32) 3)
 q121:GM K C7 "told" "Kind.told" (inClass (top 33) 3)
 q122:GM K C8 "told" "Word.told" (inClass (top 34) 3)
 q123:GM K C15 "told" "Lit.told" (inClass (top 35) 2)
 q124:GM K C11 "told" "Move.told" (inClass (top 46) 4)
 q125:GM K C12 "told" "Put.told" (inClass (top 47) 4)
 q126:GM K C9 "told" "Not.told" (inClass (top 36) 3)
 q127:GM K C10 "told" "Both.told" (inClass (top 37) 3)
 q128:GD K "test_of" (top 38)
 q129:GD K "deed_of" (top 48)
 q130:GD K "_law_cell_at" (top 143)
 q131:GD K "_law_draws" (top 144)
 q132:GD K "_law_take" (top 145)
 q133:GD K "_law_names" (top 146)
 q134:GD K "_law_others" (top 147)
 q135:GD K "_law_spec" (top 148)
 q136:GD K "_law_ways" (top 149)
 q137:GD K "_law_world" (top 150)
 q138:GD K "_law_of" (top 151)
 q139:GD K "_law_mosts" (top 152)
 q140:GD K "_law_places" (top 153)
 q141:GD K "_law_marks" (top 154)
 q142:GD K "_law_stand" (top 155)
 q143:GD K "_law_command" (top 156)
 q144:GD K "_law_form" (top 157)
 q145:GD K "_law_term" (top 158)
 q146:GD K "_law_place" (top 159)
 q147:GD K "_law_marked" (top 160)
 q148:GD K "_law_asked" (top 161)
 q149:GD K "_law_test" (top 162)
 q150:GD K "_law_moved" (top 163)
 q151:GD K "_law_put" (top 164)
 q152:GD K "_law_same" (top 165)
 q153:GD K "_law_test_right" (top 166)
 q154:GD K "_law_deed_right" (top 167)
 q155:GD K "law" (top 168)
class Yx(B:Bz):Prop where
 y:Yw B.P B.w B.mg B.base B.G
 f:Fx B.G.K (B.G.ca 0) (B.G.ca 1) (B.G.ca 2) (B.G.ca 3) (B.G.ca 4) (B.G.ca 5) (B.G.ca 6) (B.G.ca 7) (B.G.ca 8) (B.G.ca 9) (B.G.ca 10) (B.G.ca 11) (B.G.ca 12) (B.G.ca 13) (B.G.ca 14) (B.G.ca 15)
section
variable{B:Bz}[Y:Yx B]
instance:Yb B:=⟨Y.y⟩
instance:Nb B "all" := ⟨Y.y.n Y.f.e 0 rfl⟩
instance:Nb B "any" := ⟨Y.y.n Y.f.e 1 rfl⟩
instance:Nb B "bool" := ⟨Y.y.n Y.f.e 2 rfl⟩
instance:Nb B "int" := ⟨Y.y.n Y.f.e 3 rfl⟩
instance:Nb B "isinstance" := ⟨Y.y.n Y.f.e 4 rfl⟩
instance:Nb B "len" := ⟨Y.y.n Y.f.e 5 rfl⟩
instance:Nb B "list" := ⟨Y.y.n Y.f.e 6 rfl⟩
instance:Nb B "range" := ⟨Y.y.n Y.f.e 7 rfl⟩
instance:Nb B "set" := ⟨Y.y.n Y.f.e 8 rfl⟩
instance:Nb B "sorted" := ⟨Y.y.n Y.f.e 9 rfl⟩
instance:Nb B "str" := ⟨Y.y.n Y.f.e 10 rfl⟩
instance:Nb B "tuple" := ⟨Y.y.n Y.f.e 11 rfl⟩
instance:Nb B "zip" := ⟨Y.y.n Y.f.e 12 rfl⟩
instance:Co B "KINDS" Fv:=⟨Y.y.cs Y.f.g0⟩
instance:Co B "KINDS_APART" yJ:=⟨Y.y.cs Y.f.g1⟩
instance:Co B "KINDS_THAT_HOLD" u7:=⟨Y.y.cs Y.f.g2⟩
instance:Co B "KINDS_WITH_MARK" u9:=⟨Y.y.cs Y.f.g3⟩
instance:Co B "MOST_BESIDE" yK:=⟨Y.y.ci Y.f.g4⟩
instance:Co B "MOST_IN_NAME" xF:=⟨Y.y.ci Y.f.g5⟩
instance:Co B "MOST_IN_WORD" xG:=⟨Y.y.ci Y.f.g6⟩
instance:Co B "MOST_MARKS" ud:=⟨Y.y.ci Y.f.g7⟩
instance:Co B "MOST_OF_MARK" xH:=⟨Y.y.ci Y.f.g8⟩
instance:Co B "MOST_ROOMS" zD:=⟨Y.y.ci Y.f.g9⟩
instance:Co B "MOST_RULES" zF:=⟨Y.y.ci Y.f.g10⟩
instance:Co B "MOST_VERBS" zE:=⟨Y.y.ci Y.f.g11⟩
instance:Co B "MOST_WAYS" AZ:=⟨Y.y.ci Y.f.g12⟩
instance:Co B "MOST_WORDS" wz:=⟨Y.y.ci Y.f.g13⟩
instance:Co B "NO_NAMES" CT:=⟨Y.y.cs Y.f.g14⟩
instance:Co B "NO_WORDS" CU:=⟨Y.y.cs Y.f.g15⟩
instance:Co B "NO_WORDS_OF_ROWS" uG:=⟨Y.y.cs Y.f.g16⟩
instance:Ff B tf "copied_rules" := ⟨sZ (Y.f.k14.at 0 rfl)⟩
instance:Ff B G5 "form" := ⟨sZ (Y.f.k2.at 0 rfl)⟩
instance:Ff B Av "inner" := ⟨sZ (Y.f.k9.at 0 rfl)⟩
instance:Ff B xD "joining" := ⟨sZ (Y.f.k2.at 1 rfl)⟩
instance:Ff B yI "kept_dark" := ⟨sZ (Y.f.k14.at 1 rfl)⟩
instance:Ff B w9 "kept_things" := ⟨sZ (Y.f.k14.at 2 rfl)⟩
instance:Ff B xE "kept_verbs" := ⟨sZ (Y.f.k14.at 3 rfl)⟩
instance:Ff B pB "kind" := ⟨orQ (sZ (Y.f.k0.at 0 rfl)) (Y.f.k7.at 0 rfl)⟩
instance:Ff B uE "most" := ⟨sZ (Y.f.k1.at 0 rfl)⟩
instance:Ff B u5 "mosts_by_name" := ⟨sZ (Y.f.k14.at 4 rfl)⟩
instance:Ff B oX "name" := ⟨orQ (orQ (sZ (Y.f.k0.at 1 rfl)) (Y.f.k1.at 1 rfl)) (Y.f.k2.at 2 rfl)⟩
instance:Ff B Fu "one" := ⟨sZ (Y.f.k10.at 0 rfl)⟩
instance:Ff B Aw "other" := ⟨sZ (Y.f.k10.at 1 rfl)⟩
instance:Ff B y7 "others" := ⟨sZ (Y.f.k2.at 3 rfl)⟩
instance:Ff B Ax "place" := ⟨orQ (sZ (Y.f.k3.at 0 rfl)) (Y.f.k11.at 0 rfl)⟩
instance:Ff B tq "shared_rules" := ⟨sZ (Y.f.k14.at 5 rfl)⟩
instance:Ff B vQ "shared_verbs" := ⟨sZ (Y.f.k14.at 6 rfl)⟩
instance:Ff B qd "start" := ⟨orQ (sZ (Y.f.k0.at 2 rfl)) (Y.f.k1.at 2 rfl)⟩
instance:Ff B vR "term" := ⟨orQ (orQ (orQ (orQ (orQ (orQ (sZ (Y.f.k3.at 1 rfl)) (Y.f.k4.at 0 rfl)) (Y.f.k5.at 0 rfl)) (Y.f.k6.at 0 rfl)) (Y.f.k7.at 1 rfl)) (Y.f.k11.at 1 rfl)) (Y.f.k12.at 0 rfl)⟩
instance:Ff B uF "things_by_name" := ⟨sZ (Y.f.k14.at 7 rfl)⟩
instance:Ff B yq "value" := ⟨orQ (sZ (Y.f.k6.at 1 rfl)) (Y.f.k12.at 1 rfl)⟩
instance:Ff B G6 "verb" := ⟨sZ (Y.f.k13.at 0 rfl)⟩
instance:Ff B u6 "verbs_by_word" := ⟨sZ (Y.f.k14.at 8 rfl)⟩
instance:Ff B CQ "word" := ⟨sZ (Y.f.k8.at 0 rfl)⟩
instance:Ff B qN "words" := ⟨sZ (Y.f.k0.at 3 rfl)⟩
instance:Ff B tI "your_name" := ⟨sZ (Y.f.k14.at 9 rfl)⟩
instance:Af B 0 ["kind", "name", "start", "words"]:=⟨Y.f.k0⟩
instance:Af B 1 ["most", "name", "start"]:=⟨Y.f.k1⟩
instance:Af B 2 ["form", "joining", "name", "others"]:=⟨Y.f.k2⟩
instance:Af B 3 ["place", "term"]:=⟨Y.f.k3⟩
instance:Af B 4 ["term"]:=⟨Y.f.k4⟩
instance:Af B 5 ["term"]:=⟨Y.f.k5⟩
instance:Af B 6 ["term", "value"]:=⟨Y.f.k6⟩
instance:Af B 7 ["kind", "term"]:=⟨Y.f.k7⟩
instance:Af B 8 ["word"]:=⟨Y.f.k8⟩
instance:Af B 9 ["inner"]:=⟨Y.f.k9⟩
instance:Af B 10 ["one", "other"]:=⟨Y.f.k10⟩
instance:Af B 11 ["place", "term"]:=⟨Y.f.k11⟩
instance:Af B 12 ["term", "value"]:=⟨Y.f.k12⟩
instance:Af B 13 ["verb", "deeds", "refuses", "tests", "text"]:=⟨Y.f.k13⟩
instance:Af B 14 ["copied_rules", "kept_dark", "kept_things", "kept_verbs", "mosts_by_name", "shared_rules", "shared_verbs", "things_by_name", "verbs_by_word", "your_name", "kept_marks", "kept_rules", "kept_ways", "rules_by_verb"]:=⟨Y.f.k14⟩
instance:Ic B "At" VC:=⟨3,qc Y.f.i_At rfl (zC 16 _) (yA.at ⟨Y.f.k0.ci,Y.f.k1.ci,Y.f.k2.ci,Y.f.k3.ci,Y.f.k4.ci,Y.f.k5.ci,Y.f.k6.ci,Y.f.k7.ci,Y.f.k8.ci,Y.f.k9.ci,Y.f.k10.ci,Y.f.k11.ci,Y.f.k12.ci,Y.f.k13.ci,Y.f.k14.ci,Y.f.k15.ci,trivial⟩),Y.y.g Y.f.a3⟩
instance:Ic B "Both" IJ:=⟨10,qc Y.f.i_Both rfl (zC 16 _) (yA.at ⟨Y.f.k0.ci,Y.f.k1.ci,Y.f.k2.ci,Y.f.k3.ci,Y.f.k4.ci,Y.f.k5.ci,Y.f.k6.ci,Y.f.k7.ci,Y.f.k8.ci,Y.f.k9.ci,Y.f.k10.ci,Y.f.k11.ci,Y.f.k12.ci,Y.f.k13.ci,Y.f.k14.ci,Y.f.k15.ci,trivial⟩),Y.y.g Y.f.a10⟩
instance:Ic B "Has" NR:=⟨4,qc Y.f.i_Has rfl (zC 16 _) (yA.at ⟨Y.f.k0.ci,Y.f.k1.ci,Y.f.k2.ci,Y.f.k3.ci,Y.f.k4.ci,Y.f.k5.ci,Y.f.k6.ci,Y.f.k7.ci,Y.f.k8.ci,Y.f.k9.ci,Y.f.k10.ci,Y.f.k11.ci,Y.f.k12.ci,Y.f.k13.ci,Y.f.k14.ci,Y.f.k15.ci,trivial⟩),Y.y.g Y.f.a4⟩
instance:Ic B "Kind" IK:=⟨7,qc Y.f.i_Kind rfl (zC 16 _) (yA.at ⟨Y.f.k0.ci,Y.f.k1.ci,Y.f.k2.ci,Y.f.k3.ci,Y.f.k4.ci,Y.f.k5.ci,Y.f.k6.ci,Y.f.k7.ci,Y.f.k8.ci,Y.f.k9.ci,Y.f.k10.ci,Y.f.k11.ci,Y.f.k12.ci,Y.f.k13.ci,Y.f.k14.ci,Y.f.k15.ci,trivial⟩),Y.y.g Y.f.a7⟩
instance:Ic B "Mark" NS:=⟨1,qc Y.f.i_Mark rfl (zC 16 _) (yA.at ⟨Y.f.k0.ci,Y.f.k1.ci,Y.f.k2.ci,Y.f.k3.ci,Y.f.k4.ci,Y.f.k5.ci,Y.f.k6.ci,Y.f.k7.ci,Y.f.k8.ci,Y.f.k9.ci,Y.f.k10.ci,Y.f.k11.ci,Y.f.k12.ci,Y.f.k13.ci,Y.f.k14.ci,Y.f.k15.ci,trivial⟩),Y.y.g Y.f.a1⟩
instance:Ic B "Marked" CS:=⟨6,qc Y.f.i_Marked rfl (zC 16 _) (yA.at ⟨Y.f.k0.ci,Y.f.k1.ci,Y.f.k2.ci,Y.f.k3.ci,Y.f.k4.ci,Y.f.k5.ci,Y.f.k6.ci,Y.f.k7.ci,Y.f.k8.ci,Y.f.k9.ci,Y.f.k10.ci,Y.f.k11.ci,Y.f.k12.ci,Y.f.k13.ci,Y.f.k14.ci,Y.f.k15.ci,trivial⟩),Y.y.g Y.f.a6⟩
instance:Ic B "Move" NT:=⟨11,qc Y.f.i_Move rfl (zC 16 _) (yA.at ⟨Y.f.k0.ci,Y.f.k1.ci,Y.f.k2.ci,Y.f.k3.ci,Y.f.k4.ci,Y.f.k5.ci,Y.f.k6.ci,Y.f.k7.ci,Y.f.k8.ci,Y.f.k9.ci,Y.f.k10.ci,Y.f.k11.ci,Y.f.k12.ci,Y.f.k13.ci,Y.f.k14.ci,Y.f.k15.ci,trivial⟩),Y.y.g Y.f.a11⟩
instance:Ic B "Not" NU:=⟨9,qc Y.f.i_Not rfl (zC 16 _) (yA.at ⟨Y.f.k0.ci,Y.f.k1.ci,Y.f.k2.ci,Y.f.k3.ci,Y.f.k4.ci,Y.f.k5.ci,Y.f.k6.ci,Y.f.k7.ci,Y.f.k8.ci,Y.f.k9.ci,Y.f.k10.ci,Y.f.k11.ci,Y.f.k12.ci,Y.f.k13.ci,Y.f.k14.ci,Y.f.k15.ci,trivial⟩),Y.y.g Y.f.a9⟩
instance:Ic B "Put" RE:=⟨12,qc Y.f.i_Put rfl (zC 16 _) (yA.at ⟨Y.f.k0.ci,Y.f.k1.ci,Y.f.k2.ci,Y.f.k3.ci,Y.f.k4.ci,Y.f.k5.ci,Y.f.k6.ci,Y.f.k7.ci,Y.f.k8.ci,Y.f.k9.ci,Y.f.k10.ci,Y.f.k11.ci,Y.f.k12.ci,Y.f.k13.ci,Y.f.k14.ci,Y.f.k15.ci,trivial⟩),Y.y.g Y.f.a12⟩
instance:Ic B "Seen" IM:=⟨5,qc Y.f.i_Seen rfl (zC 16 _) (yA.at ⟨Y.f.k0.ci,Y.f.k1.ci,Y.f.k2.ci,Y.f.k3.ci,Y.f.k4.ci,Y.f.k5.ci,Y.f.k6.ci,Y.f.k7.ci,Y.f.k8.ci,Y.f.k9.ci,Y.f.k10.ci,Y.f.k11.ci,Y.f.k12.ci,Y.f.k13.ci,Y.f.k14.ci,Y.f.k15.ci,trivial⟩),Y.y.g Y.f.a5⟩
instance:Ic B "Thing" JZ:=⟨0,qc Y.f.i_Thing rfl (zC 16 _) (yA.at ⟨Y.f.k0.ci,Y.f.k1.ci,Y.f.k2.ci,Y.f.k3.ci,Y.f.k4.ci,Y.f.k5.ci,Y.f.k6.ci,Y.f.k7.ci,Y.f.k8.ci,Y.f.k9.ci,Y.f.k10.ci,Y.f.k11.ci,Y.f.k12.ci,Y.f.k13.ci,Y.f.k14.ci,Y.f.k15.ci,trivial⟩),Y.y.g Y.f.a0⟩
instance:Ic B "Word" IP:=⟨8,qc Y.f.i_Word rfl (zC 16 _) (yA.at ⟨Y.f.k0.ci,Y.f.k1.ci,Y.f.k2.ci,Y.f.k3.ci,Y.f.k4.ci,Y.f.k5.ci,Y.f.k6.ci,Y.f.k7.ci,Y.f.k8.ci,Y.f.k9.ci,Y.f.k10.ci,Y.f.k11.ci,Y.f.k12.ci,Y.f.k13.ci,Y.f.k14.ci,Y.f.k15.ci,trivial⟩),Y.y.g Y.f.a8⟩
instance:K0f B "Lit" 15:=⟨⟨Y.f.k15.mks,Y.f.n_Lit,Y.f.k15.kp⟩,Y.y.g Y.f.a15⟩
instance:Ij B 16:=⟨XY Y.f.nd⟩
theorem eqL{A:Type}{l:List A}{n:Nat}(h:l.length=n):l.length=n:=h
theorem eqE{e:PySem.Expr}{v:PySem.Env}{r:PySem.Sem PySem.Value}(h:PySem.eval e v=r):PySem.eval e v=r:=h
local macro_rules|`(tactic|trivial)=>do let x:=("Xj W6 W5 W7 W8 NK Xc Uj U0 W9 Uh U6 UZ TY TZ U1 U3 UV Uo UO Ur U7 T8 T9 Ua Ub T5 U4 Xd U8 T6 Ul Va Vc U2 Vn Uk Ui Ug TX Ux Uy Xa Ve Ud Ue Uc Xe Xf UE T2 T4 UF T7 Vk Vl Vm Vb Vd Vf Xb Up Uq Vg Vh UG Us Ut UK UL UM UN Vi Vj QA Qz QB UP UQ UR US Uw UT Uz UA UB UC UD Vt UJ UI UH Um UX UY Qy U9 VA Vy VB Vz Vx Uv Vu Uu Vp Vq Qx Vo U5".splitOn " ").toArray.map fun s=>Lean.mkIdent (.mkSimple s);`(tactic|repeat' first|(with_reducible intro _)|((with_reducible first|apply eqL|apply eqE);rfl)|kernel_rfl|((with_reducible first|apply UW|apply zr_cpM);rotate_left 7;rfl)|(with_reducible first $[|apply $x]*)|exact mK)
instance:Df B 1 "is_small_letters" (spF B.G rZ):=gF4 rfl Y.f.q17 rfl (by unfold uH;trivial)
instance:Df B 2 "is_name" (spF B.G yt):=gF4 rfl Y.f.q18 rfl (by unfold Ep;trivial)
instance:Df B 2 "is_word" (spF B.G sd):=gF4 rfl Y.f.q19 rfl (by unfold Er;trivial)
instance:Df B 1 "is_one_of" (spF B.G pK):=gF4 rfl Y.f.q20 rfl (by unfold A0;trivial)
instance:Df B 1 "is_whole" (spF B.G y8):=gF4 rfl Y.f.q21 rfl (by unfold CV;trivial)
instance:Df B 1 "is_list_up_to" (spF B.G qe):=gF4 rfl Y.f.q22 rfl (by unfold xa;trivial)
instance:Df B 1 "own_list" (spF B.G y9):=gF4 rfl Y.f.q23 rfl (by unfold CW;trivial)
instance:Kf B 1 "Thing" 0 zH []:=gJ4 (dds:=[D.non]) Y.f.k0 Y.f.a0 rfl Y.f.q24 rfl rfl (by unfold zG;trivial) 1
instance:Kf B 1 "Mark" 1 A4 []:=gI4 Y.f.k1 Y.f.a1 rfl Y.f.q25 rfl rfl (by unfold A3;trivial)
theorem w5:Bdz B (nmO (inClass (top 59) 0)) "Verb.__init__" (inClass (top 59) 0) (pf (inClass (top 59) 0)) 0 xI:=by
 unfold xI;refine NK ?_ ?_
 all_goals trivial
instance:Kf B 1 "Verb" 2 rl [D.non,(D.str "one"),D.non]:=gJ4 (dds:=[D.non,(D.str "one"),D.non]) Y.f.k2 Y.f.a2 rfl Y.f.q26 rfl rfl w5 0
instance:Kf B 1 "Verb" 2 rl [D.non]:=gJ4 (dds:=[D.non,(D.str "one"),D.non]) Y.f.k2 Y.f.a2 rfl Y.f.q26 rfl rfl w5 2
instance:Kf B 1 "Verb" 2 rl []:=gJ4 (dds:=[D.non,(D.str "one"),D.non]) Y.f.k2 Y.f.a2 rfl Y.f.q26 rfl rfl w5 3
instance:Kf B 1 "At" 3 vS []:=gI4 Y.f.k3 Y.f.a3 rfl Y.f.q27 rfl rfl (by unfold Es;trivial)
instance:Kf B 1 "Has" 4 uI []:=gI4 Y.f.k4 Y.f.a4 rfl Y.f.q28 rfl rfl (by unfold CY;trivial)
instance:Kf B 1 "Seen" 5 xJ []:=gI4 Y.f.k5 Y.f.a5 rfl Y.f.q29 rfl rfl (by unfold A5;trivial)
instance:Kf B 1 "Marked" 6 pN []:=gI4 Y.f.k6 Y.f.a6 rfl Y.f.q30 rfl rfl (by unfold yL;trivial)
instance:Kf B 1 "Kind" 7 qk []:=gI4 Y.f.k7 Y.f.a7 rfl Y.f.q31 rfl rfl (by unfold A6;trivial)
instance:Kf B 1 "Word" 8 va []:=gI4 Y.f.k8 Y.f.a8 rfl Y.f.q32 rfl rfl (by unfold A7;trivial)
instance:Kf B 1 "Not" 9 qq []:=gI4 Y.f.k9 Y.f.a9 rfl Y.f.q33 rfl rfl (by unfold CZ;trivial)
instance:Kf B 1 "Both" 10 xK []:=gI4 Y.f.k10 Y.f.a10 rfl Y.f.q34 rfl rfl (by unfold A8;trivial)
instance:Kf B 1 "Move" 11 ro []:=gI4 Y.f.k11 Y.f.a11 rfl Y.f.q35 rfl rfl (by unfold A9;trivial)
instance:Kf B 1 "Put" 12 r6 []:=gI4 Y.f.k12 Y.f.a12 rfl Y.f.q36 rfl rfl (by unfold Da;trivial)
instance:Kf B 2 "Rule" 13 xM []:=gJ4 (dds:=[(D.bl false)]) Y.f.k13 Y.f.a13 rfl Y.f.q37 rfl rfl (by unfold Ba;trivial) 1
instance:Mf B 9 "can_hold" pR:=⟨λc h e=>by
 unfold pR at e;split at e
 ·cases e;exact hF4 (k:=8) Y.f.k0 rfl Y.f.q38 rfl (by unfold vT;trivial)
 ·cases e⟩
instance:Mf B 9 "has_mark" qB:=⟨λc h e=>by
 unfold qB at e;split at e
 ·cases e;exact hF4 (k:=8) Y.f.k0 rfl Y.f.q39 rfl (by unfold vV;trivial)
 ·cases e⟩
instance:Mf B 9 "is_plainly" qC:=⟨λc h e=>by
 unfold qC at e;split at e
 ·cases e;exact hF4 (k:=8) Y.f.k0 rfl Y.f.q40 rfl (by unfold uJ;trivial)
 ·cases e⟩
instance:Df B 1 "refuse_unless" (spF B.G oE):=gF4 rfl Y.f.q41 rfl (by unfold xb;trivial)
instance:Df B 1 "count_of" (spF B.G wA):=gF4 rfl Y.f.q42 rfl (by unfold Dc;trivial)
instance:Df B 10 "plain_ones" (spN B.G rL):=gN4 rfl Y.f.q43 rfl (by unfold zI;trivial)
instance:Df B 2 "is_mark" (spF B.G AA):=gF4 rfl Y.f.q44 rfl (by unfold Ay;trivial)
instance:Df B 11 "check_things" (spF B.G uM):=gF4 rfl Y.f.q45 rfl (by unfold uL;trivial)
instance:Df B 3 "check_marks" (spF B.G vv):=gF4 rfl Y.f.q46 rfl (by unfold vt;trivial)
instance:Df B 1 "are_unlike" (spF B.G pV):=gF4 rfl Y.f.q47 rfl (by unfold zJ;trivial)
instance:Df B 3 "check_names" (spF B.G vA):=gF4 rfl Y.f.q48 rfl (by unfold vz;trivial)
instance:Df B 10 "mark_names" (spN B.G ue):=gN4 rfl Y.f.q49 rfl (by unfold zK;trivial)
instance:Df B 10 "is_start" (spF B.G zb):=gF4 rfl Y.f.q50 rfl (by unfold za;trivial)
instance:Df B 1 "comes_to_room" (spF B.G tW):=gF4 rfl Y.f.q51 rfl (by unfold xc;trivial)
instance:Df B 11 "check_starts" (spF B.G uO):=gF5 ["things", "starts", "thing"] rfl Y.f.q52 rfl (by unfold uN;trivial)
instance:Df B 3 "are_words" (spF B.G xO):=gF4 rfl Y.f.q53 rfl (by unfold xN;trivial)
instance:Df B 1 "has_all" (spF B.G yu):=gF4 rfl Y.f.q54 rfl (by unfold Et;trivial)
instance:Df B 2 "is_told_apart" (spF B.G tY):=gF4 rfl Y.f.q55 rfl (by unfold tX;trivial)
instance:Df B 11 "check_words_of_things" (spF B.G qE):=gF4 rfl Y.f.q56 rfl (by unfold qD;trivial)
instance:Df B 2 "check_dark" (spF B.G wC):=gF4 rfl Y.f.q57 rfl (by unfold wB;trivial)
instance:Df B 3 "is_way" (spF B.G De):=gF4 rfl Y.f.q58 rfl (by unfold Dd;trivial)
instance:Df B 4 "check_ways" (spF B.G uf):=gF4 rfl Y.f.q59 rfl (by unfold wD;trivial)
instance:Df B 2 "check_verbs" (spF B.G vB):=gF4 rfl Y.f.q60 rfl (by unfold yM;trivial)
instance:Df B 1 "are_apart" (spF B.G tQ):=gF4 rfl Y.f.q61 rfl (by unfold Bb;trivial)
instance:Df B 11 "check_vocabulary" (spF B.G qH):=gF4 rfl Y.f.q62 rfl (by unfold r9;trivial)
instance:Df B 12 "check_parts" (spF B.G vE):=gF4 rfl Y.f.q63 rfl (by unfold vC;trivial)
instance:Df B 4 "does" (spF B.G vF):=gF4 rfl Y.f.q64 rfl (by unfold NV;trivial)
instance:Df B 4 "refuses" (spF B.G pH):=gF4 rfl Y.f.q65 rfl (by unfold Eu;trivial)
instance:Df B 5 "hand_rules" (spN B.G zM):=gN4 rfl Y.f.q66 rfl (by unfold zL;trivial)
instance:Df B 5 "put_rules" (spN B.G Bd):=gN4 rfl Y.f.q67 rfl (by unfold Bc;trivial)
instance:Df B 5 "lid_rules" (spN B.G Bf):=gN4 rfl Y.f.q68 rfl (by unfold Be;trivial)
instance:Df B 5 "flame_rules" (spN B.G yO):=gN4 rfl Y.f.q69 rfl (by unfold yN;trivial)
instance:Df B 3 "way_tests" (spN B.G Bi):=gN4 rfl Y.f.q70 rfl (by unfold Bh;trivial)
instance:Df B 5 "go_rules" (spN B.G Dh):=gN4 rfl Y.f.q71 rfl (by unfold Dg;trivial)
instance:Df B 5 "wait_rules" (spN B.G zO):=gN4 rfl Y.f.q72 rfl (by unfold zN;trivial)
instance:Df B 6 "common_rules" (spN B.G rq):=gN4 rfl Y.f.q73 rfl (by unfold xP;trivial)
instance:Df B 3 "common_verbs" (spN B.G qF):=gN4 rfl Y.f.q74 rfl (by unfold xQ;trivial)
instance:Df B 1 "by_name" (spF B.G AC):=gF4 rfl Y.f.q75 rfl (by unfold AB;trivial)
instance:Df B 10 "mosts_by_name" (spF B.G qL):=gF4 rfl Y.f.q76 rfl (by unfold tZ;trivial)
instance:Df B 1 "verbs_by_word" (spF B.G qM):=gF4 rfl Y.f.q77 rfl (by unfold xf;trivial)
instance:Df B 1 "by_verb" (spF B.G vX):=gF4 rfl Y.f.q78 rfl (by unfold Ew;refine⟨Lh (stW (by kernel_rfl) B6 rfl) (LS mK rfl (Gp (Gd B.G.K (Ib (pvI (by kernel_rfl))))) (pgI (by kernel_rfl)) (ET (Jn (Mn B.G.K fX jr l4 Ad (Nj (pvI (by kernel_rfl)) (MB (Ib (pvI (by kernel_rfl))) (Ff.p (B:=B))) (L6 uA) ⟨rfl,rfl,rfl,rfl⟩) (qg (pvI (by kernel_rfl)) uA))))) (HI (PE.ghost (pvI (by kernel_rfl))))⟩)
instance:Mf B 9 "of_kind" qO:=⟨λc h e=>by
 unfold qO at e;split at e
 ·cases e;exact hF4 (k:=8) Y.f.k14 rfl Y.f.q79 rfl (by unfold xg;trivial)
 ·cases e⟩
instance:Mf B 9 "all_verbs" rV:=⟨λc h e=>by
 unfold rV at e;split at e
 ·cases e;exact hF4 (k:=8) Y.f.k14 rfl Y.f.q80 rfl (by unfold vc;trivial)
 ·cases e⟩
instance:Kf B 13 "World" 14 sI []:=gI4 Y.f.k14 Y.f.a14 rfl Y.f.q81 rfl rfl (by unfold sH;trivial)
instance:Mf B 9 "you" vY:=⟨λc h e=>by
 unfold vY at e;split at e
 ·cases e;exact hF4 (k:=8) Y.f.k14 rfl Y.f.q82 rfl (by unfold Bj;trivial)
 ·cases e⟩
instance:Mf B 9 "thing_of" pG:=⟨λc h e=>by
 unfold pG at e;split at e
 ·cases e;exact hF4 (k:=8) Y.f.k14 rfl Y.f.q83 rfl (by unfold vZ;trivial)
 ·cases e⟩
instance:Mf B 9 "is_dark" tJ:=⟨λc h e=>by
 unfold tJ at e;split at e
 ·cases e;exact hF4 (k:=8) Y.f.k14 rfl Y.f.q84 rfl (by unfold xh;trivial)
 ·cases e⟩
instance:Mf B 9 "most_of" qP:=⟨λc h e=>by
 unfold qP at e;split at e
 ·cases e;exact hF4 (k:=8) Y.f.k14 rfl Y.f.q85 rfl (by unfold xj;trivial)
 ·cases e⟩
instance:Df B 1 "value_of" (spF B.G uP):=gF4 rfl Y.f.q86 rfl (by unfold Di;trivial)
instance:Df B 2 "at_of" (spF B.G rN):=gF4 rfl Y.f.q87 rfl (by unfold J0;trivial)
instance:Df B 2 "mark_of" (spF B.G se):=gF4 rfl Y.f.q88 rfl (by unfold Ex;trivial)
instance:Df B 1 "with_part" (spF B.G vd):=gF4 rfl Y.f.q89 rfl (by unfold Bl;trivial)
instance:Df B 3 "holders_of" (spN B.G qI):=gN4 rfl Y.f.q90 rfl (by unfold zP;trivial)
instance:Df B 10 "room_of" (spF B.G sf):=gF4 rfl Y.f.q91 rfl (by unfold Ey;trivial)
instance:Df B 10 "is_shut" (spF B.G sj):=gF4 rfl Y.f.q92 rfl (by unfold EA;trivial)
instance:Df B 11 "in_open" (spF B.G sq):=gF4 rfl Y.f.q93 rfl (by unfold EB;trivial)
instance:Df B 10 "has" (spF B.G RG):=gF4 rfl Y.f.q94 rfl (by unfold RF;trivial)
instance:Df B 12 "burns_in" (spF B.G wF):=gF4 rfl Y.f.q95 rfl (by unfold Dk;trivial)
instance:Df B 13 "is_lit" (spF B.G zQ):=gF4 rfl Y.f.q96 rfl (by unfold G7;trivial)
instance:Df B 14 "is_seen" (spF B.G AD):=gF4 rfl Y.f.q97 rfl (by unfold EC;trivial)
instance:Mf B 9 "verb_of" vG:=⟨λc h e=>by
 unfold vG at e;split at e
 ·cases e;exact hF4 (k:=8) Y.f.k14 rfl Y.f.q98 rfl (by unfold xk;trivial)
 ·cases e⟩
instance:Df B 10 "is_of_way" (spF B.G xR):=gF4 rfl Y.f.q99 rfl (by unfold Bm;trivial)
instance:Df B 11 "things_of" (spF B.G rA):=gF4 rfl Y.f.q100 rfl (by unfold Bn;trivial)
instance:Df B 12 "meant" (spF B.G p6):=gF4 rfl Y.f.q101 rfl (by unfold yw;trivial)
instance:Df B 10 "at_parts" (spF B.G wG):=gF4 rfl Y.f.q102 rfl (by unfold zc;trivial)
instance:Df B 10 "mark_parts" (spF B.G rO):=gF4 rfl Y.f.q103 rfl (by unfold zR;trivial)
instance:Df B 11 "can_go" (spF B.G xS):=gF4 rfl Y.f.q104 rfl (by unfold Dl;trivial)
instance:Df B 11 "can_show" (spF B.G tu):=gF4 rfl Y.f.q105 rfl (by unfold Dm;trivial)
instance:Mf B 16 "holds" (pj 0):=⟨λc h e=>by
 unfold pj wJ at e;split at e
 ·cases e;exact hF4 (k:=15) Y.f.k3 rfl Y.f.q106 rfl (by unfold zd;trivial)
 ·cases e;exact hF4 (k:=15) Y.f.k4 rfl Y.f.q107 rfl (by unfold Bo;trivial)
 ·cases e;exact hF4 (k:=15) Y.f.k5 rfl Y.f.q108 rfl (by unfold zS;trivial)
 ·cases e;exact hF4 (k:=15) Y.f.k6 rfl Y.f.q109 rfl (by unfold uQ;trivial)
 ·cases e;exact hF4 (k:=15) Y.f.k7 rfl Y.f.q110 rfl (by unfold wI;trivial)
 ·cases e;exact hF4 (k:=15) Y.f.k8 rfl Y.f.q111 rfl (by unfold zV;trivial)
 ·cases e;exact hF4 (k:=15) Y.f.k15 rfl Y.f.q112 rfl (by unfold Bq;trivial)
 ·cases e⟩
instance:Mf B 17 "holds" (pj 1):=⟨λc h e=>by
 unfold pj at e;split at e
 ·cases e;exact hF4 (k:=16) Y.f.k9 rfl Y.f.q113 rfl (by unfold ve;trivial)
 ·cases e;exact hF4 (k:=16) Y.f.k10 rfl Y.f.q114 rfl (by unfold ug;trivial)
 ·exact(Mf.p (B:=B) (g:=pj 0) c h e).mono rfl⟩
instance:Mf B 18 "holds" (pj 2):=⟨λc h e=>by
 unfold pj at e;split at e
 ·cases e;exact hF4 (k:=17) Y.f.k9 rfl Y.f.q113 rfl (by unfold ve;trivial)
 ·cases e;exact hF4 (k:=17) Y.f.k10 rfl Y.f.q114 rfl (by unfold ug;trivial)
 ·exact(Mf.p (B:=B) (g:=pj 0) c h e).mono rfl⟩
instance:Mf B 19 "holds" (pj 3):=⟨λc h e=>by
 unfold pj at e;split at e
 ·cases e;exact hF4 (k:=18) Y.f.k9 rfl Y.f.q113 rfl (by unfold ve;trivial)
 ·cases e;exact hF4 (k:=18) Y.f.k10 rfl Y.f.q114 rfl (by unfold ug;trivial)
 ·exact(Mf.p (B:=B) (g:=pj 0) c h e).mono rfl⟩
instance:Mf B 14 "done" uR:=⟨λc h e=>by
 unfold uR at e;split at e
 ·cases e;exact hF4 (k:=13) Y.f.k11 rfl Y.f.q115 rfl (by unfold vg;trivial)
 ·cases e;exact hF4 (k:=13) Y.f.k12 rfl Y.f.q116 rfl (by unfold wK;trivial)
 ·cases e⟩
instance:Mf B 9 "told" (oU 0):=⟨λc h e=>by
 unfold oU xV at e;split at e
 ·cases e;exact hF4 (k:=8) Y.f.k3 rfl Y.f.q117 rfl (by unfold ED;trivial)
 ·cases e;exact hF4 (k:=8) Y.f.k4 rfl Y.f.q118 rfl (by unfold Dn;trivial)
 ·cases e;exact hF4 (k:=8) Y.f.k5 rfl Y.f.q119 rfl (by unfold Bs;trivial)
 ·cases e;exact hF4 (k:=8) Y.f.k6 rfl Y.f.q120 rfl (by unfold yP;trivial)
 ·cases e;exact hF4 (k:=8) Y.f.k7 rfl Y.f.q121 rfl (by unfold Bt;trivial)
 ·cases e;exact hF4 (k:=8) Y.f.k8 rfl Y.f.q122 rfl (by unfold Bu;trivial)
 ·cases e;exact hF4 (k:=8) Y.f.k11 rfl Y.f.q124 rfl (by unfold Bv;trivial)
 ·cases e;exact hF4 (k:=8) Y.f.k12 rfl Y.f.q125 rfl (by unfold Dp;trivial)
 ·cases e;exact hF4 (k:=8) Y.f.k15 rfl Y.f.q123 rfl (by unfold Do;trivial)
 ·cases e⟩
instance:Mf B 10 "told" (oU 1):=⟨λc h e=>by
 unfold oU at e;split at e
 ·cases e;exact hF4 (k:=9) Y.f.k9 rfl Y.f.q126 rfl (by unfold wN;trivial)
 ·cases e;exact hF4 (k:=9) Y.f.k10 rfl Y.f.q127 rfl (by unfold vm;trivial)
 ·exact(Mf.p (B:=B) (g:=oU 0) c h e).mono rfl⟩
instance:Mf B 11 "told" (oU 2):=⟨λc h e=>by
 unfold oU at e;split at e
 ·cases e;exact hF4 (k:=10) Y.f.k9 rfl Y.f.q126 rfl (by unfold wN;trivial)
 ·cases e;exact hF4 (k:=10) Y.f.k10 rfl Y.f.q127 rfl (by unfold vm;trivial)
 ·exact(Mf.p (B:=B) (g:=oU 0) c h e).mono rfl⟩
instance:Mf B 12 "told" (oU 3):=⟨λc h e=>by
 unfold oU at e;split at e
 ·cases e;exact hF4 (k:=11) Y.f.k9 rfl Y.f.q126 rfl (by unfold wN;trivial)
 ·cases e;exact hF4 (k:=11) Y.f.k10 rfl Y.f.q127 rfl (by unfold vm;trivial)
 ·exact(Mf.p (B:=B) (g:=oU 0) c h e).mono rfl⟩
instance:Df B 1 "test_of" (spF B.G (qQ 0)):=gF4 (k:=0) rfl Y.f.q128 rfl (by trivial)
instance:Df B 3 "test_of" (spF B.G (qQ 1)):=gF4 (k:=2) rfl Y.f.q128 rfl (by unfold tE;trivial)
instance:Df B 4 "test_of" (spF B.G (qQ 2)):=gF4 (k:=3) rfl Y.f.q128 rfl (by unfold tE;trivial)
instance:Df B 5 "test_of" (spF B.G (qQ 3)):=gF4 (k:=4) rfl Y.f.q128 rfl (by unfold tE;trivial)
instance:Df B 6 "test_of" (spF B.G (qQ 4)):=gF4 (k:=5) rfl Y.f.q128 rfl (by unfold tE;trivial)
instance:Df B 3 "deed_of" (spF B.G AE):=gF4 rfl Y.f.q129 rfl (by unfold EE;trivial)
instance:Df B 1 "_law_cell_at" (spF B.G sL):=gF4 rfl Y.f.q130 rfl (by unfold xW;trivial)
instance:Df B 1 "_law_draws" (spN B.G sM):=gN4 rfl Y.f.q131 rfl (by unfold zX;trivial)
instance:Df B 1 "_law_take" (spM B.G n8):=gM4 rfl Y.f.q132 rfl rfl (by unfold Bw;trivial)
instance:Df B 2 "_law_names" (spM B.G wU):=gM4 rfl Y.f.q133 rfl rfl (by unfold wQ;trivial)
instance:Df B 2 "_law_others" (spL B.G qR):=gL4 rfl Y.f.q134 rfl (by unfold tK;trivial)
instance:Df B 3 "_law_spec" (spF B.G xY):=gF4 rfl Y.f.q135 rfl (by unfold xX;trivial)
instance:Df B 1 "_law_ways" (spN B.G ya):=gN4 rfl Y.f.q136 rfl (by unfold xZ;trivial)
instance:Df B 15 "_law_world" (spF B.G wW):=gF4 rfl Y.f.q137 rfl (by unfold wV;trivial)
instance:Df B 1 "_law_of" (spN B.G pY):=gN4 rfl Y.f.q138 rfl (by unfold EF;trivial)
instance:Df B 2 "_law_mosts" (spF B.G pO):=gF4 rfl Y.f.q139 rfl (by unfold wX;trivial)
instance:Df B 2 "_law_places" (spL B.G rU):=gL4 rfl Y.f.q140 rfl (by unfold tL;trivial)
instance:Df B 3 "_law_marks" (spL B.G ui):=gL4 rfl Y.f.q141 rfl (by unfold uh;trivial)
instance:Df B 1 "_law_stand" (spF B.G uj):=gF4 rfl Y.f.q142 rfl (by unfold zY;trivial)
instance:Df B 2 "_law_command" (spL B.G rB):=gL4 rfl Y.f.q143 rfl (by unfold sN;trivial)
instance:Df B 1 "_law_form" (spF B.G vo):=gF4 rfl Y.f.q144 rfl (by unfold Bx;trivial)
instance:Df B 2 "_law_term" (spL B.G rD):=gL4 rfl Y.f.q145 rfl (by unfold tR;trivial)
instance:Df B 2 "_law_place" (spL B.G uo):=gL4 rfl Y.f.q146 rfl (by unfold um;trivial)
instance:Df B 3 "_law_marked" (spL B.G qS):=gL4 rfl Y.f.q147 rfl (by unfold tM;trivial)
instance:Dj B 1 "_law_asked" 2 (oY 0):=⟨gJ5 (k:=0) rfl (by decide) Y.f.q148 rfl (by trivial)⟩
instance:Dj B 4 "_law_asked" 2 (oY 1):=⟨gJ5 (k:=3) rfl (by decide) Y.f.q148 rfl (by unfold pW;trivial)⟩
instance:Dj B 5 "_law_asked" 2 (oY 2):=⟨gJ5 (k:=4) rfl (by decide) Y.f.q148 rfl (by unfold pW;trivial)⟩
instance:Dj B 6 "_law_asked" 2 (oY 3):=⟨gJ5 (k:=5) rfl (by decide) Y.f.q148 rfl (by unfold pW;trivial)⟩
instance:Dj B 7 "_law_asked" 2 (oY 4):=⟨gJ5 (k:=6) rfl (by decide) Y.f.q148 rfl (by unfold pW;trivial)⟩
instance:Df B 1 "_law_test" (spF B.G (ql 0)):=gF4 (k:=0) rfl Y.f.q149 rfl (by trivial)
instance:Df B 3 "_law_test" (spF B.G (ql 1)):=gF4 (k:=2) rfl Y.f.q149 rfl (by unfold rE;trivial)
instance:Df B 4 "_law_test" (spF B.G (ql 2)):=gF4 (k:=3) rfl Y.f.q149 rfl (by unfold rE;trivial)
instance:Df B 5 "_law_test" (spF B.G (ql 3)):=gF4 (k:=4) rfl Y.f.q149 rfl (by unfold rE;trivial)
instance:Df B 6 "_law_test" (spF B.G (ql 4)):=gF4 (k:=5) rfl Y.f.q149 rfl (by unfold rE;trivial)
instance:Df B 3 "_law_moved" (spL B.G sO):=gL4 rfl Y.f.q150 rfl (by unfold uq;trivial)
instance:Df B 4 "_law_put" (spL B.G wY):=gL4 rfl Y.f.q151 rfl (by unfold tG;trivial)
instance:Df B 1 "_law_same" (spF B.G tS):=gF4 rfl Y.f.q152 rfl (by unfold By;trivial)
instance:Df B 20 "_law_test_right" (spF B.G qX):=gF4 rfl Y.f.q153 rfl (by unfold sP;trivial)
instance:Df B 15 "_law_deed_right" (spF B.G qZ):=gF4 rfl Y.f.q154 rfl (by unfold qY;trivial)
theorem OA:Bdz B (nmO (top 168)) "law" (top 168) (pf (top 168)) 20 NW:=by
 unfold NW;refine NK ?_ ?_
 all_goals trivial
end
end K29x
namespace K29x
open PySem L2 L3 L4
def Kp(K:aw):Sp:=λvs H Q _=>∃(a:Addr) (ns:List Int),vs=[.ref a]/\SqL K H a (ns.map V.int)/\ns.length<=63/\∀H',Q (.bl true) H'
theorem EO{G:Bg}{H:Hp}:∀ns:List Int,oh G H (ns.map D.int) (ns.map V.int)
 |[]=>oZ
 |n::ns=>oW (qT n) (EO ns)
theorem Rf{G:Bg}:∀vs H Q E,Kp G.K vs H Q E->spF G RH vs H Q E:=λvs H Q E h=>by obtain⟨a,ns,rfl,hs,hl,k⟩:=h;refine⟨H,[.fzl (ns.map D.int)],.bl true,oB.refl _,oW (by unfold L4.Rep;exact⟨a,_,rfl,hs,EO ns⟩) oZ,VZ ns hl,λv H0' H' _ _ _ _ r=>?_⟩;unfold L4.Rep at r;subst r;exact k H'
section
variable{K:aw}{x m q:Str}{st:Stmt}{f C:Addr}{oc:ae}{od:Option Addr}{kV doc pm:ae}{an:Option Addr}{cdv ct:ae}{osl:Array (Option ae)}
theorem OB(lk:K.lookup f=some ⟨oc,od,.func (dq x q (sv st) (pf st) (oJ st) .none kV doc pm an cdv ct),osl⟩)(hc:fz K cdv q=true)(kp:c7 K (.ref f)=true):∃fd,Fun K x q st f fd:=⟨_,⟨_,_,_,_,_,_,_,_,_,rfl,lk,hc⟩,kp⟩
theorem gd_mk(h:gu K mainGlobals x=some (some (.ref f)))(lk:K.lookup f=some ⟨oc,od,.func (dq x x (sv st) (pf st) (oJ st) .none kV doc pm an cdv ct),osl⟩)(hc:fz K cdv x=true)(kp:c7 K (.ref f)=true):GD K x st:=⟨f,(OB lk hc kp).imp λ_ F=>⟨h,F⟩⟩
theorem gm_mk(h:cv K (.ref C) m=some (some (.ref f)))(hf:W.isFn K (.ref f)=true)(lk:K.lookup f=some ⟨oc,od,.func (dq m q (sv st) (pf st) (oJ st) .none kV doc pm an cdv ct),osl⟩)(hc:fz K cdv q=true)(kp:c7 K (.ref f)=true):GM K C m q st:=⟨f,(OB lk hc kp).imp λ_ F=>⟨h,hf,F⟩⟩
end
theorem all_mk{l:fA}{w:aI}{K:aw}{h:Heap}{mg:Str->Option ae}{fa:Addr}(X:K.In h)(Gn:h.Ns mainGlobals mg)(hfa:mg "law" = some (.ref fa)){C0 C1 C2 C3 C4 C5 C6 C7 C8 C9 C10 C11 C12 C13 C14 C15:Addr}(F:Fx K C0 C1 C2 C3 C4 C5 C6 C7 C8 C9 C10 C11 C12 C13 C14 C15):
  ∃fd:bW,(∀(s:af) (v:ae),fC s fd ⟨[v],[]⟩ [("_law_script", v)])/\∀base:Heap,K.In base->base.Ns mainGlobals mg->su l.prog w K mg base CX0 21 fa fd ["_law_script"] (Kp K):=by
 have gen:∃B:Bg,B.K=K/\B.ca 0=C0/\B.ca 1=C1/\B.ca 2=C2/\B.ca 3=C3/\B.ca 4=C4/\B.ca 5=C5/\B.ca 6=C6/\B.ca 7=C7/\B.ca 8=C8/\B.ca 9=C9/\B.ca 10=C10/\B.ca 11=C11/\B.ca 12=C12/\B.ca 13=C13/\B.ca 14=C14/\B.ca 15=C15:=⟨⟨K,λc=>[C0,C1,C2,C3,C4,C5,C6,C7,C8,C9,C10,C11,C12,C13,C14,C15].getD c 0⟩,rfl,rfl,rfl,rfl,rfl,rfl,rfl,rfl,rfl,rfl,rfl,rfl,rfl,rfl,rfl,rfl,rfl⟩;obtain⟨B,rfl,rfl,rfl,rfl,rfl,rfl,rfl,rfl,rfl,rfl,rfl,rfl,rfl,rfl,rfl,rfl,rfl⟩:=gen;have Z:∀base,Yx ⟨l.prog,w,mg,base,B⟩:=λbase=>⟨⟨h,X,Gn⟩,F⟩;obtain⟨f,fd,a,FF⟩:=F.q155;have e:=hfa.symm.trans (iH X Gn a);cases e;obtain⟨oc,od,kV,doc,pm,an,cdv,ct,osl,rfl,lk,hcd⟩:=FF.ex;exact⟨_,λs v=>.of_eq rfl,λbase _ _=>(MU rfl rfl rfl FF (okk (N:=nmO (top 168)) (ps:=["_law_script"]) (np:=1) (n:=10) (by kernel_rfl)).1 ((@OA _ (Z base)).ok rfl _)).imp (Rf (G:=B))⟩
theorem walk{l:fA}{q:aS}{loose:aB}{XP:(Str->Option ae)->Heap->Prop}{YP:aI->Heap->Prop}{d:DefRec}{K:Params->aw}(hn:l.most=some 63)(hdf:d.params.defaults=[])
  (hY:∀(w:aI) (h:Heap),YP w h->(K w.params).In h)
  (F:∀(w:aI) (mg:Str->Option ae) (fa:Addr) (h:Heap),(K w.params).In h->h.Ns mainGlobals mg->mg d.name=some (.ref fa)->
   ∃fd:bW,(∀(s:af) (u:ae),fC s fd ⟨[u],[]⟩ [("_law_script", u)])/\∀base:Heap,(K w.params).In base->base.Ns mainGlobals mg->su l.prog w (K w.params) mg base CX0 21 fa fd ["_law_script"] (Kp (K w.params))):
  W.WalkO q loose XP YP l.row.toRowW d [] (λf vs=>kj f vs):=
 L2.O7 (n:=63) (k:=21) (x:="_law_script") (CX:=λ_=>CX0) (sp:=λw=>Kp (K w.params)) hn (by decide) hdf ⟨rfl,by decide,by decide⟩ hY F (λ_ _ a ns hl _ hS=>⟨a,ns,rfl,hS,hl,λ_=>rfl⟩) λ_ _ _ _ _ z=>z
end K29x
set_option maxHeartbeats 0
open PySem PySem.W PyProof.Rows
theorem PySem.Challenge.cw_tellworld_k29_tests_and_deeds_told_holds : PySem.Challenge.rw_tellworld_k29_tests_and_deeds_told.Holds := by
 refine hd ?_
 k_fill
 refine K29x.walk (l:=PySem.Challenge.rw_tellworld_k29_tests_and_deeds_told) rfl rfl (λw h Y=>Y) ?F
 case F=>
  intro w mg fa h KX G hmg;refine' K29x.all_mk KX G hmg ?Q
  case Q=>
   constructor
   all_goals as_aux_lemma=>first
   |k_is
   |kernel_rfl
   |exact⟨⟨⟨by k_is,by k_is,by k_is,by k_is⟩,by k_is,by k_is,by k_is,by k_is⟩,by k_is,by k_is,by kernel_rfl⟩
   |exact⟨_,by k_is⟩
   |exact K29x.gd_mk (by k_is) (by k_is) (by k_is) (by k_is)
   |exact K29x.gm_mk (by k_is) (by k_is) (by k_is) (by k_is) (by k_is)
   |exact⟨_,_,_,_,by k_is,by k_is,by rfl,by rfl,by simp,by repeat' first|exact .nil|exact .cons rfl .nil|refine .cons rfl ?_⟩
   |exact⟨_,_,_,_,[_],_,by k_is,by k_is,⟨⟨_,_,_,_,_,_,_,_,_,rfl,by k_is,by k_is⟩,by k_is⟩,by k_is,by rfl,.cons (by first|rfl|exact⟨_,rfl⟩) .nil⟩
   |exact⟨_,_,_,_,[_,_,_],_,by k_is,by k_is,⟨⟨_,_,_,_,_,_,_,_,_,rfl,by k_is,by k_is⟩,by k_is⟩,by k_is,by rfl,.cons (by first|rfl|exact⟨_,rfl⟩) (.cons (by first|rfl|exact⟨_,rfl⟩) (.cons (by first|rfl|exact⟨_,rfl⟩) .nil))⟩
end
