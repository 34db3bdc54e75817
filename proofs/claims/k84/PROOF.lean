import PyProof.Rows.All
import Open.Pieces
import OpenK.KLine
import PySem.Challenge.RW_tellworld_k84_worlds_written
import PyProof.EqAt
import PyProof.EqKinds
import PyProof.TupleCall
import PyProof.StrWalks
import PyProof.ConsumeWalk
import PyProof.NeKinds
import PyProof.Rows.SetFrom
import KE.KIsAll
import PyProof.WalksMore
import PyProof.TupleKey
import PyProof.DictWalks
import PyProof.Rows.ZipGen
import KE.KDictLaws
import PyProof.DictItems
import KE.KSortTup
import PyProof.TupleOfSeq
import PyProof.Rows.SortStr
import PyProof.Rows.StrInSeq3
import PyProof.TupleIter
import KE.KDictOf
import PyProof.CollectWalk
import PyProof.Rows.SeqMore
import PyProof.IsiH_tuple
import PyProof.AttrMiss
import PyProof.Rows.Tup
import PyProof.WalksS
import PyProof.DictRoadsH
import PyProof.EnumIter
import PyProof.EnumFor
import PyProof.EnumMake
import PyProof.EnumStmt
import PyProof.Rows.StrJoin2
import PyProof.AutoSeq1
set_option genSizeOf false
local macro_rules (kind:=Lean.Parser.Command.declaration)|s=>do
 if s.getPos?.isNone||s[1][1][0].getId.getRoot== `PySem then Lean.Macro.throwUnsupported
 let s:=s.rewriteBottomUp (·.setInfo .none)
 if s[1].getKind∈[``Lean.Parser.Command.definition,``Lean.Parser.Command.abbrev,``Lean.Parser.Command.instance]&&s[0][4].isNone then
  return s.setArg 0 (s[0].setArg 4 (Lean.mkNullNode #[Lean.Syntax.node .none ``Lean.Parser.Command.noncomputable #[Lean.mkAtom "noncomputable"]]))
 return s
set_option compiler.extract_closed false
noncomputable section
open Option renaming some->Z,none->U
open Bool renaming true->γ,false->δ
def J{b:Sort _}{a:b}:a=a:=rfl
open List renaming length_map->ae,length_append->au,all_eq_true->aC,length_cons->aF,getElem?_eq_getElem->bb,map_append->aJ,mem_cons_of_mem->aY,mem_map->az,mem_cons_self->bc,range->av,size_toArray->aZ,mem_append_right->bA,mem_cons->aN,mem_append_left->bB,map_cons->aR,mem_append->ba,getElem?_map->bp,map_map->aP,mem_map_of_mem->bF,mem_filter->bg,getElem?_eq_some_iff->bZ,mem_range->bz,mem_of_getElem?->bU,getD_eq_getElem?_getD->cp,length_range->bL,append_assoc->bO,append_nil->bI,mem_singleton->bV,not_mem_nil->bS,getElem?_set->b8,length_take->b9,length_replicate->cR,length_filter_le->cU,nodup_append->cq,length_singleton->c3,length_nil->cu,nil_append->cv,getElem?_append_right->eh,getElem?_append_left->eA,flatMap_cons->c7,getElem?_drop->dt,filterMap_cons->dH,zip_cons_cons->dO,length_drop->dP,lookup_cons->dQ,length_eq_zero_iff->fZ,find?_cons->dS,length_set->dW,getElem?_set_self->f6,map_nil->c9,zipWith_cons_cons->f9,lookup->c5,length->c6,mem_flatMap->eE,getElem?_eq_none->gb,drop_eq_getElem_cons->hZ,nodup_cons->eG,zipWith->dw,take_add_one->fC,getElem?_replicate->ib,any_eq_true->fF,map_id->dy,take_of_length_le->ie,length_zip->fG,map->cP,any_cons->eK,perm_append_singleton->jo,getElem_mem->gv,all_cons->fK,mem_filterMap->ik,filter_cons_of_pos->js,take_sublist->iu,contains_iff_mem->ju,take_append_drop->jv,getElem_inj->iA,filter_cons->iB,flatMap_nil->iC,take_length->iF,getElem?_set_ne->jx,mem_of_mem_take->jz,of_mem_zip->iG,foldl_cons->iJ,range_succ->iK,getElem?_range->jB,length_zipWith->jC,getElem_of_mem->jD,filter_sublist->jF,take_sublist_take_left->kW,replicate->iP,map_drop->iQ,map_take->iU,filter_cons_of_neg->lq,cons_append->jR,drop_eq_nil_of_le->lE,length_pos_of_mem->lG,zip_append->jV,getElem?_toArray->lN,filterMap_append->lQ,mem_iff_getElem->lY,mem_of_mem_drop->l7,take_zero->j1,filter_eq_self->mj,length_pos_iff->mn,zip_map'->j8,contains_cons->mB,ext_getElem?->mJ,any_eq_false->mK,pairwise_map->mO,nodup_range->mZ,cons_ne_nil->m9,nodup_nil->nJ,drop_nil->nU,all_map->n4,set_set->oa,rec->oF
open Nat renaming le_of_ble_eq_true->aH,mod_lt->aD,le_refl->aK,le_trans->bf,ne_of_lt->bu,lt_of_lt_of_le->cf,zero_le->cb,one_le_two_pow->eB,lt_succ_of_lt->eC,lt_succ_self->fE,lt_irrefl->fJ,ble->cQ,min_eq_left->gz,lt_of_le_of_lt->iq,ble_eq->d4,le_of_lt->fL,min_self->fP,mul_le_mul_right->jA,not_lt_zero->iM,zero_add->gA,add_right_comm->jH,pow_succ->iV,mod_add_mod->jX,le_succ->iW,eq_zero_or_pos->mI,ne_of_gt->ka,succ_pos->kq,le_of_lt_succ->mQ,le_of_not_lt->mW,le_add_right->m7,succ_le_succ->m8,beq->gH,mul_le_mul->nL,le_of_eq->nY,sub_self->nZ,add_mul->oA
open PySem renaming Value->ab,wpAny_bind->aq,Shared->af,wpAny_pure->aA,mainGlobals->aQ,starEach->aw,sizeLine->aB,wpAny->ah,Program->aI,compareOp->bh,World->ay,Around->aM,Spec->qV,wpAny_truthy_bool->c4,wpAny_mono->cg,sizeLine_eq->cw,FuncData->bP,wpAny_Call_Name_kw->dM,backTo->bC,keywordEach->cW,assignEach->cN,binaryOp->cj,bootBuiltins->c8,attributeBase->du,sysModules->cX,wpAny_holding->dZ,mem_of_lookup->gj,swapsWith->cY,codeAny->cn,codeAny_builtin->fH,SetTable->cO,behindInMarks->eJ,wpAny_pyIter_list->gk,foldedSetIterable->gm,wpAny_newObj_type->gp,ofAClassStatement->gq,wpAny_setState_of->gu,letOwnedTupleGo->gx,wpAny_passesOwn->gy,tupleKind_room_in1->ip,codeAny_mono->fN,NameKind->dg,call_meetsIn->fO,wpAny_Call_method->iw,wpAny_specialOf->iH,Scope->cz,Paired->eO,GenState->eQ,noFill_tuple_add->jN,wpAny_forIn_list->jP,Keyword->d5,call_meets->gE,wpAny_execs_nil->jS,wpAny_isTrue_Compare1->lK,wpAny_eqIsQuiet_tuple->lO,carriedByValue->jY,codeAny_call_builtin->lZ,typeIs_none->iX,seq_tuple_add->j5,plainId_quiet->j6,wpAny_pyIter_tuple->mx,wpAny_call->iZ,IsPart->d7,PlainAttrs->i4,Within->j9,BindsTo->fT,concat_meets->km,slot_list_getitem->mL,wpAny_storeSet_of->mS,wpAny_execs_cons->mT,Result->eU,wpAny_call_entry->mV,wpAny_field->ky,codeAny_of_tree->nh,wpAny_Name->kz,meets_dict_get->nE,call->kC,wpAny_seqItems->nF,isSubtype_type->nG,boot_len->nI,KeyKind->nP,intBits_le_64->nQ,evalPart_none->nR,call_list_seq->nS,wpAny_standAt->nT,PassesOwn->kE
open PySem.Heap renaming get?_push_of_some->aX,get?_push_size->bH,lt_size->aV,size_push->eI,SameBut->fM
open Bool renaming and_eq_true->aT,false_ne_true->br,not_eq_true'->eD,eq_iff_iff->dR,false_eq_true->ir,eq_false_iff->iy,or_eq_false_iff->jy,or_eq_true->iI,not_eq_true->mY,and_false->nD,rec->kI
open PySem.W renaming Frag->ao,kia_one->cy,emptyDict->dc,findIn->cH,kitOne->cI,instObj->dA,keepIn->de,kitx_dict->fQ,kitx_list->gB,fnOf->dD,codeIn->fR,OpenLaw->fS,plainGet_of->j3,callWith_K0->j4,plainGet->iY,kitx_tuple->kc,callWith_K->kj,cellsFrom_some->mU,methodObj->ku,hasDictIn->kx,methodCall_KW->ng,mg_of->gM,lookIn->i7,looks_findIn->ny,makes_of->kD,takerIn->kF,makesIn->kG,nsIn->gO,plainOver->oh,make_core->oi,specialIn->oj,kitx_none->om,kitx_bool->oo,isFn->i9
open Array renaming length_toList->cK,getD_eq_getD_getElem?->fw,getElem?_eq_getElem->jr,getElem?_toList->jt,toList_append->jG,getElem?_eq_some_iff->la,forIn_toList->mC,replicate->nu,size_map->nN,toList->nX
open Option.some renaming inj->cF,injEq->qQ
open PySem.SetTable.layClean renaming free->dq
open PySem.SetTable renaming bits->cG,runEnd->dX,Probe->dY,turns->fI,insertAt->iz,fits->iR,advance->jQ,insertAt_perm->lI,grown->jZ,fill->j7,layClean->mR,below->nM,laid->nW,has->n9
open PySem.Calls renaming spliced_cons->dJ,callWith_builtin->fA,spliced_nil->fB,evalArgs_plain->gf,Name_function_global->kX
open PyProof.Rows.F renaming plain_set_update_loop->fz,entry_set_update_loop->ic
open Prod renaming fst->cc,snd->cm
open PySem.Builtin.List renaming listTooLong->fY
open False renaming elim->cM
open PySem.F renaming slot_dict_get->dU,plainAttrs_list->fD,called_set->d3,slot_NoneType_hash->ig,entry_dict_get->gw,slot_list_extend->il,plainAttrs_dict->ix,args_tuple_add_2->jI,slot_list_append->jJ,entry_tuple_add->jL,args_dict_get_2->jM,slot_tuple_add->jO,slot_dict_setdefault->lF,type_dict_get->jU,args_list_extend_2->lS,sub_list_frozenset->l6,entry_list_extend->mh,type_list_append->mE,type_list_extend->mF,slot_list_insert->mG,slot_list_clear->mM,args_dict_get_3->mN,plain_set_new->ni,sub_list_set->nH
open PyProof.Rows renaming slot_tuple_getitem->hU,AllBare->dB,subscriptTail_builtinR->lA,boot_isinstance->jW,IntsAre->gL,slicePart_none->nz,Subscript_->kA,ext_toList->qf,StrsAre->qA,IsTup->gQ
open Option renaming map_eq_some_iff->f7,map_some->eF,isSome_iff_exists->lg,getD_some->mX
open PySem.Builtin.Slice renaming slicePlaces->hX,sliceAdjust->jq,sliceApplied->kZ,slicePartIndex->pA,sliceFields->pT
open PySem.Around renaming under_plainId->gh,under->kg
open PySem.Builtin.Tuple renaming tupleExact->ia,tupleItemsOf->pE
open Int renaming toNat_natCast->gn,emod_nonneg->iN,fdiv_eq_ediv_of_nonneg->kY,eq_ofNat_of_zero_le->lu,emod_lt_of_pos->mH
open PySem.SetTable.probe renaming go->gr
open PySem.Heap.SameBut renaming update->jE
open LawfulBEq renaming eq_of_beq->eL
open PySem.Builtin renaming bitAnd->iO
open PySem.SeqAt.EqAt renaming of_refs->jK,same->jT,none_int->l8,none_str->l9,int_none->ma,str_none->mf,int_str->mr,str_int->mw,tuple_none->qg,tuple_bool->qh,tuple_list->qj,list_tuple->qk,none_tuple->ql,bool_tuple->qm,none_bool->qo,bool_none->qp,bool_bool->qq,tuple_int->qr,tuple_str->qt,list_none->qu,list_bool->qv,none_list->qw,bool_list->qx,int_tuple->qy,str_tuple->qz,bool_int->qB,bool_str->qC,int_bool->qD,str_bool->qE,list_int->qF,list_str->qG,int_list->qH,str_list->qI,int_int->qL,str_str->qM
open Classical renaming byContradiction->lb,axiomOfChoice->ly
open PySem.AutoSeq1 renaming wpAny_loadPart'->lh
open PySem.SeqAt renaming eq_list_lengthsAt->lj,EqAt->i3
open Ne renaming symm->eS
open PySem.Paired renaming length->j2,snoc->ot
open PySem.Walks renaming list->i6
open PySem.Code renaming isFrame->kh,frames->oq
open Nat.succ renaming inj->ko
open PySem.Txt renaming join->gG,mul->i8
open Sum.inr renaming inj->kr
open PySem.Builtin.Frozenset renaming updateFrom->pC,newClass->pG
open PySem.PassesOwn renaming never->nv
open PySem.Obj renaming mapSeq->kB,putSet->oE
open PySem.SeqAt.RcNeAt renaming lists_lengths->pF,tuples->qJ,lists->qN
open PySem.EqNone renaming eq_none_none->pH,eq_none_bool->pI,eq_bool_none->pJ,ne_none_none->pM,ne_none_bool->pO,ne_bool_none->pQ,eq_none_int->pU,eq_none_str->pV,eq_int_none->pW,eq_str_none->pY,ne_none_int->p0,ne_none_str->p8,ne_int_none->p9,ne_str_none->qb
open PySem.EqMixed renaming eq_bool_str->pK,eq_str_bool->pL,ne_bool_str->pR,ne_str_bool->pS,eq_int_str->pX,eq_str_int->pZ,ne_int_str->qa,ne_str_int->qc
open PySem.Value renaming isStrOf->nO,isInt->og
open PySem.SeqAt.RcAt renaming lists_lengths->qd,tuples->qR,lists->qT
open PySem.Pv renaming boot_tuple->nV,boot_list->n8,boot_int->ox
open PySem.Builtin.Range renaming rangeSize->qe
open PyProof.Rows.IsTup renaming new->kH
open Prod.mk renaming inj->oe
open PySem.Moved renaming trans->ou
open Eq renaming trans->kJ
open PySem.Heap.IsSliceOf renaming new->qK
open PySem.W.WShape renaming has->oB
open List.Sublist renaming nodup->qO
open PySem.Within renaming cons->qP
open List.Pairwise renaming map->qS
open PySem.Heap.DictOf renaming new->qU
def aj:=@if_pos
def ak:=@if_neg
def bx:=@decide_eq_false
def bK:=@of_decide_eq_true
def ar:=@absurd
def bR:=@decide_eq_true_eq
def bN:=@decide_eq_true
def bG:=@congrArg
def Eq.t:=@Eq.trans
def Iff.t:=@Iff.trans
def List.Perm.t:=@List.Perm.trans
def PySem.Heap.SameBut.t:=@PySem.Heap.SameBut.trans
def PySem.Moved.t:=@PySem.Moved.trans
abbrev cE:=List (PySem.Addr×PySem.Obj)
abbrev aE:=List PySem.Str
set_option Elab.async false
set_option linter.all false
namespace L5
open PySem PySem.W
noncomputable def wh(l:List Obj):Nat->List Addr->List Obj:=
 @oF Obj (λ_=>Nat->List Addr->List Obj) (λ_ _=>[])
  (λo _ b i as=>@oF Addr (λ_=>List Obj) [] (λa r _=>@kI (λ_=>List Obj) (b (Nat.succ i) as) (o::b (Nat.succ i) r) (gH a i)) as) l
def Nf(i:Nat)(as:List Addr):wh [] i as=[]:=rfl
def Qj(o:Obj)(l:List Obj)(i:Nat)(r:List Addr):wh (o::l) i (i::r)=o::wh l (i+1) r:=by show @kI (λ_=>List Obj) _ _ (gH i i)=_;rw[Nat.beq_refl];rfl
def Qk(o:Obj)(l:List Obj)(i a:Nat)(r:List Addr)(h:a≠i):wh (o::l) i (a::r)=wh l (i+1) (a::r):=by
 show @kI (λ_=>List Obj) _ _ (gH a i)=_;have:gH a i=δ:=by
  cases q:gH a i with
  |false=>rfl
  |true=>exact ar (Nat.eq_of_beq_eq_true q) h
 rw[this];rfl
theorem Hm:∀(l:List Obj) (i:Nat) (as:List Addr),(wh l i as).length=as.length->∀j (c:j<as.length),∃b,as[j]=i+b/\l[b]?=(wh l i as)[j]?
 |[],i,as,h,j,c=>by rw[Nf]at h;simp at h;omega
 |o::l,i,[],h,j,c=>by simp at c
 |o::l,i,a::r,h,j,c=>by
  by_cases q:a=i
  .subst q;rw[Qj]at h ⊢;cases j with
   |zero=>exact⟨0,J,J⟩
   |succ j=>obtain⟨b,d,e⟩:=Hm l (a+1) r (by simpa using h) j (by simpa using c);exact⟨b+1,by rw[List.getElem_cons_succ,d];exact jH a 1 b,by simpa using e⟩
  .rw[Qk _ _ _ _ _ q]at h ⊢;obtain⟨b,d,e⟩:=Hm l (i+1) (a::r) h j c;exact⟨b+1,by rw[d];exact jH i 1 b,by simpa using e⟩
def live(o:Obj):Bool:=match o with|⟨_,_,.freed,_⟩=>δ|_=>γ
def Ql{h:Heap}{as:List Addr}{K:Frag}(e:as=K.map (·.1))(x:(wh h.objs.toList 0 as,K.all λp=>live p.2)=(K.map (·.2),γ)):K.In h:=by
 obtain⟨i,r⟩:=oe x;refine Frag.in_of e (mJ λj=>?_);rw[bp,bp];by_cases a:j<as.length
 .have q:(wh h.objs.toList 0 as).length=as.length:=by rw[i,e,ae,ae]
  obtain⟨b,l,m⟩:=Hm _ _ _ q j a;have f:j<K.length:=by rw[e,ae]at a;exact a
  rw[bb a,bb f,eF,eF,l,gA];have o:h.objs[b]?=Z (K[j].2):=by rw[<-jt,m,i,bp,bb f];rfl
  have lv:live K[j].2=γ:=aC.1 r _ (gv f);refine bG Z ?_;unfold Heap.get?;rw[o];revert lv;cases K[j].2 with
  |mk c d data t=>cases data<;>intro lv<;>first|rfl|cases lv
 .rw[gb (by omega),gb (by rw[e,ae]at a;omega)];rfl
noncomputable def Xy(K:Params->Frag) (as:List Addr) (e:∀P,as=(K P).map (·.1)):Hook:=
 ⟨List Obj×Bool,λs=>(wh s.heap.objs.toList 0 as,γ),λw=>((K w.params).map (·.2),(K w.params).all λp=>live p.2),InK K,λw s x=>Ql (e w.params) (by
  obtain⟨a,b⟩:=oe x;rw[a,<- b]),InK.keeps⟩
end L5
section
open PySem PySem.W PyProof.Rows
local macro_rules|`(tactic|o_head ($f:ident $k $as $e))=>`(tactic|o_head ((L5.Xy $k $as (fun _=>by kernel_rfl)):W.Hook))
local macro_rules|`(command|#where)=>do
 let mut r:=#[]
 for n in [43:1639] do
  let x:=Lean.mkIdent (.mkSimple s!"tw{((Lean.Name.mkSimple "hd").str s!"o_{n}").hash}")
  r:=r.push ((<-`(command|noncomputable def $x:ident:=0)).raw.rewriteBottomUp (·.setInfo .none))
 return Lean.mkNullNode r
noncomputable section
namespace PySem.W.Fast
def tw2564313166037950225:=0
def tw1484588488312774368:=0
def tw11233446548474340610:=0
def tw16619267235495865221:=0
def tw5285976874307308294:=0
def tw11521511281804667912:=0
def tw3389473377782568169:=0
def tw10374632558016547081:=0
def tw229164427083005643:=0
def tw938635154573522699:=0
def tw5369280087158848684:=0
def tw6413921348116977356:=0
def tw7774113678449685934:=0
def tw13587151598080963022:=0
def tw14151282190605990766:=0
def tw10215653194048460750:=0
def tw8929427617084532050:=0
def tw861502493610598483:=0
def tw7155359931933253843:=0
def tw6344153461787385748:=0
def tw13571268590729069685:=0
def tw9300808954929066293:=0
def tw10452824278427935415:=0
def tw17397979185104625304:=0
def tw8604983957230706456:=0
def tw10926794812403192696:=0
def tw5675295018681328474:=0
def tw16280658162054754363:=0
def tw4142209100229140859:=0
def tw7662339549948040827:=0
def tw5232775305885696284:=0
def tw13190091243263446174:=0
def tw12744582225734075806:=0
def tw9259029739297239135:=0
def tw13865323600775035743:=0
def tw4469988441274557296:=0
def tw11012914648039919020:=0
def tw6733238019233131769:=0
def tw7301740238887200273:=0
def tw14289191695140931459:=0
def tw6518526374211677884:=0
def tw9872675537397989081:=0
def tw7225818602129901185:=0
def tw8997383693586321770:=0
def tw6784737039638806343:=0
def tw1221992046807324879:=0
def tw148550285443379041:=0
def tw16629204123399850450:=0
def tw8300666452175358407:=0
#where
end PySem.W.Fast
end
set_option maxRecDepth 100000 in
set_option maxHeartbeats 0 in
open_top hd for PySem.Challenge.rw_tellworld_k84_worlds_written
end
set_option tactic.hygienic false
set_option maxRecDepth 100000
namespace L2
open PySem PySem.Spec PyProof.Rows
abbrev eu:=Sum Int Str
def EF:eu->ab->Bool
 |.inl k,v=>og k v
 |.inr x,v=>nO x v
def Xz(w:ay):eu->Int
 |.inl k=>hashInt k
 |.inr x=>hashStr w x
def sv:∀{k:eu} {v:ab},EF k v=γ->(∃i t,k=Sum.inl i/\v=Value.int i t)\/(∃x t,k=Sum.inr x/\v=Value.str x t)
 |.inl i,v,h=>by obtain⟨t,e⟩:=Value.isInt_shape (k:=i) (v:=v) h;exact .inl ⟨i,t,J,e⟩
 |.inr x,v,h=>by obtain⟨t,e⟩:=Value.isStrOf_shape (x:=x) (v:=v) h;exact .inr ⟨x,t,J,e⟩
def LZ(i:Int)(t:Tok):EF (.inl i) (.int i t)=γ:=by simp[EF,og]
def L1(x:Str)(t:Tok):EF (.inr x) (.str x t)=γ:=by simp[EF,nO]
def TM(a b:Int):decide ((Sum.inl a:eu)=Sum.inl b)=(a==b):=by
 by_cases e:a=b
 .subst e;simp
 .have h:¬(Sum.inl a:eu)=Sum.inl b:=λq=>e (Sum.inl.inj q);rw[bx h];exact(beq_eq_false_iff_ne.2 e).symm
def TN(a b:Str):decide ((Sum.inr a:eu)=Sum.inr b)=decide (a=b):=by
 by_cases e:a=b
 .subst e;simp
 .have h:¬(Sum.inr a:eu)=Sum.inr b:=λq=>e (kr q);rw[bx h,bx e]
def TQ(a:Int)(b:Str):decide ((Sum.inl a:eu)=Sum.inr b)=δ:=bx (λq=>nomatch q)
def TR(a:Str)(b:Int):decide ((Sum.inr a:eu)=Sum.inl b)=δ:=bx (λq=>nomatch q)
def rA(prog:aI)(w:ay):nP prog w eu where
 is:=EF
 hash:=Xz w
 inj:=λv a b ha f=>by
  rcases sv ha with ⟨i,t,rfl,rfl⟩|⟨x,t,rfl,rfl⟩
  .rcases sv f with ⟨j,u,rfl,e⟩|⟨y,u,rfl,e⟩
   .injection e with c _;rw[c]
   .exact nomatch e
  .rcases sv f with ⟨j,u,rfl,e⟩|⟨y,u,rfl,e⟩
   .exact nomatch e
   .injection e with c _;rw[c]
 byValue:=λk v h=>by rcases sv h with ⟨i,t,rfl,rfl⟩|⟨x,t,rfl,rfl⟩<;>rfl
 pyHash:=λd h=>by
  rcases sv d with ⟨i,t,rfl,rfl⟩|⟨x,t,rfl,rfl⟩
  .exact wpAny_pyHash_int h
  .exact wpAny_pyHash_str h
 eqBool:=λl d h=>by
  rcases sv l with ⟨i,t,rfl,rfl⟩|⟨x,t,rfl,rfl⟩
  .rcases sv d with ⟨j,u,rfl,rfl⟩|⟨y,u,rfl,rfl⟩
   .rw[TM]at h;exact wpAny_eqBool_int h
   .rw[TQ]at h;exact mr i t y u _ _ _ _ h
  .rcases sv d with ⟨j,u,rfl,rfl⟩|⟨y,u,rfl,rfl⟩
   .rw[TR]at h;exact mw x t j u _ _ _ _ h
   .rw[TN]at h;exact wpAny_eqBool_str h
 «strs»:=λk x t v h=>by
  rcases sv h with ⟨i,u,rfl,e⟩|⟨y,u,rfl,e⟩
  .exact nomatch e
  .injection e with c _;subst c;cases v<;>rfl
def Iu(prog:aI)(w:ay)(i:Int)(t:Tok):(rA prog w).is (.inl i) (.int i t)=γ:=LZ i t
def Iv(prog:aI)(w:ay)(x:Str)(t:Tok):(rA prog w).is (.inr x) (.str x t)=γ:=L1 x t
inductive V where
 |E|I (b:Bool)|int (i:Int)|str (x:Str)|Q (b:Array UInt8)|flt (b:UInt64)|ref (a:Addr)|ty (n:String)
 deriving DecidableEq
abbrev bD:=List V
def en:V->ab->Prop
 |.E,u=>u=Value.none
 |.I b,u=>u=Value.bool b
 |.int i,u=>∃t,u=Value.int i t
 |.str x,u=>∃t,u=Value.str x t
 |.Q b,u=>∃t,u=Value.bytes b t
 |.flt b,u=>∃t,u=Value.float b t
 |.ref a,u=>u=Value.ref a
 |.ty n,u=>u=Value.type n
abbrev eg:bD->List ab->Prop:=eO en
theorem eg.length(r:eg xs a):xs.length=a.length:=j2 r
theorem eg.get:∀{b:bD} {a:List ab} {i:Nat} {x:V},eg b a->b[i]?=Z x->∃u,a[i]?=Z u/\en x u
 |_,_,_,_,.nil,e=>by simp at e
 |_,_,0,_,.cons r _,e=>by simp at e;subst e;exact⟨_,J,r⟩
 |_,_,i+1,x,.cons _ t,e=>by obtain⟨u,c,d⟩:=eg.get (i:=i) (x:=x) t (by simpa using e);exact⟨u,by simpa using c,d⟩
theorem eg.append:∀{b c:bD} {a ws:List ab},eg b a->eg c ws->eg (b++c) (a++ws)
 |_,_,_,_,.nil,s=>s
 |_,_,_,_,.cons r t,s=>.cons r (eg.append t s)
theorem eg.take:∀{xs:bD} {a:List ab} (n:Nat),eg xs a->eg (xs.take n) (a.take n)
 |_,_,0,_=>.nil
 |_,_,_+1,.nil=>.nil
 |_,_,n+1,.cons r t=>.cons r (eg.take n t)
theorem eg.drop:∀{xs:bD} {a:List ab} (n:Nat),eg xs a->eg (xs.drop n) (a.drop n)
 |_,_,0,r=>r
 |_,_,_+1,.nil=>.nil
 |_,_,n+1,.cons _ t=>eg.drop n t
def zH:Option V->Option ab->Prop
 |some v,Z u=>en v u
 |none,U=>True
 |_,_=>False
def KV{a:Type}:List (a×V)->List (a×ab)->Prop:=eO λ(p:a×V) (q:a×ab)=>p.1=q.1/\en p.2 q.2
def kV:eu->V
 |.inl i=>.int i
 |.inr x=>.str x
inductive HO where
 |b0 (xs:bD)
 |ea (xs:bD)
 |dK (kvs:List (eu×V))|dT (kvs:List (List eu×V))
 |set (S:Int->Bool) (n:Nat)
 |ll (C dx:Addr) (fs:List (Str×V))
 |gi (x:Addr)
 |xd (fs:List (Str×V))
 |met (f x:Addr)
 |rng (lo hi:Int)
 |n' (o:Obj) (u:HO)
 |tbl (ps:Array ab)
 |ext (φ:Heap->Prop)
abbrev Hp:=Addr->Option HO
def e3(H:Hp)(a:Addr)(o:HO):Hp:=λb=>if b=a then Z o else H b
def rb:e3 H a o a=Z o:=by unfold e3;rw[aj J]
def rg(h:b≠a):e3 H a o b=H b:=by unfold e3;rw[ak h]
def XA{H:Hp}{a b:Addr}{o u:HO}(h:H a=Z o)(c:H b=Z u)(d:o≠u):a≠b:=by intro e;subst e;rw[h]at c;exact d (cF c)
def uo{H:Hp}{a b:Addr}{o:HO}(h:H a=Z o)(c:H b=U):a≠b:=by intro e;subst e;rw[h]at c;cases c
section
variable(P:aI)(w:ay)
def e4(H:Hp)(h:Heap)(a:Addr):HO->Prop
 |.b0 c=>c.length<=aB/\∃(b:List ab) (n:Nat),eg c b/\h.get? a=Z { cls:=.type "list", data:=.seq b.toArray n }
 |.ea c=>c.length<=aB/\∃b:List ab,eg c b/\gQ h a b.toArray/\∀o,h.get? a=Z o->o.dict=U
 |.dK kvs=>kvs.length<=aB/\(a==cX)=δ/\∃m,KV kvs m/\h.DictOf (rA P w) a m
 |.dT kvs=>kvs.length<=aB/\(a==cX)=δ/\∃c:List (List eu×Addr×ab),
   eO (λ(p:List eu×V) (q:List eu×Addr×ab)=>p.1=q.1/\H q.2.1=Z (.ea (p.1.map kV))/\en p.2 q.2.2) kvs c/\
   ∃o i r,h.get? a=Z o/\o.ExactDict/\o.data=.dict i r/\i.toList=c.map (entryOfKey (tupleKind (rA P w)))/\(c.map (·.1)).Nodup
 |.set S n=>h.SetOf (intKind P w) a S n
 |.ll C d fs=>H d=Z (.gi a)/\fs.length<=1000/\d≠a/\h.get? a=Z (dA C d)/\
   ∃mA,h.Ns1 d mA/\(∀f,zH (fs.lookup f) (mA f))/\j9 mA (fs.map (·.1))
 |.gi _=>∃o,h.get? a=Z o
 |.xd fs=>∃mA,h.Ns1 a mA/\∀f,zH (fs.lookup f) (mA f)
 |.rng lo y=>∃t u v,h.get? a=Z { cls:=.type "range", data:=.fields #[.int lo t,.int y u,.int 1 v] }
 |.n' o u=>h.get? a=Z o/\e4 H h a u
 |.tbl z=>h.get? a=Z { cls:=.none,data:=.fields z }
 |.met f x=>h.get? a=Z (ku (.ref f) (.ref x))
 |.ext e=>e h/\(∃o,h.get? a=Z o)/\∀j l:Heap,e j->(∀o,j.get? a=Z o->l.get? a=Z o)->e l
def pa(H:Hp)(h:Heap):Prop:=∀a o,H a=Z o->e4 P w H h a o
end
section
variable{P:aI}{w:ay}{H H':Hp}{h h':Heap}{a:Addr}{o:HO}
theorem e4.lt(x:e4 P w H h a o):a<h.objs.size:=by
 cases o with
 |b0 b=>obtain⟨_,_,_,_,e⟩:=x;exact aV e
 |ea b=>obtain⟨_,_,_,p,_⟩:=x;exact p.lt
 |dK kvs=>obtain⟨_,_,_,_,o,_,_,e,_⟩:=x;exact aV e
 |dT kvs=>obtain⟨_,_,_,_,o,_,_,e,_⟩:=x;exact aV e
 |set S n=>obtain⟨o,_,_,_,e,_⟩:=x;exact aV e
 |ll C c fs=>obtain⟨_,_,_,e,_⟩:=x;exact aV e
 |gi y=>obtain⟨_,e⟩:=x;exact aV e
 |xd fs=>obtain⟨_,⟨_,_,_,e,_⟩,_⟩:=x;exact aV e
 |rng lo d=>obtain⟨_,_,_,e⟩:=x;exact aV e
 |n' i u=>obtain⟨e,_⟩:=x;exact aV e
 |tbl j=>exact aV (show h.get? a=Z _ from x)
 |met f y=>exact aV (show h.get? a=Z _ from x)
 |ext l=>obtain⟨_,⟨_,e⟩,_⟩:=x;exact aV e
theorem Paired.mapP{e i:Type}{F G:e->i->Prop}:∀{c:List e} {d:List i},eO F c d->(∀a b,F a b->G a b)->eO G c d
 |_,_,.nil,_=>.nil
 |_,_,.cons r t,f=>.cons (f _ _ r) (Paired.mapP t f)
def e4.Z'(x:e4 P w H h a o)(k:∀b u,(b=a\/H b=Z (.gi a))->h.get? b=Z u->h'.get? b=Z u)
  (I:∀b,H b=Z (.gi a)->H' b=Z (.gi a)) (M:∀b A,H b=Z (.ea A)->H' b=Z (.ea A)):e4 P w H' h' a o:=by
 induction o with
 |b0 A=>obtain⟨z,m,n,r,e⟩:=x;exact⟨z,m,n,r,k _ _ (.inl J) e⟩
 |ea A=>obtain⟨z,m,r,⟨i,e,c⟩,f⟩:=x;exact⟨z,m,r,⟨i,k _ _ (.inl J) e,c⟩,λW E=>by rw[k _ _ (.inl J) e]at E;cases E;exact f _ e⟩
 |dK kvs=>obtain⟨z,y,Q,r,i,l,j,e,c⟩:=x;exact⟨z,y,Q,r,i,l,j,k _ _ (.inl J) e,c⟩
 |dT kvs=>obtain⟨z,y,A,r,i,l,j,e,c⟩:=x;exact⟨z,y,A,Paired.mapP r λp q z=>⟨z.1,M _ _ z.2.1,z.2.2⟩,i,l,j,k _ _ (.inl J) e,c⟩
 |set S n=>obtain⟨i,l,j,t,e,c⟩:=x;exact⟨i,l,j,t,k _ _ (.inl J) e,c⟩
 |ll C R fs=>obtain⟨d,z,O,e,mA,⟨B,l,j,G,c⟩,r⟩:=x;exact⟨I _ d,z,O,k _ _ (.inl J) e,mA,⟨B,l,j,k _ _ (.inr d) G,c⟩,r⟩
 |gi y=>obtain⟨i,e⟩:=x;exact⟨i,k _ _ (.inl J) e⟩
 |xd fs=>obtain⟨mA,⟨B,l,j,e,c⟩,r⟩:=x;exact⟨mA,⟨B,l,j,k _ _ (.inl J) e,c⟩,r⟩
 |rng lo T=>obtain⟨t,u,v,e⟩:=x;exact⟨t,u,v,k _ _ (.inl J) e⟩
 |n' i u N=>obtain⟨e,q⟩:=x;exact⟨k _ _ (.inl J) e,N q⟩
 |tbl F=>have e:h.get? a=Z { cls:=.none,data:=.fields F }:=x;show h'.get? a=Z { cls:=.none,data:=.fields F };exact k a _ (.inl J) e
 |met f y=>have e:h.get? a=Z (ku (.ref f) (.ref y)):=x;show h'.get? a=Z (ku (.ref f) (.ref y));exact k a _ (.inl J) e
 |ext X=>obtain⟨p,⟨o,e⟩,st⟩:=x;exact⟨st _ _ p λo q=>k _ _ (.inl J) q,⟨o,k _ _ (.inl J) e⟩,st⟩
theorem pa.lt(x:pa P w H h)(e:H a=Z o):a<h.objs.size:=(x a o e).lt
def pa.fresh(x:pa P w H h)(e:h.objs.size<=a):H a=U:=by
 cases q:H a with
 |none=>rfl
 |some u=>exact ar (cf (x.lt q) e) (fJ _)
def pa.i0(x:pa P w H h)(k:∀b u,h.get? b=Z u->h'.get? b=Z u):pa P w H h':=λa o e=>
 (x a o e).Z' (λb u z q=>k b u q) (λz q=>q) λz z q=>q
def pa.laid(x:pa P w H h)(k:∀b u,h.get? b=Z u->h'.get? b=Z u)(i:h.objs.size<=a)(new:e4 P w (e3 H a o) h' a o):pa P w (e3 H a o) h':=λb u e=>by
 have f:=x.fresh i;by_cases d:b=a
 .subst d;rw[rb]at e;cases e;exact new
 .rw[rg d]at e;exact(x b u e).Z' (λc v z q=>k c v q) (λc q=>by rw[rg (uo q f)];exact q) λc j q=>by rw[rg (uo q f)];exact q
end
def Rd(H:Hp)(a:Addr)(u:HO):Prop:=H a=Z u\/∃o,H a=Z (.n' o u)
def Rd.ok(r:Rd H a u)(x:pa P w H h):e4 P w H h a u:=by
 rcases r with r|⟨o,r⟩
 .exact x a u r
 .obtain⟨_,q⟩:=x a _ r;exact q
def Mut:Option HO->Prop
 |some (.b0 _)=>True
 |some (.dK _)=>True
 |some (.dT _)=>True
 |some (.set _ _)=>True
 |some (.ll _ _ _)=>True
 |some (.ext _)=>True
 |_=>False
section
variable{P:aI}{w:ay}{H:Hp}{h h':Heap}{x e:Addr}{o':HO}
def pa.vf(ok:pa P w H h)(f:Mut (H x))(j:e=x\/H e=Z (.gi x))(k:∀b u,b≠e->h.get? b=Z u->h'.get? b=Z u)(heo:∃u,h'.get? e=Z u)
  (new:e4 P w (e3 H x o') h' x o'):pa P w (e3 H x o') h':=λb u q=>by
 have nown:∀c y,H c=Z (.gi y)->c≠x:=λc y r z=>by subst z;rw[r]at f;exact f
 have ntup:∀c i,H c=Z (.ea i)->c≠x:=λc i r z=>by subst z;rw[r]at f;exact f
 by_cases a:b=x
 .subst a;rw[rb]at q;cases q;exact new
 .rw[rg a]at q;by_cases hbe:b=e
  .have l:H b=Z (.gi x):=by
    rcases j with z|z
    .exact ar (hbe.t z) a
    .rw[hbe];exact z
   rw[q]at l;cases l;obtain⟨v,m⟩:=heo;exact⟨v,by rw[hbe];exact m⟩
  .refine(ok b u q).Z' (λc v d r=>k c v ?_ r) (λc r=>by rw[rg (nown c b r)];exact r) λc i r=>by rw[rg (ntup c i r)];exact r
   rcases d with rfl|d
   .exact hbe
   .rintro rfl;rcases j with z|z
    .exact nown c b d z
    .rw[d]at z;cases z;exact a J
end
structure Un(fs ex:List Addr)(H H':Hp)(h h':Heap):Prop where
 keep:∀b o,h.get? b=Z o->H b=U->b∉fs->b∉ex->h'.get? b=Z o
 slot:∀b o,h.get? b=Z o->H b=U->b∈fs->b∉ex->∃sl,h'.get? b=Z { o with slots:=sl }
 free:∀b o,h.get? b=Z o->H b=U->b∉ex->H' b=U
 there:∀b o,h.get? b=Z o->b∉ex->∃o',h'.get? b=Z o'
 D4:∀b xs,H b=Z (.ea xs)->H' b=Z (.ea xs)
 x':∀b o u,H b=Z (.n' o u)->H' b=Z (.n' o u)
 Dx:∀b ps,H b=Z (.tbl ps)->∃more,H' b=Z (.tbl (ps++more))
section
variable{fs fs' ex ex':List Addr}{H H1 H2:Hp}{h h1 h2 h':Heap}{a x e:Addr}{o:HO}
def Un.any(u:Un fs ex H H1 h h1)(q:h.get? b=Z ob)(n:H b=U)(d:b∉ex):∃sl,h1.get? b=Z { ob with slots:=sl }:=by
 by_cases c:b∈fs
 .exact u.slot b ob q n c d
 .exact⟨ob.slots,u.keep b ob q n c d⟩
def Un.i0(k:∀b u,h.get? b=Z u->h'.get? b=Z u):Un fs ex H H h h':=
 ⟨λb c q z z z=>k b c q,λb c q z z z=>⟨c.slots,k b c q⟩,λz z z n z=>n,λb c q z=>⟨c,k b c q⟩,λz z q=>q,λz z z q=>q,λz d q=>⟨#[],by rw[q];simp⟩⟩
def Un.refl:Un fs ex H H h h:=Un.i0 λz z q=>q
def Un.laid(k:∀b u,h.get? b=Z u->h'.get? b=Z u)(c:h.objs.size<=a)(hn:H a=U):Un fs ex H (e3 H a o) h h' where
 keep:=λb u q z z z=>k b u q
 slot:=λb u q z z z=>⟨u.slots,k b u q⟩
 free:=λb u q n z=>by rw[rg (bu (cf (aV q) c))];exact n
 there:=λb u q z=>⟨u,k b u q⟩
 D4:=λb xs q=>by rw[rg (uo q hn)];exact q
 x':=λb u xs q=>by rw[rg (uo q hn)];exact q
 Dx:=λb ps q=>⟨#[],by rw[rg (uo q hn),q];simp⟩
def Un.vf(c:Mut (H x))(j:e=x\/H e=Z (.gi x))(k:∀b u,b≠e->h.get? b=Z u->h'.get? b=Z u)(heo:∃u,h'.get? e=Z u):Un fs ex H (e3 H x o) h h':=by
 have i:∀b,H b=U->b≠x:=λb n z=>by subst z;rw[n]at c;exact c
 have f:∀b,H b=U->b≠e:=λb n z=>by
  subst z;rcases j with r|r
  .exact i b n r
  .rw[n]at r;cases r
 have d:∀b u,H b=Z u->¬Mut (Z u)->b≠x:=λb u q l z=>by subst z;rw[q]at c;exact l c
 refine⟨λb u q n w w=>k b u (f b n) q,λb u q n w w=>⟨u.slots,k b u (f b n) q⟩,λb u q n w=>by rw[rg (i b n)];exact n,λb u q w=>?_,
  λb m q=>by rw[rg (d b _ q λz=>z)];exact q,λb u m q=>by rw[rg (d b _ q λz=>z)];exact q,λb p q=>⟨#[],by rw[rg (d b _ q λz=>z),q];simp⟩⟩
 by_cases hbe:b=e
 .subst hbe;exact heo
 .exact⟨u,k b u hbe q⟩
end
def trk(h:Heap)(H:Hp):List Addr:=(av h.objs.size).filter λa=>(H a).isSome
def Hn(h:Heap)(H:Hp):Heap:=W.hideAll h (trk h H)
def L6(h:Heap)(H:Hp):(Hn h H).objs.size=h.objs.size:=W.hideAll_size _ _
def Ng{h:Heap}(e:h.get? b=Z o)(n:H b=U):(Hn h H).get? b=Z o:=
 W.hideAll_get _ e λa=>by have q:(H b).isSome=γ:=(bg.1 a).2;rw[n]at q;simp at q
def Qm(e:(Hn h H).get? b=Z o):h.get? b=Z o/\H b=U:=by
 have a:h.get? b=Z o:=W.of_hideAll (trk h H) e;refine⟨a,?_⟩;cases q:H b with
 |none=>rfl
 |some x=>have c:b∈trk h H:=bg.2 ⟨bz.2 (aV a),by simp[q]⟩;have z:(Hn h H).get? b=U:=W.hideAll_none (trk h H) c;rw[z]at e;cases e
def Qn(g h:Heap)(L:Addr):cE:=(av h.objs.size).filterMap λa=>if a=L\/(g.get? a).isSome=γ then U else (h.get? a).map λo=>(a,o)
def e8(g h:Heap)(L d:Addr):cE:=(Qn g h L).filter λp=>decide (p.1≠d)
structure Mod(K:ao)(mg:Str->Option ab)(b1:Heap):Prop where
 kin:K.In b1
 xr:b1.Ns aQ mg
 blt:∃mb,b1.Ns builtinsNs mb/\∀x:Str,x≠"__name__" -> mb x=c8 x
 nolimit:b1.NoLimit
structure Cx where
 prog:aI
 w:ay
 K:ao
 mg:Str->Option ab
 b1:Heap
 A:aM
 N:aE
 s₀:af
 H₀:Hp
 b':Env
 d?:List Env
 stack:List Env
 ex:List Addr
 fn:Str->Bool
 nr:Bool
 pn:cE
 xe:ab->af->Prop
def frs(l:List Env):List Addr:=l.filterMap (·.frame)
abbrev Cx.fs(X:Cx):List Addr:=frs X.d?
def Vis(a:cz)(x:Str):Prop:=a.names.lookup x=Z .local\/a.names.lookup x=Z .cell\/a.names.lookup x=Z .free
def Loc(a:cz)(x:Str):Prop:=a.names.lookup x=Z .local\/a.names.lookup x=Z .cell
def Look(b':Env)(h:Heap)(m:Str->Option ab)(x:Str)(u:ab):Prop:=
 (b'.kindOf x=Z .local/\m x=Z u)\/((b'.kindOf x=Z .cell\/b'.kindOf x=Z .free)/\∃c,b'.cells.lookup x=Z c/\h.IsCell c (Z u))
structure Cx.Ok(X:Cx):Prop where
 B?:Mod X.K X.mg X.b1
 kind:X.b'.scope.kind=.function
 xr:X.b'.globals=aQ
 blt:X.b'.builtins=builtinsNs
 above:X.s₀.heap.objs.size<=X.b'.locals
 inj:∀x y c,X.b'.cells.lookup x=Z c->X.b'.cells.lookup y=Z c->x=y
 has:∀x,(X.b'.kindOf x=Z .cell\/X.b'.kindOf x=Z .free)->∃c,X.b'.cells.lookup x=Z c
 cab:∀x c,X.fn x=γ->X.b'.cells.lookup x=Z c->X.s₀.heap.objs.size<=c
 hd:X.nr=γ->X.A.handled=U
 frames:X.A.frames=Z X.stack
 stk:X.stack=X.d?\/(X.stack=X.b'::X.d?/\X.b'.frame=Z X.b'.locals)
 exf:∀b∈X.ex,b≠X.b'.locals/\∀x c,X.b'.cells.lookup x=Z c->c≠b
 bs:∀b o,X.b1.get? b=Z o->X.s₀.heap.get? b=Z o/\X.H₀ b=U
 bsz:X.b1.objs.size<=X.s₀.heap.objs.size
 V':∀b o,X.b1.get? b=Z o->b∉X.ex
 Z9:∀b∈X.ex,b∉X.fs
 rm:X.s₀.heap.FunFrames X.b1 X.d?
 frf:∀b∈X.fs,X.H₀ b=U
structure eb(X:Cx)(pins:cE)(σ:List (Option V))(H:Hp)(s:af):Prop where
 ok:X.Ok
 os:s.os=X.s₀.os
 k?:dB s.gens
 b1:Un X.fs X.ex X.H₀ H X.s₀.heap s.heap
 I':∃m,s.heap.Ns X.b'.locals m/\∀(i:Nat) (x:Str) (v:V),X.N[i]?=Z x->σ[i]?=Z (Z v)->Vis X.b'.scope x->∃u,en v u/\Look X.b' s.heap m x u
 cell:∀x c,X.b'.cells.lookup x=Z c->∃v,s.heap.IsCell c v
 free:H X.b'.locals=U
 mu:∀x c,X.b'.cells.lookup x=Z c->H c=U
 N':∀p∈X.pn++pins,s.heap.get? p.1=Z p.2/\H p.1=U/\p.1≠X.b'.locals/\p.1∉X.fs/\∀v,p.2.data≠.cell v
 fc:pa X.prog X.w H s.heap
 len:σ.length=X.N.length
section
variable{X:Cx}{pins:cE}{σ:List (Option V)}{H H':Hp}{s:af}{h':Heap}
def Cx.Ok.nofr(ok:X.Ok)(e:X.b1.get? b=Z o):b∉X.fs:=λa=>by have:=(ok.rm.mem a).1;rw[e]at this;cases this
theorem eb.bs(I:eb X pins σ H s):∀b o,X.b1.get? b=Z o->s.heap.get? b=Z o/\H b=U:=λb o e=>
 ⟨I.b1.keep b o (I.ok.bs b o e).1 (I.ok.bs b o e).2 (I.ok.nofr e) (I.ok.V' b o e),I.b1.free b o (I.ok.bs b o e).1 (I.ok.bs b o e).2 (I.ok.V' b o e)⟩
def eb.bk(I:eb X pins σ H s):∀b o,X.b1.get? b=Z o->s.heap.get? b=Z o:=λb o e=>(I.bs b o e).1
theorem eb.B?(I:eb X pins σ H s):Mod X.K X.mg X.b1:=I.ok.B?
def eb.nq(I:eb X pins σ H s):X.K.In s.heap:=I.ok.B?.kin.keeps I.bk
def eb.fr(I:eb X pins σ H s):∃m,Fr X.b1 X.b'.locals s.heap m:=
 let ⟨m,a,_⟩:=I.I'
 ⟨m,a,I.bk,bf I.ok.bsz I.ok.above⟩
theorem eb.lt(I:eb X pins σ H s):X.b'.locals<s.heap.objs.size:=let ⟨_,a,_⟩:=I.I';a.lt
def eb.sz(I:eb X pins σ H s):X.s₀.heap.objs.size<=s.heap.objs.size:=bf I.ok.above (fL I.lt)
def eb.nofs(I:eb X pins σ H s)(h:s.heap.objs.size<=a):a∉X.fs:=λb=>by obtain⟨_,o,c,_⟩:=I.ok.rm.mem b;exact ar (cf (aV c) (bf I.sz h)) (fJ _)
def eb.cne(I:eb X pins σ H s):∀x c,X.b'.cells.lookup x=Z c->c≠X.b'.locals:=λx c e z=>by obtain⟨v,o,d,hd⟩:=I.cell x c e;obtain⟨m,⟨i,h,f,b,a,_⟩,_⟩:=I.I';rw[z,b]at d;cases d;rw[a]at hd;cases hd
theorem eb.rm(I:eb X pins σ H s):s.heap.FunFrames X.b1 X.d?:=by
 have all:∀(l:List Env),(∀b∈frs l,b∈X.fs)->X.s₀.heap.FunFrames X.b1 l->s.heap.FunFrames X.b1 l:=by
  intro l
  induction l with
  |nil=>intro _ _;trivial
  |cons b' r p=>intro d h;obtain⟨f,⟨L,o,c,i,j,hd⟩,m⟩:=h;have hL:L∈X.fs:=d L (by unfold frs;rw[dH,c];exact bc);obtain⟨q,e⟩:=I.b1.slot L o j (I.ok.frf L hL) hL λz=>I.ok.Z9 L z hL;exact⟨f,⟨L,_,c,i,e,hd⟩,p (λb a=>d b (by unfold frs;rw[dH,c];exact aY _ a)) m⟩
 exact all X.d? (λx a=>a) I.ok.rm
theorem eb.stack(I:eb X pins σ H s):s.heap.FunFrames X.b1 X.stack:=by
 rcases I.ok.stk with e|⟨e,a⟩
 .rw[e];exact I.rm
 .rw[e];obtain⟨m,b,_⟩:=I.I';refine .cons (by rw[I.ok.kind];decide) a b ?_ I.rm;exact Heap.get?_none_of_le (bf I.ok.bsz I.ok.above)
def eb.P?(I:eb X pins σ H s):∀b∈frs X.stack,b∈X.b'.locals::X.fs:=λb a=>by
 rcases I.ok.stk with e|⟨e,c⟩
 .rw[e]at a;exact aY _ a
 .rw[e]at a;unfold frs at a;rw[dH,c]at a;exact a
def eb.T'(I:eb X pins σ H s):∀b∈frs X.stack,H b=U:=λb a=>by
 rcases aN.1 (I.P? b a)with e|a
 .rw[e];exact I.free
 .obtain⟨_,o,c,_⟩:=I.ok.rm.mem a;exact I.b1.free b o c (I.ok.frf b a) λz=>I.ok.Z9 b z a
def eb.step{g':Array eQ}{t':Nat}{d':Drawn}{ch:List Addr}(I:eb X pins σ H s)
  (hch:∀b∈ch,(b∈X.ex\/X.s₀.heap.objs.size<=b)/\b≠X.b'.locals/\(∀x c,X.b'.cells.lookup x=Z c->c≠b)/\∀p∈X.pn++pins,p.1≠b)
  (keep:∀b o,b≠X.b'.locals->b∉X.fs->b∉ch->s.heap.get? b=Z o->H b=U->h'.get? b=Z o)
  (slot:∀b o,b≠X.b'.locals->b∈X.fs->b∉ch->s.heap.get? b=Z o->H b=U->∃sl,h'.get? b=Z { o with slots:=sl }) (free:∀b o,b∉ch->s.heap.get? b=Z o->H b=U->H' b=U)
  (there:∀b o,b∉ch->s.heap.get? b=Z o->∃y,h'.get? b=Z y)
  (D4:∀b xs,H b=Z (.ea xs)->H' b=Z (.ea xs)) (x':∀b o u,H b=Z (.n' o u)->H' b=Z (.n' o u)) (Dx:∀b ps,H b=Z (.tbl ps)->∃more,H' b=Z (.tbl (ps++more)))
  (ns:∀m,s.heap.Ns X.b'.locals m->h'.Ns X.b'.locals m) (fc:pa X.prog X.w H' h') (hg:dB g'):
  eb X pins σ H' { s with heap:=h',gens:=g',drawn:=d',toks:=t' }:=by
 have neL:∀b o,X.s₀.heap.get? b=Z o->b≠X.b'.locals:=λb o e=>bu (cf (aV e) I.ok.above);have neC:∀b o,X.s₀.heap.get? b=Z o->b∉X.ex->b∉ch:=λb o e a h=>by
  rcases(hch b h).1 with z|z
  .exact a z
  .exact ar (cf (aV e) z) (fJ _)
 have cellK:∀x c,X.b'.cells.lookup x=Z c->∀v,s.heap.IsCell c v->h'.IsCell c v:=λx c e v ⟨o,j,hd⟩=>by
  have nch:c∉ch:=λz=>(hch c z).2.2.1 x c e J;by_cases B:c∈X.fs
  .obtain⟨sl,q⟩:=slot c o (I.cne x c e) B nch j (I.mu x c e);exact⟨_,q,hd⟩
  .exact⟨o,keep c o (I.cne x c e) B nch j (I.mu x c e),hd⟩
 refine⟨I.ok,I.os,hg,⟨λb o e n h a=>?_,λb o e n h a=>?_,λb o e n a=>?_,λb o e a=>?_,λb xs e=>D4 b xs (I.b1.D4 b xs e),λb o xs e=>x' b o xs (I.b1.x' b o xs e),λb ps e=>?_⟩,?_,λx c e=>?_,?_,λx c e=>?_,λp C=>?_,fc,I.len⟩
 .exact keep b o (neL b o e) h (neC b o e a) (I.b1.keep b o e n h a) (I.b1.free b o e n a)
 .obtain⟨sl,f⟩:=I.b1.slot b o e n h a;obtain⟨A,t⟩:=slot b _ (neL b o e) h (neC b o e a) f (I.b1.free b o e n a);exact⟨A,t⟩
 .obtain⟨y,f⟩:=I.b1.there b o e a;exact free b y (neC b o e a) f (I.b1.free b o e n a)
 .obtain⟨y,f⟩:=I.b1.there b o e a;exact there b y (neC b o e a) f
 .obtain⟨M,f⟩:=I.b1.Dx b ps e;obtain⟨N,t⟩:=Dx b _ f;exact⟨M++N,by rw[t,Array.append_assoc]⟩
 .obtain⟨m,hn,G⟩:=I.I';refine⟨m,ns m hn,λi x v f t F=>?_⟩;obtain⟨u,r,l⟩:=G i x v f t F;refine⟨u,r,?_⟩;rcases l with l|⟨k,c,e,z⟩
  .exact .inl l
  .exact .inr ⟨k,c,e,cellK x c e _ z⟩
 .obtain⟨v,z⟩:=I.cell x c e;exact⟨v,cellK x c e v z⟩
 .obtain⟨m,⟨o,_,_,j,_⟩,_⟩:=I.I';exact free _ o (λz=>(hch _ z).2.1 J) j I.free
 .obtain⟨v,o,j,hd⟩:=I.cell x c e;exact free c o (λz=>(hch c z).2.2.1 x c e J) j (I.mu x c e)
 .obtain⟨e,n,ne,E,d⟩:=I.N' p C;have nch:p.1∉ch:=λz=>(hch p.1 z).2.2.2 p C J;exact⟨keep p.1 p.2 ne E nch e n,free p.1 p.2 nch e n,ne,E,d⟩
def eb.un(I:eb X pins σ H s)(u:Un X.fs [] H H' s.heap h')(fc:pa X.prog X.w H' h'):eb X pins σ H' { s with heap:=h',toks:=t' }:=by
 obtain⟨m,⟨o,es,ep,h,r⟩,_⟩:=id I.I';obtain⟨sl,hL⟩:=u.any h I.free (by simp);exact I.step (g':=s.gens) (d':=s.drawn) (ch:=[]) (λx z=>nomatch z) (λb o x f x e n=>u.keep b o e n f (by simp)) (λb o x f x e n=>u.slot b o e n f (by simp)) (λb o x e n=>u.free b o e n (by simp)) (λb o x e=>u.there b o e (by simp)) u.D4 u.x' u.Dx (λq hm=>by
  obtain⟨t,d,c,a,i⟩:=hm;rw[h]at a;cases a;exact⟨_,d,c,hL,i⟩) fc I.k?
def eb.call(I:eb X pins σ H s)(u:Un (frs X.stack) ch H H' s.heap h')(fc:pa X.prog X.w H' h')(hg:dB g')
  (hch:∀b∈ch,(b∈X.ex\/X.s₀.heap.objs.size<=b)/\b≠X.b'.locals/\(∀x c,X.b'.cells.lookup x=Z c->c≠b)/\∀p∈X.pn++pins,p.1≠b):
  eb X pins σ H' { s with heap:=h',gens:=g',drawn:=d',toks:=t' }:=by
 obtain⟨m,⟨o,es,ep,i,r⟩,_⟩:=id I.I';obtain⟨sl,hL⟩:=u.any i I.free λz=>(hch _ z).2.1 J;exact I.step (ch:=ch) hch (λb o hL j a e n=>u.keep b o e n (λz=>(aN.1 (I.P? b z)).elim hL j) a) (λb o k k a e n=>u.any e n a) (λb o a e n=>u.free b o e n a) (λb o a e=>u.there b o e a) u.D4 u.x' u.Dx (λq hm=>by
  obtain⟨t,h,f,d,l⟩:=hm;rw[i]at d;cases d;exact⟨_,h,f,hL,l⟩) fc hg
def eb.i'(I:eb X pins σ H s)(k:∀b o,b≠it->s.heap.get? b=Z o->h'.get? b=Z o)(hn:H it=U)(hL:it≠X.b'.locals)
  (d:it∈X.ex\/X.s₀.heap.objs.size<=it) (f:∀x c,X.b'.cells.lookup x=Z c->c≠it) (h:∀p∈X.pn++pins,p.1≠it):eb X pins σ H { s with heap:=h',toks:=t' }:=by
 have nit:∀b u,H b=Z u->b≠it:=λb u e z=>by rw[z,hn]at e;cases e
 refine I.step (g':=s.gens) (d':=s.drawn) (ch:=[it]) (λb i=>?_) (λb o w w a e w=>k b o (λz=>a (by simp[z])) e) (λb o w w a e w=>⟨o.slots,k b o (λz=>a (by simp[z])) e⟩) (λw w w w n=>n)
  (λb o a e=>⟨o,k b o (λz=>a (by simp[z])) e⟩) (λw w e=>e) (λw w w e=>e) (λb ps e=>⟨#[],by rw[e];simp⟩) (λm hm=>?_) (λb u e=>?_) I.k?
 .have e:b=it:=by simpa using i
  subst e;exact⟨d,hL,f,h⟩
 .obtain⟨o,es,ep,j,r⟩:=hm;exact⟨o,es,ep,k _ o (eS hL) j,r⟩
 .refine(I.fc b u e).Z' (λc v a q=>k c v ?_ q) (λw q=>q) λw w q=>q;rcases a with z|z
  .rw[z];exact nit b u e
  .exact nit c _ z
def eb.tj(I:eb X pins σ H s)(t:Nat):eb X pins σ H { s with toks:=t }:=I.un (h':=s.heap) (t':=t) Un.refl I.fc
theorem eb.i0(I:eb X pins σ H s)(k:∀b u,s.heap.get? b=Z u->h'.get? b=Z u):eb X pins σ H { s with heap:=h',toks:=t' }:=I.un (Un.i0 k) (I.fc.i0 k)
theorem eb.laid(I:eb X pins σ H s)(k:∀b u,s.heap.get? b=Z u->h'.get? b=Z u)(c:s.heap.objs.size<=a)(new:e4 X.prog X.w (e3 H a o) h' a o):
  eb X pins σ (e3 H a o) { s with heap:=h',toks:=t' }:=I.un (Un.laid k c (I.fc.fresh c)) (I.fc.laid k c new)
theorem eb.vf(I:eb X pins σ H s)(c:Mut (H x))(a:e=x\/H e=Z (.gi x))(k:∀b u,b≠e->s.heap.get? b=Z u->h'.get? b=Z u)(heo:∃u,h'.get? e=Z u)
  (new:e4 X.prog X.w (e3 H x o) h' x o):eb X pins σ (e3 H x o) { s with heap:=h',toks:=d }:=I.un (Un.vf c a k heo) (I.fc.vf c a k heo new)
def eb.ee{a:List (Option V)}(I:eb X pins σ H s)(f:a.length=σ.length)(w:∀(i:Nat) v,a[i]?=Z (Z v)->σ[i]?=Z (Z v)):eb X pins a H s:=
 ⟨I.ok,I.os,I.k?,I.b1,let ⟨m,h,b⟩:=I.I';⟨m,h,λi x v c d e=>b i x v c (w i v d) e⟩,I.cell,I.free,I.mu,I.N',I.fc,f.t I.len⟩
def eb.Vs(I:eb X pins σ H s)(h:∀p∈a,s.heap.get? p.1=Z p.2/\H p.1=U/\p.1≠X.b'.locals/\p.1∉X.fs/\∀v,p.2.data≠.cell v):eb X a σ H s:=
 ⟨I.ok,I.os,I.k?,I.b1,I.I',I.cell,I.free,I.mu,λp b=>(ba.1 b).elim (λz=>I.N' p (bB _ z)) (h p),I.fc,I.len⟩
def Iw{N:aE}(hN:N.Nodup){i j:Nat}{x:Str}(a:N[i]?=Z x)(b:N[j]?=Z x):i=j:=by obtain⟨e,c⟩:=bZ.1 a;obtain⟨f,d⟩:=bZ.1 b;exact(iA hN).1 (c.t d.symm)
def L7(I:eb X pins σ H s)(hN:X.N.Nodup)(hi:X.N[i]?=Z x)(t:Loc X.b'.scope x)(r:en v u)
  (h:∀s',eb X pins (σ.set i (Z v)) H s'->(∃a,fM a s.heap s'.heap/\(a=X.b'.locals\/X.b'.cells.lookup x=Z a))->Q () s') (hf:X.fn x=γ\/X.b'.scope.names.lookup x=Z .local:=by first|exact .inl J|exact .inr J|assumption):ah M A (storeName X.b' x u) Q E s:=by
 obtain⟨m,hn,hl⟩:=id I.I';have hcls:(X.b'.scope.kind==.class||(X.b'.scope.kind==.module&&X.b'.locals != X.b'.globals))=δ:=by rw[I.ok.kind];rfl
 have hiσ:i<σ.length:=by rw[I.len];exact(bZ.1 hi).1
 have cne:=I.cne;have tracked:∀{a:Addr} {h':Heap},(∃o,s.heap.get? a=Z o/\H a=U)->fM a s.heap h'->pa X.prog X.w H h':=λ{a h'} ha hs b ob e=>by
  obtain⟨_,_,hfree⟩:=ha;refine(I.fc b ob e).Z' (λc R l q=>(hs.2 c ?_).t q) (λ_ q=>q) λ_ _ q=>q;rintro rfl;rcases l with rfl|l
  .rw[hfree]at e;cases e
  .rw[hfree]at l;cases l
 rcases t with C|C
 .refine wpAny_storeName_local C hn (λh' T hs=>?_) hcls;obtain⟨oL,_,_,hoL,_⟩:=id hn;refine h _ ⟨I.ok,I.os,I.k?,⟨λb o e n F t=>?_,λb o e n F t=>?_,I.b1.free,λb o e t=>?_,I.b1.D4,I.b1.x',I.b1.Dx⟩,⟨_,T,λj y v' f B S=>?_⟩,λy c e=>?_,I.free,I.mu,λp W=>?_,tracked ⟨oL,hoL,I.free⟩ hs,by simpa using I.len⟩ ⟨_,hs,.inl J⟩
  .exact(hs.2 b (bu (cf (aV e) I.ok.above))).t (I.b1.keep b o e n F t)
  .obtain⟨sl,f⟩:=I.b1.slot b o e n F t;exact⟨sl,(hs.2 b (bu (cf (aV e) I.ok.above))).t f⟩
  .obtain⟨o',f⟩:=I.b1.there b o e t;exact⟨o',(hs.2 b (bu (cf (aV e) I.ok.above))).t f⟩
  .by_cases G:j=i
   .subst G;rw[hi]at f;cases f;rw[f6 hiσ]at B;cases B;exact⟨u,r,.inl ⟨C,by simp⟩⟩
   .rw[jx (eS G)]at B;obtain⟨u',r',q⟩:=hl j y v' f B S;refine⟨u',r',?_⟩;rcases q with ⟨k,e⟩|⟨k,c,e,z⟩
    .refine .inl ⟨k,?_⟩;have:y≠x:=λe=>G (Iw hN f (e▸hi));simp[this,e]
    .exact .inr ⟨k,c,e,z.sameBut hs (cne y c e)⟩
  .obtain⟨R,z⟩:=I.cell y c e;exact⟨R,z.sameBut hs (cne y c e)⟩
  .obtain⟨e,n,ne,Y,d⟩:=I.N' p W;exact⟨(hs.2 p.1 ne).t e,n,ne,Y,d⟩
 .have hfn:X.fn x=γ:=by
   rcases hf with z|z
   .exact z
   .rw[z]at C;cases C
  obtain⟨c,l⟩:=I.ok.has x (.inl C);obtain⟨R,z⟩:=I.cell x c l;refine wpAny_storeName_cell I.ok.kind C l z (λh' O hs=>?_);obtain⟨oc,hoc,hocd⟩:=id z;refine h { s with heap:=h' } ⟨I.ok,I.os,I.k?,⟨λb o e n F t=>?_,λb o e n F t=>?_,I.b1.free,λb o e t=>?_,I.b1.D4,I.b1.x',I.b1.Dx⟩,⟨m,hn.sameBut hs (eS (cne x c l)),λj y v' f B S=>?_⟩,λy P e=>?_,I.free,I.mu,λp W=>?_,tracked ⟨oc,hoc,I.mu x c l⟩ hs,by simpa using I.len⟩ ⟨c,hs,.inr l⟩
  .exact(hs.2 b (bu (cf (aV e) (I.ok.cab x c hfn l)))).t (I.b1.keep b o e n F t)
  .obtain⟨sl,f⟩:=I.b1.slot b o e n F t;exact⟨sl,(hs.2 b (bu (cf (aV e) (I.ok.cab x c hfn l)))).t f⟩
  .obtain⟨o',f⟩:=I.b1.there b o e t;exact⟨o',(hs.2 b (bu (cf (aV e) (I.ok.cab x c hfn l)))).t f⟩
  .by_cases G:j=i
   .subst G;rw[hi]at f;cases f;rw[f6 hiσ]at B;cases B;exact⟨u,r,.inr ⟨.inl C,c,l,O⟩⟩
   .rw[jx (eS G)]at B;obtain⟨u',r',q⟩:=hl j y v' f B S;refine⟨u',r',?_⟩;rcases q with q|⟨k,P,e,z'⟩
    .exact .inl q
    .refine .inr ⟨k,P,e,z'.sameBut hs ?_⟩;rintro rfl;exact G (Iw hN f (I.ok.inj _ _ _ e l▸hi))
  .by_cases hcc:P=c
   .subst hcc;exact⟨_,O⟩
   .obtain⟨w2,z2⟩:=I.cell y P e;exact⟨w2,z2.sameBut hs hcc⟩
  .obtain⟨e,n,ne,Y,d⟩:=I.N' p W;refine⟨(hs.2 p.1 ?_).t e,n,ne,Y,d⟩;intro q;rw[q,hoc]at e;have q':oc=p.2:=cF e;exact d R (by rw[<-q'];exact hocd)
def Iy(I:eb X pins σ H s)(hN:X.N.Nodup)(d:X.N[i]?=Z x)(e:Loc X.b'.scope x)(r:en v u)
  (h:∀a,eb X pins (σ.set i (Z v)) H a->Q () a) (c:X.fn x=γ\/X.b'.scope.names.lookup x=Z .local:=by first|exact .inl J|exact .inr J|assumption):ah M A (storeName X.b' x u) Q E s:=
 L7 I hN d e r (λa b z=>h a b) c
def eb.call'{a:af}(I:eb X pins σ H s)(l:a.os=s.os)(u:Un (frs X.stack) i H H' s.heap a.heap)(fc:pa X.prog X.w H' a.heap)(j:dB a.gens)
  (hch:∀b∈i,(b∈X.ex\/X.s₀.heap.objs.size<=b)/\b≠X.b'.locals/\(∀x c,X.b'.cells.lookup x=Z c->c≠b)/\∀p∈X.pn++pins,p.1≠b):eb X pins σ H' a:=by
 obtain⟨h',f,d,h,m⟩:=a;have e:m=s.os:=l;subst e;exact I.call (g':=f) (t':=h) (d':=d) u fc j hch
end
abbrev XK:=ab->Option Addr->Hp->Prop
abbrev St:=List (Option V)
abbrev VK:=V->Hp->Prop
abbrev TE:=St->Hp->VK->Prop
abbrev TT:=St->Hp->(Bool->Hp->Prop)->Prop
abbrev TA:=St->Hp->(bD->Hp->Prop)->Prop
structure Ra where
 nx:St->Hp->Prop
 rt:VK
 bk:St->Hp->Prop:=λz z=>False
 ct:St->Hp->Prop:=λz z=>False
abbrev TS:=Ra->St->Hp->Prop
def EP(X:Cx)(a:cE)(d:St)(Q:VK)(u:ab)(c:af):Prop:=∃v b,eb X a d b c/\en v u/\Q v b
def TP(X:Cx)(a:cE)(e:St)(Q:Bool->Hp->Prop)(b:Bool)(d:af):Prop:=∃c,eb X a e c d/\Q b c
def AP(X:Cx)(a:cE)(f:St)(Q:bD->Hp->Prop)(e:List ab)(d:af):Prop:=∃c b,eb X a f b d/\eg c e/\Q c b
def SP(X:Cx)(b:cE)(D:Ra)(f:Flow)(d:af):Prop:=
 match f with
 |.next=>∃a c,eb X b a c d/\D.nx a c
 |.brk=>∃a c,eb X b a c d/\D.bk a c
 |.cont=>∃a c,eb X b a c d/\D.ct a c
 |.ret u=>∃v a c,eb X b a c d/\en v u/\D.rt v c
def PE(X:Cx)(e:Expr)(t:TE):Prop:=
 ∀(a:cE) (s:af) (b:St) (H:Hp) (Q:VK),eb X a b H s->t b H Q->ah (model X.prog X.w) X.A (eval e X.b') (EP X a b Q) X.xe s
def PT(X:Cx)(e:Expr)(t:TT):Prop:=
 ∀(a:cE) (s:af) (b:St) (H:Hp) (Q:Bool->Hp->Prop),eb X a b H s->t b H Q->ah (model X.prog X.w) X.A (isTrue e X.b' (eval e X.b')) (TP X a b Q) X.xe s
def PW(X:Cx)(e:Expr)(t:TT):Prop:=
 ∀(whole:Sem ab) (a:cE) (s:af) (b:St) (H:Hp) (Q:Bool->Hp->Prop),eb X a b H s->t b H Q->ah (model X.prog X.w) X.A (isTrue e X.b' whole) (TP X a b Q) X.xe s
def PW.pt(h:PW X e t):PT X e t:=h _
def PA(X:Cx)(c:List Expr)(t:TA):Prop:=
 ∀(pos:Pos) (a:cE) (s:af) (b:St) (H:Hp) (Q:bD->Hp->Prop),eb X a b H s->t b H Q->ah (model X.prog X.w) X.A (spliced (bC pos (aw c X.b'))) (AP X a b Q) X.xe s
def PS(X:Cx)(st:Stmt)(t:TS):Prop:=
 ∀(a:cE) (s:af) (b:St) (H:Hp) (D:Ra),eb X a b H s->t D b H->ah (model X.prog X.w) X.A (exec st X.b') (SP X a D) X.xe s
def oz(X:Cx)(st:List Stmt)(t:TS):Prop:=
 ∀(a:cE) (s:af) (b:St) (H:Hp) (D:Ra),eb X a b H s->t D b H->ah (model X.prog X.w) X.A (execs st X.b') (SP X a D) X.xe s
def fg{c:Type}{t:Sem c}{Q b:c->af->Prop}{M:Model}{A:aM}{E:ab->af->Prop}{s:af}(h:ah M A t Q E s)(hQ:∀a s,Q a s->b a s):ah M A t b E s:=cg h hQ λz z x=>x
section
variable{X:Cx}
def bin{a b:Expr}{o tb:TE}(t:PE X a o)(z:PE X b tb){c:cE}{s:af}{e:St}{H:Hp}{R:V->V->Hp->Prop}(I:eb X c e H s)(h:o e H λx m=>tb e m λy d=>R x y d)
  {p:Type} {Q:p->af->Prop} {f:ab->ab->Sem p}
  (B:∀v u l x y d,eb X c e d l->en x v->en y u->R x y d->ah (model X.prog X.w) X.A (f v u) Q X.xe l):
  ah (model X.prog X.w) X.A (eval a X.b') (λv i=>ah (model X.prog X.w) X.A (eval b X.b') (λu j=>ah (model X.prog X.w) X.A (f v u) Q X.xe j) X.xe i) X.xe s:=by
 refine fg (t c s e H _ I h) λv M zz=>?_;obtain⟨x,m,q,F,C⟩:=zz;refine fg (z c M e m _ q C) λu l zz=>?_;obtain⟨y,d,r,G,E⟩:=zz;exact B v u l x y d r F G E
def zI(i:Nat):TE:=λa H Q=>∃v,a[i]?=Z (Z v)/\Q v H
def tC(v:V):TE:=λz H Q=>Q v H
def TU(hN:X.N[i]?=Z x)(p:Vis X.b'.scope x)(hd:(x==("__debug__" : Str))=δ:=by decide)(hcd:(x==("__classdict__" : Str))=δ:=by decide):PE X (.Name x pos) (zI i):=by
 intro b s q H Q I h;obtain⟨v,e,h⟩:=h;obtain⟨m,o,f⟩:=I.I';obtain⟨u,r,l⟩:=f i x v hN e p;have fin:EP X b q Q u s:=⟨v,H,I,r,h⟩;rcases l with ⟨a,j⟩|⟨a,c,d,hcell⟩
 .exact kz (wpAny_loadName_local I.ok.kind a o j fin) hd
 .rcases a with a|a
  .exact kz (wpAny_loadName_cell I.ok.kind a d hcell fin) hd
  .exact kz (wpAny_loadName_free I.ok.kind a d hcell fin hcd) hd
def Nh{i j pos}:PE X (.Constant (.int i) j pos) (tC (.int i)):=λz z z H z I h=>wpAny_Constant_int ⟨.int i,H,I.tj _,⟨_,J⟩,h⟩
def XB{b j pos}:PE X (.Constant (.bool b) j pos) (tC (.I b)):=λz z z H z I h=>Constant_bool ⟨.I b,H,I,J,h⟩
def TV{j pos}:PE X (.Constant .none j pos) (tC .E):=λz z z H z I h=>Constant_none ⟨.E,H,I,J,h⟩
def Ni{x j pos}:PE X (.Constant (.str x) j pos) (tC (.str x)):=λz z z H z I h=>Calls.Constant_str ⟨.str x,H,I.tj _,⟨_,J⟩,h⟩
def Gl(X:Cx)(x:Str):Prop:=X.b'.kindOf x=Z .globalImplicit
def BA(I:eb X a d H s)(b:Gl X x)(c:X.mg x=Z u)(h:Q u s)
  (hd:(x==("__debug__" : Str))=δ:=by decide):ah (model X.prog X.w) X.A (eval (.Name x pos) X.b') Q E s:=
 kX I.ok.kind b (Calls.loadGlobal_global (by rw[I.ok.xr];exact I.B?.xr.keeps I.bk) c h) hd
def Ct(I:eb X a l H s)(d:Gl X x)(e:X.mg x=U)(i:c8 x=Z u)(h:Q u s)
  (f:x≠"__name__" := by decide) (hd:(x==("__debug__" : Str))=δ:=by decide):ah (model X.prog X.w) X.A (eval (.Name x pos) X.b') Q E s:=by
 obtain⟨j,b,c⟩:=I.B?.blt;exact kX I.ok.kind d (Calls.loadGlobal_builtin (by rw[I.ok.xr];exact I.B?.xr.keeps I.bk) e (by rw[I.ok.blt];exact b.keeps I.bk) ((c x f).t i) h) hd
def Ep(a:Gl X x)(b:X.mg x=Z u)(r:en v u)(hd:(x==("__debug__" : Str))=δ:=by decide):PE X (.Name x pos) (tC v):=
 λz z z H z I h=>BA I a b ⟨v,H,I,r,h⟩ hd
def Qo(a:Gl X x)(b:X.mg x=U)(d:c8 x=Z u)(r:en v u)(c:x≠"__name__" := by decide)(hd:(x==("__debug__" : Str))=δ:=by decide):PE X (.Name x pos) (tC v):=
 λz z z H z I h=>Ct I a b d ⟨v,H,I,r,h⟩ c hd
variable{a b:Expr}{ta tb:TE}{pos:Pos}
def PC(X:Cx)(h:CmpOp)(a b:Expr)(t:TE):Prop:=
 ∀(c:cE) (s:af) (f:St) (H:Hp) (Q:VK),eb X c f H s->t f H Q->
  ah (model X.prog X.w) X.A (eval a X.b') (λv d=>ah (model X.prog X.w) X.A (eval b X.b') (λu e=>ah (model X.prog X.w) X.A (bh h v u) (EP X c f Q) X.xe e) X.xe d) X.xe s
def tB(t:TE):TT:=λe H Q=>t e H λx d=>∃c,x=.I c/\Q c d
def Zp(h:PC X i a b t)(f:eJ i b=δ:=by first|exact nobehind _ (by decide) (by decide)|rfl):PT X (.Compare a [i] [b] pos) (tB t):=by intro e s w H Q I o;refine lK (fg (h e s w H _ I o) λv y f=>fg f λu z m=>fg m λc A zz=>?_) f;obtain⟨x,j,l,r,p⟩:=zz;obtain⟨d,rfl,q⟩:=p;cases r;exact c4 ⟨j,l,q⟩
def TX(h:PE X e t)(j:∀whole,isTrue e X.b' whole=(do let v<-whole;standAt e.pos;holding [v] (truthy v)):=by intro _;rfl):PT X e (tB t):=by intro c s p H Q I l;refine isTrue_plain (fg (h c s p H _ I l) λv r zz=>?_) (j _);obtain⟨x,f,i,o,m⟩:=zz;obtain⟨d,rfl,q⟩:=m;cases o;exact c4 ⟨f,i,q⟩
variable{tA tB':TT}{e8:List Expr}
def XD(t u:TT):TT:=λe H Q=>t e H λc d=>if c=γ then u e d Q else Q δ d
def tOr(t u:TT):TT:=λe H Q=>t e H λc d=>if c=γ then Q γ d else u e d Q
def Zq(t:TT):TT:=λe H Q=>t e H λc d=>Q (!c) d
def Qp(f:PT X a tA):PW X (.BoolOp .And [a] pos) tA:=by
 intro l d s i H Q I h;refine isTrue_and (fg (f d s i H Q I h) λc j e=>?_);cases c with
 |true=>exact isTrue_and_nil e
 |false=>exact e
def TY(f:PT X a tA):PW X (.BoolOp .Or [a] pos) tA:=by
 intro l d s i H Q I h;refine isTrue_or (fg (f d s i H Q I h) λc j e=>?_);cases c with
 |false=>exact isTrue_or_nil e
 |true=>exact e
def TZ(l:PT X a tA)(m:PW X (.BoolOp .And (b::e8) pos) tB'):PW X (.BoolOp .And (a::b::e8) pos) (XD tA tB'):=by
 intro p d s j H Q I h;refine isTrue_and (fg (l d s j H _ I h) λc o zz=>?_);obtain⟨e,f,i⟩:=zz;cases c with
 |true=>exact m p d o j e Q f i
 |false=>exact⟨e,f,i⟩
def XE(l:PT X a tA)(m:PW X (.BoolOp .Or (b::e8) pos) tB'):PW X (.BoolOp .Or (a::b::e8) pos) (tOr tA tB'):=by
 intro p d s j H Q I h;refine isTrue_or (fg (l d s j H _ I h) λc o zz=>?_);obtain⟨e,f,i⟩:=zz;cases c with
 |true=>exact⟨e,f,i⟩
 |false=>exact m p d o j e Q f i
def T2(f:PT X a tA):PT X (.UnaryOp .Not a pos) (Zq tA):=by intro d s i H Q I h;exact isTrue_not (f d s i H (λc e=>Q (!c) e) I h)
def XG(ta tb:TE):TE:=λe H Q=>ta e H λx d=>∃c,x=.I c/\if c=γ then tb e d Q else Q (.I δ) d
def Zr(ta tb:TE):TE:=λe H Q=>ta e H λx d=>∃c,x=.I c/\if c=γ then Q (.I γ) d else tb e d Q
def XH(ta:TE):TE:=λe H Q=>ta e H λx d=>∃c,x=.I c/\Q (.I (!c)) d
def T3{e}(h:PE X a t):PE X (.BoolOp e [a] pos) t:=λc s f H Q I d=>BoolOp_one (h c s f H Q I d)
def T4(l:PE X a ta)(m:PE X (.BoolOp .And (b::e8) pos) tb):PE X (.BoolOp .And (a::b::e8) pos) (XG ta tb):=by
 intro d s j H Q I h;refine BoolOp_and (fg (l d s j H _ I h) λv p zz=>?_);obtain⟨x,f,i,o,e⟩:=zz;obtain⟨c,rfl,e⟩:=e;cases o;refine c4 ?_;cases c with
 |true=>exact m d p j f Q i e
 |false=>exact⟨.I δ,f,i,J,e⟩
def XI(l:PE X a ta)(m:PE X (.BoolOp .Or (b::e8) pos) tb):PE X (.BoolOp .Or (a::b::e8) pos) (Zr ta tb):=by
 intro d s j H Q I h;refine BoolOp_or (fg (l d s j H _ I h) λv p zz=>?_);obtain⟨x,f,i,o,e⟩:=zz;obtain⟨c,rfl,e⟩:=e;cases o;refine c4 ?_;cases c with
 |false=>exact m d p j f Q i e
 |true=>exact⟨.I γ,f,i,J,e⟩
def T5(j:PE X a ta):PE X (.UnaryOp .Not a pos) (XH ta):=by intro d s m H Q I h;refine UnaryOp_ (fg (j d s m H _ I h) λv o zz=>?_);obtain⟨x,f,i,l,e⟩:=zz;obtain⟨c,rfl,e⟩:=e;cases l;exact not_of (c4 ⟨.I (!c),f,i,J,e⟩)
def tIf(t:TT)(ta tb:TE):TE:=λd H Q=>t d H λc e=>if c=γ then ta d e Q else tb d e Q
def Nj(q:PT X c tA)(o:PE X a ta)(p:PE X b tb):PE X (.IfExp c a b pos) (tIf tA ta tb):=by
 intro e s f H Q I h;refine wpAny_IfExp (fg (q e s f H _ I h) λd m zz=>?_);obtain⟨i,j,l⟩:=zz;cases d with
 |true=>exact o e m f i Q j l
 |false=>exact p e m f i Q j l
end
def fx(K:ao)(H:Hp)(a:Addr)(c:bD):Prop:=
 Rd H a (.b0 c)\/
  ∃(o:Obj) (b:Array ab) (n:Nat),K.lookup a=Z o/\o.cls=.type "list" /\ o.dict=U/\o.data=.seq b n/\b.size<=aB/\eg c b.toList
def fy(K:ao)(H:Hp)(a:Addr)(c:bD):Prop:=
 Rd H a (.ea c)\/
  ∃(o:Obj) (b:Array ab) (n:Nat),K.lookup a=Z o/\o.cls=.type "tuple" /\ o.data=.seq b n/\b.size<=aB/\eg c b.toList
def Zs:ab->Option V
 |.none=>Z .E
 |.bool b=>Z (.I b)
 |.int i _=>Z (.int i)
 |.str x _=>Z (.str x)
 |.bytes b _=>Z (.Q b)
 |.float b _=>Z (.flt b)
 |.ref a=>Z (.ref a)
 |.type n=>Z (.ty n)
 |_=>U
def en.abs(r:en x u):Zs u=Z x:=by
 cases x with
 |E=>cases r;rfl
 |I _=>cases r;rfl
 |int _=>obtain⟨t,rfl⟩:=r;rfl
 |str _=>obtain⟨t,rfl⟩:=r;rfl
 |Q _=>obtain⟨t,rfl⟩:=r;rfl
 |flt _=>obtain⟨t,rfl⟩:=r;rfl
 |ref _=>cases r;rfl
 |ty _=>cases r;rfl
def en.inj(r:en x u)(q:en y u):x=y:=cF (r.abs.symm.t q.abs)
theorem eg.inj:∀{b c:bD} {a:List ab},eg b a->eg c a->b=c
 |_,_,_,.nil,.nil=>rfl
 |_,_,_,.cons r t,.cons d e=>by rw[r.inj d,eg.inj t e]
section
variable{X:Cx}{pins:cE}{σ:St}{H:Hp}{s:af}{a:Addr}{xs ys:bD}
def fx.of{K:ao}(h:H a=Z (.b0 xs)):fx K H a xs:=.inl (.inl h)
def fy.of{K:ao}(h:H a=Z (.ea xs)):fy K H a xs:=.inl (.inl h)
def eb.list(I:eb X pins σ H s)(h:fx X.K H a xs):∃b:List ab,eg xs b/\PlainL s.heap a b.toArray/\xs.length<=aB:=by
 rcases h with h|⟨o,b,n,d,c,hd,f,i,r⟩
 .obtain⟨z,b,n,r,e⟩:=h.ok I.fc;exact⟨b,r,⟨_,n,e,J,J,J⟩,z⟩
 .refine⟨b.toList,r,⟨o,n,I.nq a o d,c,hd,by simpa using f⟩,?_⟩;have e:=r.length;simp only[cK]at e;omega
def eb.tuple(I:eb X pins σ H s)(h:fy X.K H a xs):∃b:List ab,eg xs b/\gQ s.heap a b.toArray/\xs.length<=aB:=by
 rcases h with h|⟨o,b,n,d,c,f,i,r⟩
 .obtain⟨z,b,r,p,_⟩:=h.ok I.fc;exact⟨b,r,p,z⟩
 .refine⟨b.toList,r,⟨o,I.nq a o d,c,n,by simpa using f⟩,?_⟩;have e:=r.length;simp only[cK]at e;omega
def eb.H4(I:eb X pins σ H s)(h:fx X.K H a xs)(l:fx X.K H a ys):xs=ys:=by
 obtain⟨c,r,⟨o,n,e,_,_,d⟩,_⟩:=I.list h;obtain⟨b,m,⟨q,p,i,_,_,f⟩,_⟩:=I.list l;rw[e]at i;cases i;rw[d]at f;injection f with j _;have:c=b:=by simpa using bG nX j
 subst this;exact r.inj m
def eb.z0(I:eb X pins σ H s)(h:fy X.K H a xs)(l:fy X.K H a ys):xs=ys:=by
 obtain⟨c,r,⟨o,e,_,n,d⟩,_⟩:=I.tuple h;obtain⟨b,m,⟨q,i,_,p,f⟩,_⟩:=I.tuple l;rw[e]at i;cases i;rw[d]at f;injection f with j _;have:c=b:=by simpa using bG nX j
 subst this;exact r.inj m
end
abbrev Cx.w?(X:Cx)(E:ab->af->Prop):Cx:={ X with xe:=E }
abbrev Cx.nox(X:Cx):Cx:=X.w? λz z=>False
theorem Cx.Ok.w?{X:Cx}(ok:X.Ok)(E:ab->af->Prop):(X.w? E).Ok:=
 ⟨ok.B?,ok.kind,ok.xr,ok.blt,ok.above,ok.inj,ok.has,ok.cab,ok.hd,ok.frames,ok.stk,ok.exf,ok.bs,ok.bsz,ok.V',ok.Z9,ok.rm,ok.frf⟩
def Cx.Ok.nf{X:Cx}(ok:(X.w? E).Ok):X.Ok:=
 ⟨ok.B?,ok.kind,ok.xr,ok.blt,ok.above,ok.inj,ok.has,ok.cab,ok.hd,ok.frames,ok.stk,ok.exf,ok.bs,ok.bsz,ok.V',ok.Z9,ok.rm,ok.frf⟩
section
variable{X:Cx}{pins:cE}{σ:St}{H:Hp}{s:af}{E:ab->af->Prop}
theorem eb.w?(I:eb X pins σ H s)(E:ab->af->Prop):eb (X.w? E) pins σ H s:=⟨I.ok.w? E,I.os,I.k?,I.b1,I.I',I.cell,I.free,I.mu,I.N',I.fc,I.len⟩
theorem eb.nf(I:eb (X.w? E) pins σ H s):eb X pins σ H s:=⟨I.ok.nf,I.os,I.k?,I.b1,I.I',I.cell,I.free,I.mu,I.N',I.fc,I.len⟩
theorem SP.nf(h:SP (X.w? E) pins D f c):SP X pins D f c:=by
 cases f with
 |next=>obtain⟨a,b,I,q⟩:=h;exact⟨a,b,I.nf,q⟩
 |brk=>obtain⟨a,b,I,q⟩:=h;exact⟨a,b,I.nf,q⟩
 |cont=>obtain⟨a,b,I,q⟩:=h;exact⟨a,b,I.nf,q⟩
 |ret u=>obtain⟨v,a,b,I,r,q⟩:=h;exact⟨v,a,b,I.nf,r,q⟩
theorem oz.nox{st:List Stmt}{t:TS}(h:oz X.nox st t):oz X st t:=λpins s σ H D I a=>
 cg (h pins s σ H D (I.w? _) a) (λx x q=>q.nf) λx x z=>cM z
end
section
variable{X:Cx}{st:Stmt}{e8:List Stmt}{t u:TS}{e:Expr}{te:TE}{pos:Pos}
def XJ:TS:=λD a H=>D.nx a H
def Zt(t u:TS):TS:=λD σ H=>t { D with nx:=u D } σ H
def Qq:oz X [] XJ:=λz z a H z I h=>jS ⟨a,H,I,h⟩
def EG(b:PS X st t)(c:oz X e8 u):oz X (st::e8) (Zt t u):=by
 intro pins s σ H D I h;refine mT (fg (b pins s σ H { D with nx:=u D } I h) λf d q=>?_);cases f with
 |next=>obtain⟨σ',H',a,q⟩:=q;exact c pins d σ' H' D a q
 |ret v=>exact q
 |brk=>exact q
 |cont=>exact q
def Er(b:PS X st t):oz X [st] t:=by
 intro a s c H D I h;refine mT (fg (b a s c H D I h) λf d q=>?_);cases f with
 |next=>exact jS q
 |ret v=>exact q
 |brk=>exact q
 |cont=>exact q
def eb.quiet(I:eb X a b H s):interactive X.b'=δ:=by simp[interactive,I.ok.kind]
def KN(te:TE):TS:=λD a H=>te a H λz b=>D.nx a b
def Ho(f:PE X e te)(i:cY e U pos.line X.b'=pure δ:=by rfl):PS X (.Expr e pos) (KN te):=by intro a s b H D I h;exact wpAny_Expr_any (fg (f a s b H _ I h) λv m ⟨x,c,d,l,j⟩=>⟨b,c,d,j⟩) I.quiet i
def XM(te:TE):TS:=λD a H=>te a H D.rt
def JL(f:PE X e te):PS X (.Return (Z e) pos) (XM te):=by intro a s b H D I h;exact wpAny_Return_some (fg (f a s b H _ I h) λv l ⟨x,c,d,j,i⟩=>⟨x,b,c,d,j,i⟩)
def Zu(c:TT)(t u:TS):TS:=λD a H=>c a H λb d=>if b=γ then t D a d else u D a d
def XN(r:PT X c tc)(p:oz X a t)(q:oz X b u):PS X (.If c a b pos) (Zu tc t u):=by
 intro f s i H D I h;refine wpAny_If (fg (r f s i H _ I h) λd o zz=>?_);obtain⟨j,l,m⟩:=zz;cases d with
 |true=>exact p f o i j D l m
 |false=>exact q f o i j D l m
end
abbrev TG:=V->St->Hp->(St->Hp->Prop)->Prop
abbrev TGs:=bD->St->Hp->(St->Hp->Prop)->Prop
def PG(X:Cx)(target:Expr)(t:TG):Prop:=
 ∀(a:cE) (s:af) (d:St) (H:Hp) (v:V) (u:ab) (Q:St->Hp->Prop),eb X a d H s->en v u->t v d H Q->
  ah (model X.prog X.w) X.A (assign target X.b' u) (λz e=>∃b c,eb X a b c e/\Q b c) X.xe s
def N?(X:Cx)(i:List Expr)(t:TGs):Prop:=
 ∀(a:cE) (s:af) (f:St) (H:Hp) (e:bD) (d:List ab) (Q:St->Hp->Prop),eb X a f H s->eg e d->t e f H Q->
  ah (model X.prog X.w) X.A (assignInOrder ((cN i X.b').map (·.2)) d) (λz h=>∃b c,eb X a b c h/\Q b c) X.xe s
section
variable{X:Cx}{pos:Pos}
def wQ(i:Nat):TG:=λv a H Q=>Q (a.set i (Z v)) H
def KO(hN:X.N.Nodup)(d:X.N[i]?=Z x)(e:Loc X.b'.scope x)(c:X.fn x=γ\/X.b'.scope.names.lookup x=Z .local:=by first|exact .inl J|exact .inr J|assumption):PG X (.Name x pos) (wQ i):=by intro a s j H v u Q I r h;exact wpAny_assign_Name (Iy I hN d e r (λf b=>⟨_,H,b,h⟩) c)
def XO:TGs:=λa b H Q=>a=[]/\Q b H
def SX(t:TG)(u:TGs):TGs:=λc d H Q=>∃v r,c=v::r/\t v d H λa b=>u r a b Q
def Qr:N? X [] XO:=by intro a s b H d c Q I r h;obtain⟨e,h⟩:=h;subst e;cases r;exact assignInOrder_nil ⟨b,H,I,h⟩
def Nk(j:PG X e t)(l:N? X b u)
  (m:(cN (e::b) X.b').map (·.2)=assign e X.b'::(cN b X.b').map (·.2):=by rfl):N? X (e::b) (SX t u):=by
 intro a s q H y w Q I r h;obtain⟨v,x,i,h⟩:=h;subst i;cases r with
 |cons r rr=>rw[m];refine assignInOrder_cons (fg (j a s q H _ _ _ I r h) λz p zz=>?_);obtain⟨c,d,f,o⟩:=zz;exact l a p c d _ _ Q f rr o
def T6(K:ao)(n:Nat)(t:TGs):TG:=λv c H Q=>∃a b,v=.ref a/\fy K H a b/\b.length=n/\t b c H Q
def T7(i:X.nr=γ)(h:N? X es t)
  (hn:(cN es X.b').length=n:=by rfl) (hst:(cN es X.b').findIdx? (·.1)=U:=by rfl):PG X (.Tuple es k pos) (T6 X.K n t):=by
 intro pins s σ H v u Q I r hw;obtain⟨a,xs,f,l,j,hw⟩:=hw;subst f;cases r;obtain⟨q,c,m,w⟩:=I.tuple l;refine assign_Tuple_tuple (I.ok.hd i) m (by simp[hn,<- j,c.length]) hst λh' p=>?_;have d:eb X pins σ H { s with heap:=h' }:=I.i0 (t':=s.toks) λb o e=>p b o (bu (aV e)) e;exact h pins _ σ H xs _ Q d (by simpa using c) hw
def BB(c:TE)(g:TG):TS:=λD a H=>c a H λx b=>g x a b D.nx
def T8(j:PE X e u)(l:PG X b g)(m:swapsWithSole [b] e pos.line X.b'=pure δ:=by rfl)(o:swappedStores [b] e X.b'=pure U:=by rfl)
  (i:(cN [b] X.b').map (·.2)=[assign b X.b']:=by rfl):PS X (.Assign [b] e pos) (BB u g):=by
 intro a s c H D I h;refine wpAny_Assign_stores (fg (j a s c H _ I h) λv t zz=>?_) m o;obtain⟨x,d,f,r,p⟩:=zz;rw[i];exact fg (l a t c d x v _ f r p) λz w q=>q
def T9(hN:X.N.Nodup)(l:X.N[i]?=Z x)(o:Loc X.b'.scope x)(f:PE X e r)(m:cY e (Z (.Name x pos')) pos.line X.b'=pure δ:=by rfl)(j:X.fn x=γ\/X.b'.scope.names.lookup x=Z .local:=by first|exact .inl J|exact .inr J|assumption):
  PS X (.Assign [.Name x pos'] e pos) (BB r (wQ i)):=by
 intro a s t H D I h;refine wpAny_Assign_Name (fg (f a s t H _ I h) λv u zz=>?_) m;obtain⟨y,b,c,q,p⟩:=zz;exact Iy c hN l o q (λw d=>⟨_,b,d,p⟩) j
end
structure It where
 go:Nat->Hp->Prop
 yld:Nat->Hp->V->Hp->Prop
 stop:Nat->Hp->Prop
def Hr(X:Cx)(a:cE)(H:Hp)(b:Addr):Prop:=
 H b=U/\b≠X.b'.locals/\b∉X.fs/\(b∈X.ex\/X.s₀.heap.objs.size<=b)/\(∀x c,X.b'.cells.lookup x=Z c->c≠b)/\∀p∈X.pn++a,p.1≠b
def eb.Y?(I:eb X d j H s)(a:s.heap.objs.size<=b)(h:f b=U):Hr X d f b:=by
 refine⟨h,ka (cf I.lt a),I.nofs a,.inr (bf I.sz a),λx c e z=>?_,λp i z=>?_⟩
 .obtain⟨v,q⟩:=I.cell x c e;exact ar (cf q.lt (by rw[z];exact a)) (fJ _)
 .exact ar (cf (aV (I.N' p i).1) (by rw[z];exact a)) (fJ _)
structure ZY(P:aI)(w:ay)(K:ao)(tg:Expr)(A':It)(fp:List Addr)(it:Addr)(tn:Nat->Heap->Prop):Prop where
 mem:it∈fp
 obj:∀i h,tn i h->∀b∈fp,∃o,h.get? b=Z o/\∀v,o.data≠.cell v
 keep:∀i h h',tn i h->(∀b∈fp,∀o,h.get? b=Z o->h'.get? b=Z o)->tn i h'
 item:∀(X:Cx),X.prog=P->X.w=w->X.K=K->X.nr=γ->∀(i:Nat) (pins:cE) (s:af) (σ:St) (H:Hp) (E:ab->af->Prop),eb X pins σ H s->(∀b∈fp,Hr X pins H b)->tn i s.heap->A'.go i H->
  ah (model P w) X.A (pyNext (.ref it)) (λr s1=>∃u,r=Z u/\
   ah (model P w) X.A (gx tg (.ref it) u) (λz s2=>∃x H',eb X pins σ H' s2/\en x u/\A'.yld i H x H'/\tn (i+1) s2.heap/\∀b∈fp,H' b=U) E s1) E s
 done:∀(X:Cx),X.prog=P->X.w=w->X.K=K->X.nr=γ->∀(i:Nat) (pins:cE) (s:af) (σ:St) (H:Hp) (E:ab->af->Prop),eb X pins σ H s->(∀b∈fp,Hr X pins H b)->tn i s.heap->A'.stop i H->
  ah (model P w) X.A (pyNext (.ref it)) (λr s1=>r=U/\eb X pins σ H s1) E s
 self:∀(A:aM) (i:Nat) (s:af) (Q:ab->af->Prop) (E:ab->af->Prop),tn i s.heap->Q (.ref it) s->ah (model P w) A (pyIter (.ref it)) Q E s
abbrev TI:=St->Hp->(It->Hp->Prop)->Prop
def PIE(X:Cx)(a:cE)(l:St)(j:Expr)(R:It->Hp->Prop)(itv:ab)(h:af):Prop:=
 ∃(f:Addr) (e:List Addr) (i:Nat->Heap->Prop) (d:It) (c:Hp),itv=.ref f/\eb X a l c h/\ZY X.prog X.w X.K j d e f i/\i 0 h.heap/\(∀b∈e,Hr X a c b)/\R d c
def PI(X:Cx)(d iter:Expr)(e:TI):Prop:=
 ∀(a:cE) (s:af) (b:St) (H:Hp) (R:It->Hp->Prop),eb X a b H s->e b H R->
  ah (model X.prog X.w) X.A (eval iter X.b') (λv c=>ah (model X.prog X.w) X.A (pyIter v) (PIE X a b d R) X.xe c) X.xe s
def KP{s:af}(c:s.heap.get? d=Z o)(a:o.cls=.type n)(hd:o.data=.fields f)
  (b:["enumerate", "zip", "dict_itemiterator", "dict_reverseitemiterator", "odict_iterator", "itertools.zip_longest", "itertools.pairwise"].contains n=δ) (hQ:Q () s):ah M A (gx e (.ref d) u) Q E s:=by
 unfold gx;cases e<;>first
  |exact aA hQ
  |(cases u<;>first
    |exact aA hQ
    |(refine aq (wpAny_load c ?_)
      rw[a,hd];show ah M A (if (["enumerate", "zip", "dict_itemiterator", "dict_reverseitemiterator", "odict_iterator", "itertools.zip_longest", "itertools.pairwise"].contains n&&f[0]?==Z (rawInt _))=γ then _ else _) Q E s;rw[ak (by intro h;rw[b,Bool.false_and]at h;cases h)];exact aA hQ))
def Itl(K:ao)(a:Addr):It:=
 ⟨λi H=>∃b x,fx K H a b/\b[i]?=Z x,λi H x c=>c=H/\∀b,fx K H a b->b[i]?=Z x,λi H=>∃b,fx K H a b/\b.length<=i⟩
def Itt(K:ao)(a:Addr):It:=
 ⟨λi H=>∃b x,fy K H a b/\b[i]?=Z x,λi H x c=>c=H/\∀b,fy K H a b->b[i]?=Z x,λi H=>∃b,fy K H a b/\b.length<=i⟩
def Itr(lo:Int)(n:Nat):It:=⟨λi z=>i<n,λi H x a=>a=H/\x=.int (lo+i),λi z=>n<=i⟩
def L8{P:aI}{w:ay}{K:ao}{tg:Expr}(a it:Addr):ZY P w K tg (Itl K a) [it] it (λi h=>h.IsListIter it a i) where
 mem:=by simp
 obj:=λi h st b f=>by
  have e:b=it:=by simpa using f
  subst e;obtain⟨o,e,c,d⟩:=st;exact⟨o,e,λv z=>by rw[d]at z;cases z⟩
 keep:=λi h h' st k=>st.at λo e=>k it (by simp) o e
 item:=by intro X hP hw hK G i pins s σ H E I l st hg;subst hP hw hK;obtain⟨xs,x,m,B⟩:=hg;obtain⟨C,F,p,S⟩:=I.list m;obtain⟨u,Q,T⟩:=F.get B;obtain⟨q,r,O,t,y,A⟩:=l it (by simp);refine wpAny_pyNext_list_item st p.isList (x:=u) (by simpa using Q) λh' j W=>?_;have M:eb X pins σ H { s with heap:=h' }:=I.i' (t':=s.toks) (λb o f e=>(W.2 b f).t e) q r t y A;obtain⟨o,e,c,d⟩:=id j;exact⟨u,J,KP (s:={ s with heap:=h' }) e c d (by decide) ⟨x,H,M,T,⟨J,λys R=>by rw[I.H4 R m];exact B⟩,j,λb f=>(l b f).1⟩⟩
 done:=by intro X hP hw hK G i pins s σ H E I l st hg;subst hP hw hK;obtain⟨xs,m,B⟩:=hg;obtain⟨C,F,p,S⟩:=I.list m;obtain⟨q,r,O,t,y,A⟩:=l it (by simp);have hl:=F.length;exact wpAny_pyNext_list_end (I.ok.hd G) st p.isList (by simp;omega) λh' N=>⟨J,I.i' (t':=s.toks) (λb o f e=>N b o f e) q r t y A⟩
 self:=λ_ _ _ _ _ st h=>wpAny_pyIter_listiter st h
def JM{P:aI}{w:ay}{K:ao}{tg:Expr}(a it:Addr):ZY P w K tg (Itt K a) [it] it (λi h=>h.IsTupleIter it a i) where
 mem:=by simp
 obj:=λi h st b f=>by
  have e:b=it:=by simpa using f
  subst e;obtain⟨o,e,c,d⟩:=st;exact⟨o,e,λv z=>by rw[d]at z;cases z⟩
 keep:=λi h h' st k=>st.at λo e=>k it (by simp) o e
 item:=by intro X hP hw hK G i pins s σ H E I m st hg;subst hP hw hK;obtain⟨xs,x,q,C⟩:=hg;obtain⟨j,F,p,S⟩:=I.tuple q;obtain⟨u,Q,T⟩:=F.get C;obtain⟨r,t,O,y,A,B⟩:=m it (by simp);refine wpAny_pyNext_tuple_item st (show s.heap.IsTuple a j.toArray from p) (x:=u) (by simpa using Q) λh' l W=>?_;have M:eb X pins σ H { s with heap:=h' }:=I.i' (t':=s.toks) (λb o f e=>(W.2 b f).t e) r t y A B;obtain⟨o,e,c,d⟩:=id l;exact⟨u,J,KP (s:={ s with heap:=h' }) e c d (by decide) ⟨x,H,M,T,⟨J,λys R=>by rw[I.z0 R q];exact C⟩,l,λb f=>(m b f).1⟩⟩
 done:=by intro X hP hw hK G i pins s σ H E I m st hg;subst hP hw hK;obtain⟨xs,q,C⟩:=hg;obtain⟨j,F,p,S⟩:=I.tuple q;obtain⟨r,t,O,y,A,B⟩:=m it (by simp);have hl:=F.length;exact wpAny_pyNext_tuple_end (I.ok.hd G) st (show s.heap.IsTuple a j.toArray from p) (by simp;omega) λh' N=>⟨J,I.i' (t':=s.toks) (λb o f e=>N b o f e) r t y A B⟩
 self:=λ_ _ _ _ _ st h=>wpAny_pyIter_tupleiter st h
def JN{P:aI}{w:ay}{K:ao}{tg:Expr}(it:Addr)(lo:Int)(n:Nat):ZY P w K tg (Itr lo n) [it] it (λi h=>IsRangeIter h it (lo+(i:Nat) * 1) ((n:Int) - (i:Nat)) 1) where
 mem:=by simp
 obj:=λi h st b a=>by
  have e:b=it:=by simpa using a
  subst e;exact⟨_,st,λv z=>by
   have B:Data.fields _=Data.cell v:=z;cases B⟩
 keep:=λi h h' st k=>k it (by simp) _ st
 item:=by intro X hP hw hK q i pins s σ H E I d st hg;subst hP hw hK;obtain⟨f,j,x,l,m,p⟩:=d it (by simp);have W:=Walks.range (prog:=X.prog) (w:=X.w) (I.ok.hd q) it lo 1 n;refine W.item i s _ _ hg st λv h' tk y c A=>?_;obtain⟨t,rfl⟩:=y;have r:eb X pins σ H { s with heap:=h',toks:=tk }:=I.i' (λb o a e=>A b o (by simpa using a) e) f j l m p;refine⟨_,J,KP (s:={ s with heap:=h',toks:=tk }) (n:="range_iterator") c rfl J (by decide) ⟨.int (lo+i),H,r,⟨t,?_⟩,⟨J,J⟩,c,λb a=>(d b a).1⟩⟩;rw[Int.mul_one]
 done:=by intro X hP hw hK q i pins s σ H E I d st hg;subst hP hw hK;obtain⟨f,j,x,l,m,p⟩:=d it (by simp);exact wpAny_pyNext_range_end (I.ok.hd q) st (by have:n<=i:=hg;omega) λh' u=>⟨J,I.i' (t':=s.toks) (λb o a e=>u b o a e) f j l m p⟩
 self:=λ_ _ _ _ _ st h=>wpAny_pyIter_rangeiter st h
section
variable{X:Cx}{tg:Expr}
def KQ(K:ao)(c:TE):TI:=λe H R=>c e H λx b=>∃a,x=.ref a/\(∃d,fx K b a d)/\R (Itl K a) b
def Ua(K:ao)(c:TE):TI:=λe H R=>c e H λx b=>∃a,x=.ref a/\(∃d,fy K b a d)/\R (Itt K a) b
def Qs{l:Expr}{i:TE}(r:PE X l i):PI X tg l (KQ X.K i):=by
 intro c s z H R I h;refine fg (r c s z H _ I h) λv f zz=>?_;obtain⟨x,j,d,y,w⟩:=zz;obtain⟨a,e,⟨E,t⟩,q⟩:=w;subst e;cases y;obtain⟨u,B,p,A⟩:=d.list t;refine gk p.isList ?_;refine⟨f.heap.objs.size,[f.heap.objs.size],_,_,j,J,d.i0 (t':=f.toks) λb o e=>aX _ e,L8 a _,⟨_,bH _ J,J,J⟩,λb m=>?_,q⟩;have e:b=f.heap.objs.size:=by simpa using m
 subst e;exact d.Y? (aK _) (d.fc.fresh (aK _))
def Ub{l:Expr}{j:TE}(t:PE X l j):PI X tg l (Ua X.K j):=by
 intro c s z H R I h;refine fg (t c s z H _ I h) λv d zz=>?_;obtain⟨x,m,f,y,w⟩:=zz;obtain⟨a,e,⟨E,u⟩,q⟩:=w;subst e;cases y;obtain⟨i,B,p,A⟩:=f.tuple u;refine mx (show d.heap.IsTuple a i.toArray from p) ?_;refine⟨d.heap.objs.size,[d.heap.objs.size],_,_,m,J,f.i0 (t':=d.toks) λb o e=>aX _ e,JM a _,⟨_,bH _ J,J,J⟩,λb r=>?_,q⟩;have e:b=d.heap.objs.size:=by simpa using r
 subst e;exact f.Y? (aK _) (f.fc.fresh (aK _))
def Nl{pins:cE}{σ:St}{H:Hp}{s:af}{R:It->Hp->Prop}{E:ab->af->Prop}{lo hi:Int}{t u v:Tok}{tk:Nat}(I:eb X pins σ H s)(f:-(2 ^ 62)<=lo)(h:lo<2 ^ 62)(i:-(2 ^ 62)<=hi)(j:hi<2 ^ 62)
  (q:R (Itr lo (hi - lo).toNat) H):ah (model X.prog X.w) X.A (pyIter (.ref s.heap.objs.size)) (PIE X pins σ tg R) E { s with heap:=s.heap.push { cls:=.type "range", data:=.fields #[.int lo t,.int hi u,.int 1 v] },toks:=tk }:=by
 refine wpAny_pyIter_range (IsRange.new ..) (small_one f h i j) ?_;have a:eb X pins σ H { s with heap:=s.heap.push { cls:=.type "range", data:=.fields #[.int lo t,.int hi u,.int 1 v] },toks:=tk }:=I.i0 λb o e=>aX _ e;refine⟨(s.heap.push { cls:=.type "range", data:=.fields #[.int lo t,.int hi u,.int 1 v] }).objs.size,[(s.heap.push { cls:=.type "range", data:=.fields #[.int lo t,.int hi u,.int 1 v] }).objs.size],_,_,H,J,
  a.i0 (t':=tk) λb o e=>aX _ e,JN _ lo (hi - lo).toNat,?_,λb l=>?_,q⟩
 .have c:lo+((0:Nat):Int) * 1=lo:=by simp
  have d:(((hi - lo).toNat:Nat):Int) - ((0:Nat):Int)=qe lo hi 1:=by rw[rangeSize_one];split<;>omega
  show IsRangeIter _ _ (lo+((0:Nat):Int) * 1) ((((hi - lo).toNat:Nat):Int) - ((0:Nat):Int)) 1;rw[c,d];exact bH _ J
 .have e:b=(s.heap.push { cls:=.type "range", data:=.fields #[.int lo t,.int hi u,.int 1 v] }).objs.size:=by simpa using l
  subst e;exact a.Y? (aK _) (a.fc.fresh (aK _))
def SY(b:TA):TI:=λd H R=>b d H λc a=>∃j:Int,c=[.int j]/\-(2 ^ 62)<=j/\j<2 ^ 62/\R (Itr 0 j.toNat) a
def L9{a:Expr}{d:TA}{p pos:Pos}(l:Gl X "range")(m:X.mg "range" = U)(i:PA X [a] d)(o:aw [a] X.b'=[(δ,eval a X.b')]:=by rfl):PI X tg (.Call (.Name "range" p) [a] [] pos) (SY d):=by
 intro b s x H R I h;refine Call_ (Ct I l m boot_range (callWith_type1 (fg (i pos b s x H _ I h) λA z zz=>?_) o J));obtain⟨B,y,f,w,c⟩:=zz;obtain⟨j,e,c,u,q⟩:=c;subst e;cases w with
 |cons r rr=>cases rr;obtain⟨t,rfl⟩:=r;exact call_range_1 (Nl f (by omega) (by omega) c u (by simpa using q))
def Qt(c:TI)(g:TG)(tb:TS):TS:=λD σ H=>c σ H λA' H1=>∃W:Nat->Nat->St->Hp->Prop,(∃m,W 0 m σ H1)/\∀i m σ H,W i m σ H->
 (A'.stop i H/\D.nx σ H)\/(A'.go i H/\∃N:St->Hp->Prop,(∀σ' H',N σ' H'->∃b,b<m/\W (i+1) b σ' H')/\∀x H',A'.yld i H x H'->g x σ H' λa H2=>tb { D with nx:=N,ct:=N,bk:=D.nx } a H2)
def EH(a:List Addr)(h:Heap):cE:=a.filterMap λb=>(h.get? b).map λo=>(b,o)
def wR{h:Heap}(c:b∈a)(e:h.get? b=Z o):(b,o)∈EH a h:=ik.2 ⟨b,c,by rw[e];rfl⟩
def Ma(f:p∈EH c h):p.1∈c/\h.get? p.1=Z p.2:=by
 obtain⟨b,d,e⟩:=ik.1 f;cases q:h.get? b with
 |none=>rw[q]at e;cases e
 |some o=>rw[q]at e;have a:(b,o)=p:=cF e;subst a;exact⟨d,q⟩
def eb.R'(I:eb X a t H s)(m:∀b∈f,Hr X a H b)(q:∀b∈f,∃o,s.heap.get? b=Z o/\∀v,o.data≠.cell v):eb X (a++EH f s.heap) t H s:=
 I.Vs λp r=>(ba.1 r).elim (λz=>I.N' p (bA _ z)) λz=>by obtain⟨h,e⟩:=Ma z;obtain⟨i,j,l,_⟩:=m p.1 h;obtain⟨o,c,d⟩:=q p.1 h;rw[e]at c;cases c;exact⟨e,i,j,l,d⟩
def eb.m?(I:eb X (a++pl) c H s):eb X a c H s:=I.Vs λp b=>I.N' p (bA _ (bB _ b))
def JO(F:kE (model X.prog X.w) X.A X.b' X.xe)(hc:X.nr=γ)(hi:PI X tg iter wi)(hg:PG X tg g)(p:oz X body tb)
  (hs:∀x,gm iter X.b' x=pure x:=by intro _;rfl):PS X (.For tg iter body [] pos) (Qt wi g tb):=by
 intro a s σ H D I h;refine wpAny_For (fg (hi a s σ H _ I h) λv s1 h1=>fg h1 λitv s2 h2=>?_) hs;obtain⟨it,C,tn,A',H2,e,I2,T,Y,f2,W,⟨m0,w0⟩,turn⟩:=h2;subst e;have stat:∀{y:Hp},(∀b∈C,y b=U)->∀b∈C,Hr X a y b:=λhn b p=>⟨hn b p,(f2 b p).2⟩;refine codeAny_forLoop_any (λn s'=>∃i q y,eb X a q y s'/\tn i s'.heap/\(∀b∈C,y b=U)/\W i n q y) ?_ m0 ⟨0,σ,H2,I2,Y,λb p=>(f2 b p).1,w0⟩;rintro n s3 ⟨i,t,O,I3,M,E,w3⟩;rcases turn i n t O w3 with ⟨stop,qn⟩|⟨go,N,hN,step⟩
 .refine gy F (fg (T.done X J J J hc i a s3 t O X.xe I3 (stat E) M stop) λr s4 zz=>?_);obtain⟨R,I4⟩:=zz;subst R;exact jS ⟨t,O,I4,qn⟩
 .refine gy F (fg (T.item X J J J hc i a s3 t O X.xe I3 (stat E) M go) λr s4 zz=>?_);obtain⟨u,R,h4⟩:=zz;subst R;refine gy F (fg h4 λk s5 zz=>?_);obtain⟨x,H5,I5,r5,y5,B,Q⟩:=zz;have P:=I5.R' (stat Q) (T.obj _ _ B);refine gy F (fg (hg _ s5 t H5 x u _ P r5 (step x H5 y5)) λk s6 zz=>?_);obtain⟨σ6,H6,I6,q6⟩:=zz;refine gy F (fg (p _ s6 σ6 H6 _ I6 q6) λf S z=>?_);have again:∀{c:St} {j:Hp},eb X (a++EH C s5.heap) c j S->N c j->∃m,m<n/\∃i q y,eb X a q y S/\tn i S.heap/\(∀b∈C,y b=U)/\W i m q y:=λ{c j} l G=>by obtain⟨m',hm,w7⟩:=hN c j G;refine⟨m',hm,i+1,c,j,l.m?,T.keep _ _ _ B λb p o e=>(l.N' (b,o) (bA _ (bA _ (wR p e)))).1,λb p=>?_,w7⟩;obtain⟨o,e,d⟩:=T.obj _ _ B b p;exact(l.N' (b,o) (bA _ (bA _ (wR p e)))).2.1
  cases f with
  |next=>obtain⟨c,j,l,G⟩:=z;exact again l G
  |cont=>obtain⟨c,j,l,G⟩:=z;exact again l G
  |brk=>obtain⟨c,j,l,z⟩:=z;exact⟨c,j,l.m?,z⟩
  |ret v=>obtain⟨x7,c,j,l,r7,z⟩:=z;exact⟨x7,c,j,l.m?,r7,z⟩
end
def Np{K:ao}{a:Addr}{xs:bD}{g:TG}{tb:TS}{D:Ra}{σ:St}{H:Hp}(Pv:Nat->St->Hp->Prop)(d:Pv 0 σ H)(f:∀i σ H,i<=xs.length->Pv i σ H->fx K H a xs)
  (hs:∀i x σ H,xs[i]?=Z x->Pv i σ H->g x σ H λb H2=>tb { D with nx:=Pv (i+1),ct:=Pv (i+1),bk:=D.nx } b H2) (hd:∀σ H,Pv xs.length σ H->D.nx σ H):
  ∃W:Nat->Nat->St->Hp->Prop,(∃m,W 0 m σ H)/\∀i m σ H,W i m σ H->
   ((Itl K a).stop i H/\D.nx σ H)\/((Itl K a).go i H/\∃N:St->Hp->Prop,(∀σ' H',N σ' H'->∃c,c<m/\W (i+1) c σ' H')/\∀x H',(Itl K a).yld i H x H'->g x σ H' λb H2=>tb { D with nx:=N,ct:=N,bk:=D.nx } b H2):=by
 refine⟨λi m σ H=>m=xs.length - i/\i<=xs.length/\Pv i σ H,⟨xs.length,by simp,cb _,d⟩,?_⟩;rintro i m σ H ⟨rfl,hi,p⟩;have q:=f i σ H hi p;by_cases hlt:i<xs.length
 .refine .inr ⟨⟨xs,xs[i],q,by simp[hlt]⟩,Pv (i+1),λσ' H' h=>⟨xs.length - (i+1),by omega,J,hlt,h⟩,λx H' y=>?_⟩;obtain⟨e,y⟩:=y;subst e;exact hs i x σ _ (y xs q) p
 .have e:i=xs.length:=by omega
  subst e;exact .inl ⟨⟨xs,q,aK _⟩,hd σ H p⟩
abbrev R2:=V->V->Hp->VK->Prop
def g?(X:Cx)(f:ab->ab->Sem ab)(r:R2):Prop:=
 ∀(a:cE) (s:af) (b:St) (H:Hp) (x y:V) (v u:ab) (Q:VK),eb X a b H s->en x v->en y u->r x y H Q->
  ah (model X.prog X.w) X.A (f v u) (EP X a b Q) X.xe s
def tG(X:Cx)(f:ab)(r:bD->Hp->VK->Prop):Prop:=
 ∀(a:cE) (s:af) (d:St) (H:Hp) (c:bD) (b:List ab) (Q:VK),eb X a d H s->eg c b->r c H Q->
  ah (model X.prog X.w) X.A (call f b) (EP X a d Q) X.xe s
def tOp(r:R2)(d tb:TE):TE:=λa H Q=>d a H λx b=>tb a b λy c=>r x y c Q
def rI(C:Int->Int->Prop)(g:Int->Int->V):R2:=λx y H Q=>∃i j,x=.int i/\y=.int j/\C i j/\Q (g i j) H
def K'(g:Int->Int->V):R2:=λx y H Q=>∃i j,x=.int i/\y=.int j/\Q (g i j) H
section
variable{X:Cx}{a b c:Expr}{ta tb tc:TE}{pos:Pos}
def Uc(r:PE X a ta)(t:PE X b tb){d:cE}{s:af}{i:St}{H:Hp}{R:V->V->Hp->Prop}(I:eb X d i H s)
  (h:ta i H λx o=>tb i o λy e=>R x y e) {Q:ab->af->Prop} {f:ab->ab->Sem ab}
  (z:∀v u m x y e,eb X d i e m->en x v->en y u->R x y e->ah (model X.prog X.w) X.A (f v u) Q X.xe m):
  ah (model X.prog X.w) X.A (eval a X.b') (λv j=>ah (model X.prog X.w) X.A (eval b X.b') (λu l=>ah (model X.prog X.w) X.A (f v u) Q X.xe l) X.xe j) X.xe s:=by
 refine fg (r d s i H _ I h) λv G zz=>?_;obtain⟨x,o,p,E,B⟩:=zz;refine fg (t d G i o _ p B) λu m zz=>?_;obtain⟨y,e,q,F,C⟩:=zz;exact z v u m x y e q E F C
def KR(l:g? X (cj m) r)(i:PE X a ta)(j:PE X b tb):PE X (.BinOp a m b pos) (tOp r ta tb):=by intro d s w H Q I h;exact wpAny_BinOp (Uc i j I h λv u t x y e f o p q=>l d t w e x y v u Q f o p q)
def opI{f:ab->ab->Sem ab}{C:Int->Int->Prop}{g:Int->Int->Int}
  (rule:∀(i j:Int) (t u:Tok) (s:af) (Q:ab->af->Prop) (E:ab->af->Prop),C i j->Q (.int (g i j) s.toks) { s with toks:=s.toks+1 }->ah (model X.prog X.w) X.A (f (.int i t) (.int j u)) Q E s):
  g? X f (rI C λi j=>.int (g i j)):=by
 intro pins s σ H x y v u Q I e l h;obtain⟨i,j,rfl,rfl,d,q⟩:=h;obtain⟨t,rfl⟩:=e;obtain⟨m,rfl⟩:=l;exact rule i j t m s _ _ d ⟨.int (g i j),H,I.tj _,⟨_,J⟩,q⟩
def Ud{f:ab->ab->Sem ab}{g:Int->Int->Int}
  (rule:∀(i j:Int) (t u:Tok) (s:af) (Q:ab->af->Prop) (E:ab->af->Prop),Q (.int (g i j) s.toks) { s with toks:=s.toks+1 }->ah (model X.prog X.w) X.A (f (.int i t) (.int j u)) Q E s):
  g? X f (K' λi j=>.int (g i j)):=by
 intro pins s σ H x y v u Q I d e h;obtain⟨i,j,rfl,rfl,q⟩:=h;obtain⟨t,rfl⟩:=d;obtain⟨l,rfl⟩:=e;exact rule i j t l s _ _ ⟨.int (g i j),H,I.tj _,⟨_,J⟩,q⟩
def Qu{f:ab->ab->Sem ab}{g:Int->Int->Bool}
  (rule:∀(i j:Int) (t u:Tok) (s:af) (Q:ab->af->Prop) (E:ab->af->Prop),Q (.bool (g i j)) s->ah (model X.prog X.w) X.A (f (.int i t) (.int j u)) Q E s):
  g? X f (K' λi j=>.I (g i j)):=by
 intro d s o H x y v u Q I e l h;obtain⟨i,j,rfl,rfl,q⟩:=h;obtain⟨t,rfl⟩:=e;obtain⟨m,rfl⟩:=l;exact rule i j t m s _ _ ⟨.I (g i j),H,I,J,q⟩
def Ue(i j:Int):Prop:=0<j/\j<1073741824
def XQ(i j:Int):Prop:=0<=j/\j<=1000000/\i.natAbs<2 ^ 64
def Qv(i j:Int):Prop:=(-(2 ^ 64)<i/\i<2 ^ 64)\/(-(2 ^ 64)<j/\j<2 ^ 64)
def Qv.ok(h:Qv i j):IntMulOk i j:=by
 rcases h with ⟨d,e⟩|⟨d,e⟩
 .exact .of_left (nQ d e)
 .exact .of_right (nQ d e)
def JP(k:Nat):(0:Int)<=2 ^ k:=by rw[two_pow_cast];exact Int.natCast_nonneg _
def Ug:g? X (cj .Add) (K' λi j=>.int (i+j)):=Ud λz z z z z z z q=>add_int q
def Uh:g? X (cj .Sub) (K' λi j=>.int (i - j)):=Ud λz z z z z z z q=>sub_int q
def Ui:g? X (cj .Mult) (rI Qv λi j=>.int (i * j)):=opI λz z z z z z z d q=>mul_int q d.ok
def Qw:g? X (cj .FloorDiv) (rI Ue λi j=>.int (i / j)):=opI λi j z z z z z d q=>by have e:(0:Int)<j:=d.1;have f:j<1073741824:=d.2;exact floordiv_int (by omega) (by rw[kY i (by omega)];exact q) (.inl (PyProof.noPylong_small (by omega)))
def Uj:g? X (cj .Mod) (rI (λz j=>0<j) λi j=>.int (i % j)):=opI λi j z z z z z d q=>by have e:(0:Int)<j:=d;exact mod_int' (by omega) (by rw[Int.fmod_eq_emod_of_nonneg i (by omega)];exact q)
def Uk:g? X (cj .Pow) (rI XQ λi j=>.int (i ^ j.toNat)):=opI λz z z z z z z d q=>pow_int_small d.1 d.2.1 d.2.2 q
def Ul:g? X (cj .RShift) (rI (λz j=>0<=j) λi j=>.int (i / 2 ^ j.toNat)):=opI λi j z z z z z d q=>
 rshift_int d (by rw[kY i (JP _)];exact q)
def Um:g? X (cj .BitAnd) (K' λi j=>.int (iO i j)):=Ud λz z z z z z z q=>and_int q
end
def Nq:V->V->Bool
 |.E,.E=>γ|.E,.int _=>γ|.int _,.E=>γ|.E,.I _=>γ|.I _,.E=>γ|.E,.str _=>γ|.str _,.E=>γ
 |.int _,.int _=>γ|.I _,.I _=>γ|.str _,.str _=>γ|.Q _,.Q _=>γ
 |.int _,.str _=>γ|.str _,.int _=>γ|.I _,.str _=>γ|.str _,.I _=>γ
 |_,_=>δ
def rEq:R2:=λx y H Q=>Nq x y=γ/\Q (.I (decide (x=y))) H
def rNe:R2:=λx y H Q=>Nq x y=γ/\Q (.I (!decide (x=y))) H
def KU:decide (V.int i=V.int j)=(i==j):=by rw[dR];simp
def Nr:decide (V.I i=V.I j)=(i==j):=by rw[dR];simp
def KW:decide (V.str i=V.str j)=(i==j):=by rw[dR];simp
def KY:decide (V.Q i=V.Q j)=(i.toList==j.toList):=by rw[dR];cases i;cases j;simp
section
variable{X:Cx}{a b c:Expr}{ta tb tc:TE}{pos:Pos}
def rV(I:eb X d h H s)(q:Q (.I k) H)(e:k=f):EP X d h Q (.bool f) s:=by subst e;exact⟨.I k,H,I,J,q⟩
def XR:g? X (bh .Eq) rEq:=by
 intro m s o H x y v u Q I l d h;obtain⟨f,q⟩:=h;cases x with
 |E=>
  cases l;cases y with
  |E=>cases d;exact pH (rV I q (by simp))
  |I j=>cases d;exact pI (rV I q (by simp))
  |int j=>obtain⟨e,rfl⟩:=d;exact pU (rV I q (by simp))
  |str j=>obtain⟨e,rfl⟩:=d;exact pV (rV I q (by simp))
  |_=>exact ar (show δ=γ from f) br
 |I i=>
  cases l;cases y with
  |E=>cases d;exact pJ (rV I q (by simp))
  |I j=>cases d;exact eq_bool (rV I q Nr)
  |str j=>obtain⟨e,rfl⟩:=d;exact pK (rV I q (by simp))
  |_=>exact ar (show δ=γ from f) br
 |int i=>
  obtain⟨t,rfl⟩:=l;cases y with
  |E=>cases d;exact pW (rV I q (by simp))
  |int j=>obtain⟨e,rfl⟩:=d;exact eq_int (rV I q KU)
  |str j=>obtain⟨e,rfl⟩:=d;exact pX (rV I q (by simp))
  |_=>exact ar (show δ=γ from f) br
 |str i=>
  obtain⟨t,rfl⟩:=l;cases y with
  |E=>cases d;exact pY (rV I q (by simp))
  |I j=>cases d;exact pL (rV I q (by simp))
  |int j=>obtain⟨e,rfl⟩:=d;exact pZ (rV I q (by simp))
  |str j=>obtain⟨e,rfl⟩:=d;exact eq_str (rV I q KW)
  |_=>exact ar (show δ=γ from f) br
 |Q i=>
  obtain⟨t,rfl⟩:=l;cases y with
  |Q j=>obtain⟨e,rfl⟩:=d;exact W.eq_bytes (rV I q KY)
  |_=>exact ar (show δ=γ from f) br
 |_=>cases y<;>exact ar (show δ=γ from f) br
def XS:g? X (bh .NotEq) rNe:=by
 intro m s o H x y v u Q I l d h;obtain⟨f,q⟩:=h;cases x with
 |E=>
  cases l;cases y with
  |E=>cases d;exact pM (rV I q (by simp))
  |I j=>cases d;exact pO (rV I q (by simp))
  |int j=>obtain⟨e,rfl⟩:=d;exact p0 (rV I q (by simp))
  |str j=>obtain⟨e,rfl⟩:=d;exact p8 (rV I q (by simp))
  |_=>exact ar (show δ=γ from f) br
 |I i=>
  cases l;cases y with
  |E=>cases d;exact pQ (rV I q (by simp))
  |I j=>cases d;exact ne_bool (rV I q (bG not Nr))
  |str j=>obtain⟨e,rfl⟩:=d;exact pR (rV I q (by simp))
  |_=>exact ar (show δ=γ from f) br
 |int i=>
  obtain⟨t,rfl⟩:=l;cases y with
  |E=>cases d;exact p9 (rV I q (by simp))
  |int j=>obtain⟨e,rfl⟩:=d;exact ne_int (rV I q (bG not KU))
  |str j=>obtain⟨e,rfl⟩:=d;exact qa (rV I q (by simp))
  |_=>exact ar (show δ=γ from f) br
 |str i=>
  obtain⟨t,rfl⟩:=l;cases y with
  |E=>cases d;exact qb (rV I q (by simp))
  |I j=>cases d;exact pS (rV I q (by simp))
  |int j=>obtain⟨e,rfl⟩:=d;exact qc (rV I q (by simp))
  |str j=>obtain⟨e,rfl⟩:=d;exact ne_str (rV I q (bG not KW))
  |_=>exact ar (show δ=γ from f) br
 |Q i=>
  obtain⟨t,rfl⟩:=l;cases y with
  |Q j=>obtain⟨e,rfl⟩:=d;exact W.ne_bytes (rV I q (bG not KY))
  |_=>exact ar (show δ=γ from f) br
 |_=>cases y<;>exact ar (show δ=γ from f) br
def XT:g? X (bh .Lt) (K' λi j=>.I (decide (i<j))):=Qu λz z z z z z z q=>lt_int q
def XU:g? X (bh .LtE) (K' λi j=>.I (decide (i<=j))):=Qu λz z z z z z z q=>le_int q
def XW:g? X (bh .Gt) (K' λi j=>.I (decide (j<i))):=Qu λz z z z z z z q=>gt_int q
def XX:g? X (bh .GtE) (K' λi j=>.I (decide (j<=i))):=Qu λz z z z z z z q=>ge_int q
def Uo:g? X (bh .Is) (λx y H Q=>y=.E/\Q (.I (decide (x=.E))) H):=by
 intro d s i H x y v u Q I e f h;obtain⟨rfl,q⟩:=h;cases f;refine is_none_gen (rV I q ?_);cases x<;>first
  |(cases e;rfl)
  |(obtain⟨t,rfl⟩:=e;rfl)
def Qx:g? X (bh .IsNot) (λx y H Q=>y=.E/\Q (.I (!decide (x=.E))) H):=by
 intro d s i H x y v u Q I e f h;obtain⟨rfl,q⟩:=h;cases f;refine isnot_none_gen (rV I q ?_);cases x<;>first
  |(cases e;rfl)
  |(obtain⟨t,rfl⟩:=e;rfl)
def Qy(o:g? X (bh e) r)(j:PE X a ta)(l:PE X b tb)(m:eJ e b=δ):PE X (.Compare a [e] [b] pos) (tOp r ta tb):=by intro d s z H Q I h;exact wpAny_Compare1 (Uc j l I h λv u w x y f i p t q=>o d w z f x y v u Q i p t q) m
def Nt(t:TE):TT:=λe H Q=>t e H λx d=>∃k,x=.I k/\Q k d
def Qz(B:g? X (bh i) r)(t:PE X a ta)(w:PE X b tb)(A:eJ i b=δ):PT X (.Compare a [i] [b] pos) (Nt (tOp r ta tb)):=by
 intro d s f H Q I h;refine lK (fg (t d s f H _ I h) λv O ⟨x,j,o,G,C⟩=>fg (w d O f j _ o C) λu P ⟨y,l,p,M,E⟩=>
  fg (B d P f l x y v u _ p G M E) λc R ⟨z,m,q,N,k,e,F⟩=>?_) A
 subst e;cases N;exact c4 ⟨m,q,F⟩
def JQ(r j:R2)(ta tb tc:TE):TE:=λd H Q=>ta d H λx f=>tb d f λy h=>r x y h λz e=>∃k,z=.I k/\
 (if k=γ then tc d e λl i=>j y l i Q else Q (.I δ) e)
def Nu(P:g? X (bh p) r)(l:g? X (bh i) W)(G:PE X a ta)(M:PE X b tb)(N:PE X c tc)
  (O:lastMarks [p,i] [b,c]=δ:=by with_unfolding_all rfl):PE X (.Compare a [p,i] [b,c] pos) (JQ r W ta tb tc):=by
 intro f s j H Q I h;refine Compare_chain (fg (G f s j H _ I h) λv s1 ⟨x,w,C,Y,R⟩=>chain_link (fg (M f s1 j w _ C R) λu s2 ⟨y,A,E,t,S⟩=>
  fg (P f s2 j A x y v u _ E Y t S) λd s3 ⟨z,m,o,r3,k,e,q⟩=>?_)) O
 subst e;cases r3;refine c4 ?_;cases k with
 |false=>exact ite_ff ⟨.I δ,m,o,J,q⟩
 |true=>exact ite_tt (chain_last (fg (N f s3 j m _ o q) λw' s4 ⟨z',B,F,r4,T⟩=>l f s4 j B y z' u w' Q F t r4 T))
def Nv(W:g? X (bh p) r)(l:g? X (bh i) r')(P:PE X a ta)(R:PE X b tb)(S:PE X c tc)
  (T:lastMarks [p,i] [b,c]=δ:=by with_unfolding_all rfl):PT X (.Compare a [p,i] [b,c] pos) (Nt (JQ r r' ta tb tc)):=by
 intro f s j H Q I h;refine isTrue_chain (fg (P f s j H _ I h) λv s1 ⟨x,w,E,r1,q1⟩=>test_link (fg (R f s1 j w _ E q1) λu s2 ⟨y,A,F,t,q2⟩=>
  fg (W f s2 j A x y v u _ F r1 t q2) λd s3 ⟨z,m,o,r3,k,e,q⟩=>?_)) T
 subst e;cases r3;refine c4 ?_;cases k with
 |false=>obtain⟨k',N,Y⟩:=q;cases N;exact ite_ff ⟨m,o,Y⟩
 |true=>refine ite_tt (test_last (fg (S f s3 j m _ o q) λw' s4 ⟨z',B,G,r4,q4⟩=>fg (l f s4 j B y z' u w' _ G t r4 q4) λd' s5 ⟨z2,C,M,r5,k2,O,q5⟩=>?_));subst O;cases r5;exact c4 ⟨C,M,q5⟩
def EI:(aB:Nat)<2 ^ 63:=by rw[cw];decide
def JR:g? X (cj .Add) (λx y H Q=>∃i j,x=.str i/\y=.str j/\i.length+j.length<=aB/\Q (.str (i++j)) H):=by intro d s p H x y v u Q I f l h;obtain⟨i,j,rfl,rfl,e,q⟩:=h;obtain⟨t,rfl⟩:=f;obtain⟨m,rfl⟩:=l;exact add_str (λm o=>⟨.str (i++j),H,I.tj _,⟨_,J⟩,q⟩) e
def mi(r:eg [x] f):∃u,f=[u]/\en x u:=by
 cases r with
 |cons d e=>cases e;exact⟨_,J,d⟩
def vals2(r:eg [x,y] j):∃u d,j=[u,d]/\en x u/\en y d:=by
 cases r with
 |cons e f=>
  cases f with
  |cons h i=>cases i;exact⟨_,_,J,e,h⟩
def Mb:tG X (.type "int") (λd H Q=>(∃i,d=[.int i]/\Q (.int i) H)\/∃k,d=[.I k]/\Q (.int (if k then 1 else 0)) H):=by
 intro e s l H d j Q I r h;rcases h with ⟨i,rfl,q⟩|⟨k,rfl,q⟩
 .obtain⟨u,rfl,t,rfl⟩:=mi r;exact call_int_int ⟨.int i,H,I,⟨_,J⟩,q⟩
 .obtain⟨u,rfl,f⟩:=mi r;cases f;exact call_int_bool ⟨.int (if k then 1 else 0),H,I.tj _,⟨_,J⟩,q⟩
end
structure JS(h:Heap)(x dx C:Addr)(mA:Str->Option ab):Prop where
 obj:h.get? x=Z (dA C dx)
 ns:h.Ns1 dx mA
 ne:dx≠x
set_option tactic.hygienic true
def Mc{h:Heap}(n:h.Ns1 f mA):∃c,h.get? f=Z c/\∀name,i7 name c=Z (mA name):=by
 obtain⟨o,b,p,l,hd,i,_,j⟩:=n;refine⟨o,l,λname=>?_⟩;have e:=j name;unfold nsFind findBy at e;rw[<-Array.find?_toList]at e;unfold i7;rw[hd];dsimp only;split
 .rename_i y q;rw[q]at e;exact bG Z e
 .rename_i q;rw[q]at e;have a:b.toList.any (·.refKey)=δ:=by rw[mK];intro y m;obtain⟨z,t,hkey⟩:=i y (Array.mem_toList_iff.1 m);simp[DictEntry.refKey,hkey]
  have d:¬b.toList.any (·.refKey)=γ:=by rw[a];exact br
  rw[ak d];exact bG Z e
set_option tactic.hygienic false
def JS.look(I:JS h x b C mA):∃a,W.InstAt h x (dA C b) C (Z a)/\∀name,i7 name a=Z (mA name):=
 let ⟨a,d,c⟩:=Mc I.ns
 ⟨a,⟨I.obj,J,J,d⟩,c⟩
section
variable{prog:aI}{w:ay}{A:aM}{E:ab->af->Prop}{s:af}{K:ao}{x dx C f:Addr}{mA:Str->Option ab}{name:Str}{v:ab}
def get_map(X:K.In s.heap)(I:JS s.heap x dx C mA)(hg:iY K C name=γ)(b:kx K C=γ)
  (ha:cH K (.ref C) name=Z U) (d:mA name=Z v) (a:W.handedIn v=γ) (h:Q v { s with toks:=s.toks+1 }):
  ah (model prog w) A (getAttr (.ref x) name expr) Q E s:=by
 obtain⟨od,A',c⟩:=I.look;exact W.get_value X A' (j3 hg).1 (W.findObj_own b ha J (by rw[c,d])) a h
def Nw(X:K.In s.heap)(I:JS s.heap x dx C mA)(a:iY K C name=γ)
  (c:cH K (.ref C) name=Z (Z (.ref f))) (e:i9 K (.ref f)=γ) (i:mA name=U) (h:Q (.ref f,[.ref x]) s):
  ah (model prog w) A (getMethod (.ref x) name pl) Q E s:=by
 obtain⟨j,b,d⟩:=I.look;exact W.method_fn X b (j3 a).1 (j3 a).2 c (beq_iff_eq.mp e) (by show (i7 name j).map (·.isSome)=Z δ;rw[d,i];rfl) h
def QA(X:K.In s.heap)(I:JS s.heap x dx C mA)
  (hs:cH K (.ref C) "__setattr__" = Z (Z (.builtin "object.__setattr__"))) (l:oh K C=γ) (o:kF K C name=Z U) (j:kx K C=γ)
  (hw:j9 mA ns) (m:ns.length<=aB)
  (h:∀h',JS h' x dx C (λy=>if y=name then Z v else mA y)->fM dx s.heap h'->Q () { s with heap:=h',toks:=s.toks+2 }):
  ah (model prog w) A (setAttr (.ref x) name v) Q E s:=by
 obtain⟨od,A',q⟩:=I.look;refine W.set_plain X A' hs (W.osa_open (s:={ s with toks:=s.toks+1 }) (r:=U) X A' l o λb=>?_);obtain⟨cd,i,e⟩:=W.any_some j;have p:s.heap.get? x=Z ⟨.ref C,Z dx,.plain,#[]⟩:=I.obj;refine aq (aA (aq (aq (wpAny_loadPart p (aq (W.Looks.here (s:={ s with toks:=s.toks+1 }) (W.looks_clsIn X i) ?_))))));rw[e];refine aA (a:=Z dx) (aq (aA (aq ?_)));refine wpAny_nsSet1 (s:={ s with toks:=s.toks+1 }) I.ns λh' c d=>?_;obtain⟨oD,esD,epD,hoD,hdD,hcD⟩:=c.count (qP name v hw);refine aq (wpAny_lookBehind hoD (by rw[hdD];exact pastItsLine_dict (bf hcD (by rw[aF];omega))) ?_);exact aA (h _ ⟨(d.2 _ (eS I.ne)).t I.obj,c,I.ne⟩ d)
def Nx(X:K.In s.heap)(hm:kG K C=γ)
  (hi:cH K (.ref C) "__init__" = Z (Z (.ref f))) (b:W.typeIn K (.ref f)=Z (.type "function"))
  (h:cn (model prog w) (A.under (.builtin "type.__call__" ⟨.ref C::vs,a⟩)) (.call (.ref f) ⟨.ref (s.heap.objs.size+1)::vs,a⟩) (W.InitBack (s.heap.objs.size+1) R)
   { s with heap:=(s.heap.push dc).push (dA C s.heap.objs.size) }):
  cn (model prog w) A (.call (.ref C) ⟨vs,a⟩) R s:=by
 obtain⟨c,g,d,t,os⟩:=s;exact oi (kD X hm) (ny X hi) (λself=>W.bind_fn X self b) (.inl J) h
def Md(X:K.In s.heap)(hm:kG K C=γ)
  (hi:cH K (.ref C) "__init__" = Z (Z (.builtin "object.__init__")))
  (a:∀self,W.Looks (model prog w) s.heap (bindSpecial (.builtin "object.__init__") self) (.builtin "object.__init__", [self]))
  (h:cn (model prog w) (A.under (.builtin "type.__call__" ⟨[.ref C],[]⟩)) (.call (.builtin "object.__init__") ⟨[.ref (s.heap.objs.size+1)],[]⟩) (W.InitBack (s.heap.objs.size+1) R)
   { s with heap:=(s.heap.push dc).push (dA C s.heap.objs.size) }):
  cn (model prog w) A (.call (.ref C) ⟨[],[]⟩) R s:=by
 obtain⟨b,g,d,t,os⟩:=s;exact oi (kD X hm) (ny X hi) a (.inr ⟨J,J⟩) h
end
def ye(f:Str)(v:V):List (Str×V)->List (Str×V)
 |[]=>[(f,v)]
 |(g,x)::r=>if g=f then (g,v)::r else (g,x)::ye f v r
theorem Dm(f g:Str)(v:V):∀fs:List (Str×V),(ye f v fs).lookup g=if g=f then Z v else fs.lookup g
 |[]=>by
  show c5 g [(f,v)]=_;by_cases h:g=f
  .have a:(g==f)=γ:=beq_iff_eq.mpr h;simp only[c5,a,aj h]
  .have a:(g==f)=δ:=beq_eq_false_iff_ne.2 h;simp only[c5,a,ak h]
 |(k,x)::r=>by
  have c:=Dm f g v r;rw[show ye f v ((k,x)::r)=(if k=f then (k,v)::r else (k,x)::ye f v r) from J];by_cases b:k=f
  .rw[aj b];by_cases h:g=k
   .have a:(g==k)=γ:=beq_iff_eq.mpr h;simp only[c5,a,aj (h.t b)]
   .have a:(g==k)=δ:=beq_eq_false_iff_ne.2 h;simp only[c5,a,ak (λe:g=f=>h (e.t b.symm))]
  .rw[ak b];by_cases h:g=k
   .have a:(g==k)=γ:=beq_iff_eq.mpr h;simp only[c5,a,ak (λe:g=f=>b (h.symm.t e))]
   .have a:(g==k)=δ:=beq_eq_false_iff_ne.2 h;simp only[c5,a];exact c
theorem Cu(f:Str)(v:V):∀fs:List (Str×V),f∈(ye f v fs).map (·.1)/\∀g,g∈fs.map (·.1)->g∈(ye f v fs).map (·.1)
 |[]=>⟨by simp[ye],λg h=>by simp at h⟩
 |(k,x)::r=>by
  obtain⟨b,c⟩:=Cu f v r;rw[show ye f v ((k,x)::r)=(if k=f then (k,v)::r else (k,x)::ye f v r) from J];by_cases a:k=f
  .rw[aj a];subst a;exact⟨by simp,λg h=>by simpa using h⟩
  .rw[ak a];refine⟨?_,λg h=>?_⟩
   .rw[aR];exact aY _ b
   .rw[aR]at h ⊢;rcases aN.1 h with e|e
    .exact aN.2 (.inl e)
    .exact aY _ (c g e)
theorem Dn(f:Str)(v:V):∀fs:List (Str×V),(ye f v fs).length<=fs.length+1
 |[]=>by simp[ye]
 |(k,x)::r=>by
  have b:=Dn f v r;rw[show ye f v ((k,x)::r)=(if k=f then (k,v)::r else (k,x)::ye f v r) from J];by_cases a:k=f
  .rw[aj a,aF,aF];omega
  .rw[ak a,aF,aF];omega
def zH.D0(r:zH (Z v) o):∃u,o=Z u/\en v u:=by
 cases o with
 |none=>exact(show False from r).elim
 |some u=>exact⟨u,J,r⟩
def zH.none_of(r:zH U o):o=U:=by
 cases o with
 |none=>rfl
 |some u=>exact(show False from r).elim
def Mg(r:en v u):W.handedIn u=γ:=by
 cases v with
 |E=>cases (show u=Value.none from r);rfl
 |I b=>cases (show u=Value.bool b from r);rfl
 |int i=>obtain⟨t,e⟩:=(show ∃t,u=Value.int i t from r);cases e;rfl
 |str x=>obtain⟨t,e⟩:=(show ∃t,u=Value.str x t from r);cases e;rfl
 |Q b=>obtain⟨t,e⟩:=(show ∃t,u=Value.bytes b t from r);cases e;rfl
 |flt b=>obtain⟨t,e⟩:=(show ∃t,u=Value.float b t from r);cases e;rfl
 |ref a=>cases (show u=Value.ref a from r);rfl
 |ty n=>cases (show u=Value.type n from r);rfl
section
variable{P:aI}{w:ay}{H H':Hp}{h h':Heap}{a C dx:Addr}{fs fs':List (Str×V)}
def BC(fc:pa P w H h)(e:H a=Z (.ll C dx fs)):∃mA,JS h a dx C mA/\(∀f,zH (fs.lookup f) (mA f))/\j9 mA (fs.map (·.1))/\fs.length<=1000/\H dx=Z (.gi a):=by obtain⟨d,z,b,c,mA,n,r,q⟩:=(show e4 P w H h a (.ll C dx fs) from fc a _ e);exact⟨mA,⟨c,n,b⟩,r,q,z,d⟩
end
structure Ms(K:ao)(C:Addr):Prop where
 pg:iY K C Str.empty=γ
 hd:kx K C=γ
 po:oh K C=γ
 sa:cH K (.ref C) "__setattr__" = Z (Z (.builtin "object.__setattr__"))
def Ms.get{K:ao}{C:Addr}(c:Ms K C)(f:Str):iY K C f=γ:=c.pg
def xT(K:ao)(C:Addr)(f:Str):Prop:=cH K (.ref C) f=Z U
def xT.taker{K:ao}{C:Addr}{f:Str}(n:xT K C f):kF K C f=Z U:=by unfold kF;rw[show cH K (.ref C) f=Z U from n];rfl
structure Meth(K:ao)(C:Addr)(m:Str)(f:Addr):Prop where
 xo:cH K (.ref C) m=Z (Z (.ref f))
 fn:i9 K (.ref f)=γ
 kp:de K (.ref f)=γ
section
variable{X:Cx}{pins:cE}{σ:St}{H:Hp}{s:af}{a C dx:Addr}{fs:List (Str×V)}{f:Str}{v:V}{A:aM}{E:ab->af->Prop}
def JT(I:eb X pins σ H s)(e:H a=Z (.ll C dx fs))(c:Ms X.K C)(n:xT X.K C f)(l:fs.lookup f=Z v)
  (h:∀u i,eb X pins σ H i->en v u->Q u i):ah (model X.prog X.w) A (getAttr (.ref a) f b) Q E s:=by
 obtain⟨mA,O,r,_,_,_⟩:=BC I.fc e;obtain⟨u,j,d⟩:=zH.D0 (v:=v) (o:=mA f) (by rw[<-l];exact r f);exact get_map I.nq O (c.get f) c.hd n j (Mg d) (h u _ (I.tj _) d)
def EJ(I:eb X pins σ H s)(e:H a=Z (.ll C dx fs))(c:Ms X.K C)(k:Meth X.K C m g)(l:fs.lookup m=U)
  (h:Q (.ref g,[.ref a]) s):ah (model X.prog X.w) A (getMethod (.ref a) m pl) Q E s:=by
 obtain⟨mA,O,r,_,_,_⟩:=BC I.fc e;have b:mA m=U:=zH.none_of (by rw[<-l];exact r m);exact Nw I.nq O (c.get m) k.xo k.fn b h
def JU(I:eb X pins σ H s)(e:H a=Z (.ll C dx fs))(c:Ms X.K C)(n:xT X.K C f)(N:fs.length<1000)(G:en y u)
  (h:∀j,eb X pins σ (e3 H a (.ll C dx (ye f y fs))) j->Q () j):ah (model X.prog X.w) A (setAttr (.ref a) f u) Q E s:=by
 obtain⟨mA,O,r,l,_,i⟩:=BC I.fc e;have F:(fs.map (·.1)).length<=aB:=by rw[ae,cw];omega
 refine QA I.nq O c.sa c.po n.taker c.hd l F λp d M=>h _ ?_;have hd:∃o,p.get? dx=Z o:=let ⟨o,_,_,m,_⟩:=d.ns;⟨o,m⟩;refine I.vf (x:=a) (e:=dx) (by rw[e];exact True.intro) (.inr i) (λb q t z=>(M.2 b t).t z) hd ?_;refine⟨by rw[rg O.ne];exact i,?_,O.ne,d.obj,_,d.ns,λg=>?_,λg B=>?_⟩
 .have:=Dn f y fs;omega
 .show zH ((ye f y fs).lookup g) (if g=f then Z u else mA g);rw[Dm];by_cases q:g=f
  .rw[aj q,aj q];exact G
  .rw[ak q,ak q];exact r g
 .by_cases q:g=f
  .rw[q];exact(Cu f y fs).1
  .refine(Cu f y fs).2 g (l g λz=>B ?_);show (if g=f then Z u else mA g)=U;rw[ak q];exact z
def eb.made(I:eb X pins σ H s):eb X pins σ (e3 (e3 H s.heap.objs.size (.gi (s.heap.objs.size+1))) (s.heap.objs.size+1) (.ll C s.heap.objs.size []))
  { s with heap:=(s.heap.push dc).push (dA C s.heap.objs.size) }:=by
 have c:(s.heap.push dc).get? s.heap.objs.size=Z dc:=bH s.heap J;have h:((s.heap.push dc).push (dA C s.heap.objs.size)).get? (s.heap.objs.size+1)=Z (dA C s.heap.objs.size):=by
  have:=bH (s.heap.push dc) (o:=dA C s.heap.objs.size) J
  rwa [eI]at this
 have i:(s.heap.push dc).Ns s.heap.objs.size (λz=>U):=⟨dc,#[],_,c,J,(λe j=>ar j (by simp)),λz=>J⟩;have d:=I.laid (a:=s.heap.objs.size) (o:=.gi (s.heap.objs.size+1)) (h':=s.heap.push dc) (t':=s.toks) (λb u q=>aX _ q) (aK _) ⟨_,c⟩;refine d.laid (a:=s.heap.objs.size+1) (o:=.ll C s.heap.objs.size []) (t':=s.toks) (λb u q=>aX _ q) (nY (eI _ _)) ?_;have ne:s.heap.objs.size≠s.heap.objs.size+1:=bu (fE _);refine⟨by rw[rg ne,rb],cb _,ne,h,λz=>U,(Heap.Ns1.of_empty i).at λo q=>aX _ q,λz=>True.intro,λy l=>ar J l⟩
def QB(c:du e f b' (eval e b')=eval e b')
  (h:ah (model prog w) A (eval e b') (λo b=>ah (model prog w) A (getAttr o f γ) Q E b) E s):ah (model prog w) A (eval (.Attribute e f pos) b') Q E s:=
 Attribute_any_ h (by rw[arm_eval_Attribute,c])
end
def Zv(K:ao)(d:TE)(f:Str):TE:=λe H Q=>d e H λx b=>∃a C c fs v,x=.ref a/\b a=Z (.ll C c fs)/\Ms K C/\xT K C f/\fs.lookup f=Z v/\Q v b
def XY(K:ao)(h i:TE)(f:Str):TS:=λD b H=>i b H λy e=>h b e λx c=>∃a C d fs,x=.ref a/\c a=Z (.ll C d fs)/\Ms K C/\xT K C f/\fs.length<1000/\
 D.nx b (e3 c a (.ll C d (ye f y fs)))
section
variable{X:Cx}{o e value:Expr}{f:Str}{pos pos' tpos:Pos}{ta tv:TE}
def Up(t:PE X e ta)(r:du e f X.b' (eval e X.b')=eval e X.b'):PE X (.Attribute e f pos) (Zv X.K ta f):=by intro b s z H Q I h;refine QB r (fg (t b s z H _ I h) λu B zz=>?_);obtain⟨x,d,i,y,a,C,A,fs,v,p,m,c,n,l,q⟩:=zz;subst p;obtain rfl:u=Value.ref a:=y;exact JT i m c n l λF E j w=>⟨v,d,j,w,q⟩
def Uq(w:PE X o ta)(A:PE X value tv)(z:cY value (Z (.Attribute o f pos')) pos.line X.b'=pure δ):PS X (.Assign [.Attribute o f pos'] value pos) (XY X.K ta tv f):=by intro b s d H D I h;refine plainObj_wpAny_Assign_Attribute (fg (A b s d H _ I h) λu M ⟨y,i,j,G,q⟩=>fg (w b M d i _ j q) λB P zz=>?_) z;obtain⟨x,N,m,F,a,C,O,fs,t,r,c,n,l,E⟩:=zz;subst t;obtain rfl:B=Value.ref a:=F;exact JU m r c n l G λQ p=>⟨d,_,p,E⟩
end
section
variable{X:Cx}{pins:cE}{σ:St}{H:Hp}{s:af}{A:aM}{E:ab->af->Prop}{Q:ab->af->Prop}{c:ab}{b:Bool}
inductive Ej(K:ao) (H:Hp):V->ab->Prop where
 |E:Ej K H .E (.type "NoneType")
 |I (x:Bool):Ej K H (.I x) (.type "bool")
 |int (i:Int):Ej K H (.int i) (.type "int")
 |str (x:Str):Ej K H (.str x) (.type "str")
 |flt (x:UInt64):Ej K H (.flt x) (.type "float")
 |b0 {a:Addr} {xs:bD} (e:H a=Z (.b0 xs)):Ej K H (.ref a) (.type "list")
 |n' {a:Addr} {o:Obj} {xs:bD} (e:H a=Z (.n' o (.b0 xs))):Ej K H (.ref a) (.type "list")
 |ea {a:Addr} {xs:bD} (e:H a=Z (.ea xs)):Ej K H (.ref a) (.type "tuple")
 |dK {a:Addr} {kvs:List (eu×V)} (e:H a=Z (.dK kvs)):Ej K H (.ref a) (.type "dict")
 |dT {a:Addr} {kvs:List (List eu×V)} (e:H a=Z (.dT kvs)):Ej K H (.ref a) (.type "dict")
 |ll {a C dx:Addr} {fs:List (Str×V)} (e:H a=Z (.ll C dx fs)) (cl:Ms K C) (ha:cH K (.ref C) "__class__" = Z (Z (.builtin "object.__class__")))
   (hn:oj K (.builtin "object.__class__") "__get__" = Z (Z (.builtin "getset_descriptor.__get__"))) (htk:W.takesIn K (.builtin "object.__class__")=Z γ)
   (hm:W.mroIn K C (.type "object")=Z γ):Ej K H (.ref a) (.ref C)
def wJ(I:eb X pins σ H s)(f:en x u)(ty:Ej X.K H x t)(e:cI X.K t c=Z b)(h:∀tk,Q (.bool b) { s with toks:=tk }):
  ah (model X.prog X.w) A (call (.builtin "isinstance") [u,c]) Q E s:=by
 cases ty with
 |E=>cases (show u=Value.none from f);exact cy om I.nq True.intro e (λz=>nomatch z) h
 |I y=>cases (show u=Value.bool y from f);exact cy oo I.nq True.intro e (λz=>nomatch z) h
 |int i=>obtain⟨t,q⟩:=(show ∃t,u=Value.int i t from f);cases q;exact cy W.kitx_int I.nq True.intro e (λz=>nomatch z) h
 |str y=>obtain⟨t,q⟩:=(show ∃t,u=Value.str y t from f);cases q;exact cy W.kitx_str I.nq True.intro e (λz=>nomatch z) h
 |flt y=>obtain⟨t,q⟩:=(show ∃t,u=Value.float y t from f);cases q;exact cy W.kitx_float I.nq True.intro e (λz=>nomatch z) h
 |@b0 a xs d=>cases (show u=Value.ref a from f);obtain⟨_,_,n,_,j⟩:=(show e4 X.prog X.w H s.heap a (.b0 xs) from I.fc a _ d);exact cy gB I.nq ⟨_,j,J⟩ e (λz=>nomatch z) h
 |@n' a ob xs d=>cases (show u=Value.ref a from f);obtain⟨_,_,_,n,_,j⟩:=(show e4 X.prog X.w H s.heap a (.n' ob (.b0 xs)) from I.fc a _ d);exact cy gB I.nq ⟨_,j,J⟩ e (λz=>nomatch z) h
 |@ea a xs d=>cases (show u=Value.ref a from f);obtain⟨_,_,_,p,_⟩:=(show e4 X.prog X.w H s.heap a (.ea xs) from I.fc a _ d);obtain⟨o,j,l,_⟩:=p;exact cy kc I.nq ⟨o,j,l⟩ e (λz=>nomatch z) h
 |@dK a kvs d=>cases (show u=Value.ref a from f);obtain⟨_,_,vs,_,p⟩:=(show e4 X.prog X.w H s.heap a (.dK kvs) from I.fc a _ d);obtain⟨o,es,ep,j,l,_⟩:=p;exact cy fQ I.nq ⟨o,j,l.1⟩ e (λz=>nomatch z) h
 |@dT a kvs d=>cases (show u=Value.ref a from f);obtain⟨_,_,xs,_,o,es,ep,j,l,_⟩:=(show e4 X.prog X.w H s.heap a (.dT kvs) from I.fc a _ d);exact cy fQ I.nq ⟨o,j,l.1⟩ e (λz=>nomatch z) h
 |@ll a C dx fs d cl ha hn htk hm=>cases (show u=Value.ref a from f);obtain⟨mA,O,_⟩:=BC I.fc d;obtain⟨od,A',_⟩:=O.look;exact cy (W.kitx_own (cl.get _) cl.hd ha hn htk hm) I.nq A' e (λz=>nomatch z) h
end
structure tR(k:Nat)(A:aM):Prop where
 hd:A.handled=U
 dp:A.depth+3 * k+5<recursionLimit
 un:A.units+16 * k+200<cLine
def tR.mono(r:tR k A)(h:j<=k):tR j A:=⟨r.hd,by have:=r.dp;omega,by have:=r.un;omega⟩
theorem tR.deeper(r:tR (k+1) A)(b':Env):tR k (A.deeper b'):=
 ⟨r.hd,by have:=r.dp;show A.depth+1+3 * k+5<_;omega,by have:=r.un;show A.units+3+16 * k+200<_;omega⟩
def JV{A:aM}:(A.under (.builtin "type.__call__" ⟨.ref C::b,a⟩)).depth=A.depth+1:=by
 first|rfl|simp[kg,Code.weight,Code.isCreation,Code.isGuard,Code.isCaller,oq,kh,guardIds]
def JW{A:aM}:(A.under (.builtin "type.__call__" ⟨.ref C::b,a⟩)).units=A.units+1:=by
 first|rfl|simp[kg,Code.cUnits,oq,kh]
def tR.make(r:tR (k+1) A)(C:Addr)(b:List ab)(a:List (Str×ab)):tR k (A.under (.builtin "type.__call__" ⟨.ref C::b,a⟩)):=
 ⟨r.hd,by have:=r.dp;rw[JV];omega,by have:=r.un;rw[JW];omega⟩
theorem tR.depth(r:tR k A):A.depth<recursionLimit:=by have:=r.dp;omega
theorem tR.units(r:tR k A):A.units+64<cLine:=by have:=r.un;omega
def F8:TA:=λz H Q=>Q [] H
def BD(d:TE)(e:TA):TA:=λa H Q=>d a H λx b=>e a b λf c=>Q (x::f) c
section
variable{X:Cx}{e:Expr}{es:List Expr}{te:TE}{t:TA}{pos:Pos}
def wU:PA X [] F8:=λz z z z H Q I h=>fB ⟨[],H,I,.nil,h⟩
def uh(j:PE X e te)(l:PA X es t)(m:aw (e::es) X.b'=(δ,eval e X.b')::aw es X.b':=by rfl):PA X (e::es) (BD te t):=by intro pos a s b H Q I h;rw[m];show ah _ _ (spliced ((δ,eval e X.b')::bC pos (aw es X.b'))) _ _ s;refine dJ (fg (j a s b H _ I h) λu w zz=>?_);obtain⟨x,c,f,q,o⟩:=zz;exact fg (l pos a w b c _ f o) λA z ⟨y,d,i,r,p⟩=>⟨x::y,d,i,.cons q r,p⟩
def XZ(t:TA):TE:=λc H Q=>t c H λb a=>b.length<=aB/\∀p,a p=U->Q (.ref p) (e3 a p (.ea b))
def Ur(t:TA):TE:=λc H Q=>t c H λb a=>b.length<=aB/\∀p,a p=U->Q (.ref p) (e3 a p (.b0 b))
def Ny{m}(h:PA X es t):PE X (.Tuple es m pos) (XZ t):=by intro a s w H Q I j;refine wpAny_Tuple_spliced (fg (h pos a s w H _ I j) λl c ⟨p,d,f,r,z,q⟩=>⟨by rw[<-r.length];exact z,?_⟩);have i:d c.heap.objs.size=U:=f.fc.fresh (aK _);refine⟨.ref c.heap.objs.size,e3 d c.heap.objs.size (.ea p),f.laid (t':=c.toks) (λb u e=>aX _ e) (aK _) ?_,J,q _ i⟩;exact⟨z,l,r,⟨_,bH _ J,J,_,J⟩,λo e=>by rw[bH _ J]at e;cases e;rfl⟩
def JX(h:PA X es t):PE X (.List es pos) (Ur t):=by intro a s o H Q I j;refine wpAny_List_spliced (fg (h pos a s o H _ I j) λl c ⟨m,d,f,r,z,q⟩=>⟨by rw[<-r.length];exact z,?_⟩);have i:d c.heap.objs.size=U:=f.fc.fresh (aK _);refine⟨.ref c.heap.objs.size,e3 d c.heap.objs.size (.b0 m),f.laid (t':=c.toks) (λb u e=>aX _ e) (aK _) ?_,J,q _ i⟩;exact⟨z,l,0,r,bH _ J⟩
end
abbrev Sp:=bD->Hp->VK->XK->Prop
abbrev ω:=List Env->Hp->af->XK->ab->af->Prop
structure JY(P:aI)(w:ay)(K:ao)(mg:Str->Option ab)(b1:Heap)(A:aM)(d?:List Env)(s:af)(H:Hp):Prop where
 frames:A.frames=Z d?
 B?:Mod K mg b1
 bs:∀b o,b1.get? b=Z o->s.heap.get? b=Z o/\H b=U
 bsz:b1.objs.size<=s.heap.objs.size
 rm:s.heap.FunFrames b1 d?
 frf:∀b∈frs d?,H b=U
 fc:pa P w H s.heap
 k?:dB s.gens
def CE(d?:List Env)(P:aI)(w:ay)(H:Hp)(s:af)(Q:VK)(u:ab)(a:af):Prop:=
 ∃v b,a.os=s.os/\dB a.gens/\Un (frs d?) [] H b s.heap a.heap/\pa P w b a.heap/\en v u/\Q v b
def CR(CX:ω)(d?:List Env)(P:aI)(w:ay)(H:Hp)(s:af)(Q:VK)(E:XK)(r:eU)(a:af):Prop:=
 match r with
 |.ok (.ret u)=>CE d? P w H s Q u a
 |.ok _=>False
 |.error e=>CX d? H s E e a
structure vv(P:aI)(w:ay)(K:ao)(mg:Str->Option ab)(b1:Heap)(CX:ω)(k:Nat)(f:Addr)(fd:bP)(ps:aE)(sp:Sp):Prop where
 len:∀vs H Q E,sp vs H Q E->vs.length=ps.length
 run:∀(A:aM) (d?:List Env) (s:af) (H:Hp) (args:Args) (us:List ab) (vs:bD) (Q:VK) (E:XK),tR k A->JY P w K mg b1 A d? s H->fT s fd args (ps.zip us)->eg vs us->sp vs H Q E->
  cn (model P w) A (.call (.ref f) args) (CR CX d? P w H s Q E) s
theorem vv.mono{P:aI}{w:ay}{K:ao}{b:Str->Option ab}{b1:Heap}{CX:ω}{j k:Nat}{f:Addr}{a:bP}{c:aE}{d:Sp}(F:vv P w K b b1 CX j f a c d)(h:j<=k):
  vv P w K b b1 CX k f a c d:=⟨F.len,λA d? s H args i l Q E e=>F.run A d? s H args i l Q E (e.mono h)⟩
theorem vv.imp{P:aI}{w:ay}{K:ao}{d:Str->Option ab}{b1:Heap}{CX:ω}{k:Nat}{f:Addr}{c:bP}{ps:aE}{e b:Sp}(F:vv P w K d b1 CX k f c ps e)
  (h:∀a H Q E,b a H Q E->e a H Q E):vv P w K d b1 CX k f c ps b:=
 ⟨λa H Q E q=>F.len a H Q E (h _ _ _ _ q),λA d? s H args p a Q E l j i o m=>F.run A d? s H args p a Q E l j i o (h _ _ _ _ m)⟩
def JY.make{P:aI}{w:ay}{K:ao}{a:Str->Option ab}{b1:Heap}{A:aM}{d?:List Env}{s:af}{H:Hp}(e:JY P w K a b1 A d? s H)(C:Addr)(c:List ab)(b:List (Str×ab)):
  JY P w K a b1 (A.under (.builtin "type.__call__" ⟨.ref C::c,b⟩)) d? s H:=⟨by first|exact e.frames|(simpa [kg,Code.envs,kh,pushEnvs]using e.frames),e.B?,e.bs,e.bsz,e.rm,e.frf,e.fc,e.k?⟩
section
variable{X:Cx}{pins:cE}{σ:St}{H:Hp}{s s':af}
def eb.env0(I:eb X pins σ H s):JY X.prog X.w X.K X.mg X.b1 X.A X.stack s H:=
 ⟨I.ok.frames,I.ok.B?,I.bs,bf I.ok.bsz I.sz,I.stack,I.T',I.fc,I.k?⟩
def eb.υ(I:eb X pins σ H s)(h:CE X.stack X.prog X.w H s Q u s'):EP X pins σ Q u s':=by obtain⟨v,c,os,k?,un,fc,r,q⟩:=h;obtain⟨e,g,d,t,a⟩:=s';obtain rfl:a=s.os:=os;exact⟨v,c,I.call (h':=e) (g':=g) (d':=d) (t':=t) (ch:=[]) un fc k? (λb z=>ar z (by simp)),r,q⟩
end
def EK(b:Sp)(dvs:bD)(E:XK)(t:TA):TE:=λd H Q=>t d H λc a=>b (c++dvs) a Q E
def SZ(C:Addr)(d:Sp)(dvs:bD)(E:XK)(t:TA):TE:=λf H Q=>t f H λe b=>∀x a,b x=U->b a=U->a≠x->
 d (.ref x::(e++dvs)) (e3 (e3 b a (.gi x)) x (.ll C a [])) (λv c=>v=.E/\Q (.ref x) c) E
def ki(K:ao)(d:bP)(c:aE)(b:List ab):Prop:=
 ∀(s:af) (a:List ab),K.In s.heap->(a++b).length=c.length->fT s d ⟨a,[]⟩ (c.zip (a++b))
def ki.all{K:ao}{c:bP}{b:aE}(h:∀a:List ab,a.length=b.length->bindArgs c ⟨a,[]⟩=pure (b.zip a)):ki K c b []:=λs a z d=>by rw[bI]at d ⊢;exact .of_eq (h a d)
def o?(CX:ω)(X:Cx)(E:XK):Prop:=∀(a:cE) (c:St) (H:Hp) (s:af) (e:ab) (b:af),eb X a c H s->CX X.stack H s E e b->X.xe e b
section
variable{X:Cx}{CX:ω}{k:Nat}{f C:Addr}{fd:bP}{ps:aE}{sp:Sp}{dvs:bD}{ds:List ab}{E:XK}{x m:Str}{p pos apos:Pos}{e o:Expr}{es:List Expr}{ta:TE}{t:TA}
theorem Ht(F:vv X.prog X.w X.K X.mg X.b1 CX k f fd ps sp)(l:tR k X.A)(i:ki X.K fd ps ds)(hd:eg dvs ds)(q:o? CX X E)
  (I:eb X a d H s) (r:eg vs us) (h:sp (vs++dvs) H Q E):ah (model X.prog X.w) X.A (call (.ref f) us) (EP X a d Q) X.xe s:=by
 have c:eg (vs++dvs) (us++ds):=r.append hd;have j:(us++ds).length=ps.length:=by rw[<-c.length];exact F.len _ _ _ _ h
 refine iZ (fN (F.run X.A X.stack s H ⟨us,[]⟩ (us++ds) (vs++dvs) Q E l I.env0 (i s us I.nq j) c h) λr y b=>?_);cases r with
 |error e=>exact q a d H s e y I b
 |ok fl=>
  cases fl with
  |ret u=>exact I.υ b
  |next=>exact cM b
  |brk=>exact cM b
  |cont=>exact cM b
def KZ(F:vv X.prog X.w X.K X.mg X.b1 CX k f fd ps sp)(B:tR k X.A)(u:Gl X x)(z:X.mg x=Z (.ref f))(y:de X.K (.ref f)=γ)(j:ki X.K fd ps ds)(hd:eg dvs ds)(G:o? CX X E)
  (i:PA X (e::es) t) (b:(x==("__debug__" : Str))=δ:=by decide) (l:aw (e::es) X.b'=(δ,eval e X.b')::aw es X.b':=by rfl) (hpl:(bC pos (aw es X.b')).any (·.1)=δ:=by rfl):
  PE X (.Call (.Name x p) (e::es) [] pos) (EK sp dvs E t):=by
 intro a s M H Q I h;refine dM (BA I u z ?_ b);refine kj (h₀:=X.b1) I.ok.B?.kin y (fg (i pos a s M H _ I h) λP O ⟨R,N,c,r,q⟩=>⟨c.nq,?_⟩) l hpl;exact Ht F B j hd G c r q
def NA(F:vv X.prog X.w X.K X.mg X.b1 CX k f fd ps sp)(l:tR k X.A)(d:Gl X x)(j:X.mg x=Z (.ref f))(i:de X.K (.ref f)=γ)(c:ki X.K fd ps ds)(hd:eg dvs ds)(q:o? CX X E)
  (a:(x==("__debug__" : Str))=δ:=by decide):PE X (.Call (.Name x p) [] [] pos) (EK sp dvs E F8):=by
 intro b s u H Q I h;refine dM (BA I d j ?_ a);exact j4 I.nq i (Ht (us:=[]) F l c hd q I .nil h)
structure Mk(K:ao)(C f:Addr):Prop where
 U':kG K C=γ
 init:cH K (.ref C) "__init__" = Z (Z (.ref f))
 fn:i9 K (.ref f)=γ
 kp:de K (.ref C)=γ
theorem NB(M:Mk X.K C f)(F:vv X.prog X.w X.K X.mg X.b1 CX k f fd ps sp)(R:tR (k+1) X.A)(O:ki X.K fd ps ds)(hd:eg dvs ds)
  (S:o? CX X E) (I:eb X b y H s) (r:eg q c)
  (h:∀x i,H x=U->H i=U->i≠x->sp (.ref x::(q++dvs)) (e3 (e3 H i (.gi x)) x (.ll C i [])) (λv B=>v=.E/\Q (.ref x) B) E):
  ah (model X.prog X.w) X.A (call (.ref C) c) (EP X b y Q) X.xe s:=by
 have j:=h (s.heap.objs.size+1) s.heap.objs.size (I.fc.fresh (iW _)) (I.fc.fresh (aK _)) (bu (fE _));have d:=eb.made (C:=C) I;have l:eg (V.ref (s.heap.objs.size+1)::(q++dvs)) (Value.ref (s.heap.objs.size+1)::(c++ds)):=.cons J (r.append hd);have P:(Value.ref (s.heap.objs.size+1)::c++ds).length=ps.length:=by have e:=l.length;rw[F.len _ _ _ _ j]at e;exact e.symm
 refine iZ (Nx (f:=f) I.nq M.U' M.init (beq_iff_eq.mp M.fn) (fN (F.run _ X.stack _ _ ⟨Value.ref (s.heap.objs.size+1)::c,[]⟩ (Value.ref (s.heap.objs.size+1)::(c++ds)) _ _ E (R.make C c [])
  (d.env0.make C c []) (O _ (Value.ref (s.heap.objs.size+1)::c) d.nq P) l j) λr Y a=>?_))
 cases r with
 |error e=>exact S b y _ _ e Y d a
 |ok fl=>
  cases fl with
  |ret u=>obtain⟨v,z,G,W,N,T⟩:=d.υ a;subst N;exact⟨W,⟨V.ref (s.heap.objs.size+1),z,G,J,T⟩⟩
  |next=>exact cM a
  |brk=>exact cM a
  |cont=>exact cM a
def QC(M:Mk X.K C f)(F:vv X.prog X.w X.K X.mg X.b1 CX k f fd ps sp)(z:tR (k+1) X.A)(u:Gl X x)(y:X.mg x=Z (.ref C))(j:ki X.K fd ps ds)(hd:eg dvs ds)(B:o? CX X E)
  (i:PA X (e::es) t) (b:(x==("__debug__" : Str))=δ:=by decide) (l:aw (e::es) X.b'=(δ,eval e X.b')::aw es X.b':=by rfl) (hpl:(bC pos (aw es X.b')).any (·.1)=δ:=by rfl):
  PE X (.Call (.Name x p) (e::es) [] pos) (SZ C sp dvs E t):=by
 intro a s G H Q I h;refine dM (BA I u y ?_ b);refine kj (h₀:=X.b1) I.ok.B?.kin M.kp (fg (i pos a s G H _ I h) λP O ⟨R,N,c,r,q⟩=>⟨c.nq,?_⟩) l hpl;exact NB M F z j hd B c r q
end
structure uB(N P:aE)(sc:cz):Prop where
 kind:sc.kind=.function
 co:sc.isCoroutine=δ
 q?:sc.isGenerator=δ
 nd:N.Nodup
 pre:N.take P.length=P
 par:∀x∈P,sc.names.lookup x=Z .local\/sc.names.lookup x=Z .cell
 nofree:∀y∈sc.names,y.2≠.free
theorem Gp{kindOf:Str->Option dg}{x:Str}:∀{pw:List (Str×ab)} {m:Str->Option ab},(∀v,(x,v)∉pw)->bindL kindOf pw m x=m x
 |[],_,_=>rfl
 |(n,v)::r,m,h=>by
  unfold bindL;rw[Gp λw a=>h w (aY _ a)];split
  .have:x≠n:=by rintro rfl;exact h v bc
   simp[this]
  .rfl
theorem Gq{kindOf:Str->Option dg}{x:Str}:∀{pw:List (Str×ab)} {m:Str->Option ab},(∀v,(x,v)∉pw)->bindC kindOf pw m x=m x
 |[],_,_=>rfl
 |(n,v)::r,m,h=>by
  unfold bindC;rw[Gq λw a=>h w (aY _ a)];split
  .rfl
  .have:x≠n:=by rintro rfl;exact h v bc
   simp[this]
theorem Gr{kindOf:Str->Option dg}{x:Str}{v:ab}:∀{P:aE} {a:List ab} {i:Nat} {m:Str->Option ab},P.Nodup->P[i]?=Z x->a[i]?=Z v->kindOf x=Z .local->
  bindL kindOf (P.zip a) m x=Z v
 |[],_,_,_,_,h,_,_=>by simp at h
 |_::_,[],_,_,_,_,h,_=>by simp at h
 |p::P,w::a,0,m,e,b,c,d=>by simp at b c;subst b;subst c;show bindL kindOf ((p,w)::P.zip a) m p=_;unfold bindL;rw[Gp λv f=>(eG.1 e).1 (iG f).1,aj d];simp
 |p::P,w::a,i+1,m,e,b,c,d=>by show bindL kindOf ((p,w)::P.zip a) m x=_;unfold bindL;exact Gr (i:=i) (eG.1 e).2 (by simpa using b) (by simpa using c) d
theorem Gs{kindOf:Str->Option dg}{x:Str}{v:ab}:∀{P:aE} {a:List ab} {i:Nat} {m:Str->Option ab},P.Nodup->P[i]?=Z x->a[i]?=Z v->kindOf x≠Z .local->
  bindC kindOf (P.zip a) m x=Z v
 |[],_,_,_,_,h,_,_=>by simp at h
 |_::_,[],_,_,_,_,h,_=>by simp at h
 |p::P,w::a,0,m,e,b,c,d=>by simp at b c;subst b;subst c;show bindC kindOf ((p,w)::P.zip a) m p=_;unfold bindC;rw[Gq λv f=>(eG.1 e).1 (iG f).1,ak d];simp
 |p::P,w::a,i+1,m,e,b,c,d=>by show bindC kindOf ((p,w)::P.zip a) m x=_;unfold bindC;exact Gs (i:=i) (eG.1 e).2 (by simpa using b) (by simpa using c) d
def start(N:aE)(a:bD):St:=a.map Z++iP (N.length - a.length) U
def IA(CX:ω)(P:aI)(w:ay)(K:ao)(mg:Str->Option ab)(b1:Heap)(N:aE)(qual:Str)(scope:cz)(f:Addr)(cd:ab)(A:aM)(d?:List Env)(s:af)(H:Hp)(E:XK):Cx where
 prog:=P
 w:=w
 K:=K
 mg:=mg
 b1:=b1
 A:=A.deeper (envOfC qual scope s.heap.objs.size f cd)
 N:=N
 s₀:=s
 H₀:=H
 b':=envOfC qual scope s.heap.objs.size f cd
 d?:=d?
 stack:=envOfC qual scope s.heap.objs.size f cd::d?
 ex:=[]
 nr:=γ
 fn:=λz=>γ
 pn:=[]
 xe:=λe c=>ah (model P w) (A.deeper (envOfC qual scope s.heap.objs.size f cd)) (leaving (envOfC qual scope s.heap.objs.size f cd) e) (λz a=>CX d? H s E e a) (λb a=>CX d? H s E b a) c
def IB{a:cz}(h:a.names.lookup x=Z .cell):∃c,(cellsFrom n a.names []).lookup x=Z c:=by have q:=mU a.names n [] (.inl h);exact lg.1 q
def Mh{CX:ω}{P:aI}{w:ay}{K:ao}{F:Str->Option ab}{b1:Heap}{N m:aE}{qual:Str}{scope:cz}{f:Addr}{cd:ab}{A:aM}{d?:List Env}{s O:af}{H:Hp}{E:XK}{G:List ab}{o:bD}
  (S:uB N m scope) (hd:A.handled=U) (j:JY P w K F b1 A d? s H) (W:o.length=m.length) (r:eg o G)
  (x:InCallC s s.heap.objs.size (bindL (envOfC qual scope s.heap.objs.size f cd).kindOf (m.zip G) λ_=>U) (cellsFrom (s.heap.objs.size+1) scope.names []) (bindC (envOfC qual scope s.heap.objs.size f cd).kindOf (m.zip G) λ_=>U) O):
  eb (IA CX P w K F b1 N qual scope f cd A d? s H E) [] (start N o) H O:=by
 have hpl:m.length<=N.length:=by have:=bG c6 S.pre;rw[b9]at this;omega
 obtain⟨B,X,rfl,I⟩:=x.done;have noA:∀b:Addr,b∉(IA CX P w K F b1 N qual scope f cd A d? s H E).ex:=λb z=>ar (show b∈([]:List Addr) from z) (by simp);refine⟨⟨j.B?,S.kind,J,J,aK _,λy z c B d=>?_,λy l=>?_,λy c _ h=>?_,λ_=>hd,Around.frames_deeper j.frames,.inr ⟨J,J⟩,λb z=>ar z (noA b),j.bs,j.bsz,λb _ _=>noA b,λb z=>ar z (noA b),j.rm,j.frf⟩,
  rfl,j.k?,Un.i0 I,⟨_,x.toInCall.ns,λi y v B d T=>?_⟩,λy c h=>⟨_,x.cell y c h⟩,j.fc.fresh (aK _),λy c h=>?_,λp t=>ar (show p∈([]:cE) from t) (by simp),j.fc.i0 I,?_⟩
 .exact name_of_addr x.apart (gj B) (gj d)
 .have l:scope.names.lookup y=Z .cell\/scope.names.lookup y=Z .free:=l;rcases l with l|l
  .exact IB l
  .exact ar J (S.nofree _ (gj l))
 .exact fL (x.above y c (gj h))
 .have C:i<o.length:=by
   unfold start at d;by_cases C:i<o.length
   .exact C
   .rw[eh (by simpa using C)]at d;rw[ib]at d;split at d<;>cases d
  have Q:o[i]?=Z v:=by
   unfold start at d;rw[eA (by simpa using C),bp]at d;cases e:o[i]? with
   |none=>rw[e]at d;cases d
   |some a=>rw[e]at d;cases d;rfl
  obtain⟨u,M,R⟩:=r.get Q;have t:m[i]?=Z y:=by rw[<-S.pre,List.getElem?_take_of_lt (by omega)];exact B
  have ndP:m.Nodup:=by rw[<-S.pre];exact S.nd.sublist (iu _ _)
  refine⟨u,R,?_⟩;rcases S.par y (bU t)with k|k
  .exact .inl ⟨k,Gr ndP t M k⟩
  .obtain⟨c,e⟩:=IB (n:=s.heap.objs.size+1) k;refine .inr ⟨.inl k,c,e,?_⟩;have q:=x.cell y c e;rw[Gs ndP t M (by show scope.names.lookup y≠_;rw[k];decide)]at q;exact q
 .exact j.fc.fresh (fL (x.above y c (gj h)))
 .unfold start;show _=N.length;rw[au,ae,cR];omega
def S0{CX:ω}{P:aI}{w:ay}{K:ao}{l:Str->Option ab}{b1:Heap}{k:Nat}{f:Addr}{name qual:Str}{params:Arguments}{body:List Stmt}{scope:cz}{dV kV doc pm cdv G oc:ab}{F od:Option Addr}
  {osl:Array (Option ab)} {N m:aE} {C:Sp} (lk:K.lookup f=Z ⟨oc,od,.func (dD name qual params body scope dV kV doc pm F cdv G),osl⟩) (hcd:fR K cdv qual=γ) (S:uB N m scope)
  (len:∀a H Q E,C a H Q E->a.length=m.length)
  (hbody:∀(A:aM) (d?:List Env) (s:af) (H:Hp) (a:bD) (Q:VK) (E:XK),tR k (A.deeper (envOfC qual scope s.heap.objs.size f cdv))->C a H Q E->
   ∃t,oz (IA CX P w K l b1 N qual scope f cdv A d? s H E) body t/\t { nx:=λ_ h=>Q .E h,rt:=Q } (start N a) H):
  vv P w K l b1 CX (k+1) f (dD name qual params body scope dV kV doc pm F cdv G) m C:=by
 refine⟨len,λA d? s H args us a Q E p j O r hsp=>?_⟩;have T:=len _ _ _ _ hsp;have KX:K.In s.heap:=j.B?.kin.keeps λb o e=>(j.bs b o e).1;have lim:s.heap.NoLimit:=j.B?.nolimit.keeps λb o e=>(j.bs b o e).1;have hkind:∀y∈m.zip us,scope.names.lookup y.1=Z .local\/(scope.names.lookup y.1=Z .cell/\((cellsFrom (s.heap.objs.size+1) scope.names []).lookup y.1).isSome=γ):=λ⟨n,v⟩ hy=>by
  rcases S.par n (iG hy).1 with q|q
  .exact .inl q
  .exact .inr ⟨q,mU _ _ _ (.inl q)⟩
 refine codeAny_call_function p.depth (KX _ _ lk) J S.co S.q? J (W.codeRec_of KX hcd) (O _ _ _ _ ?_);refine wpAny_newFunctionEnv_cells S.kind hkind λb' R M x=>?_;subst R;refine⟨lim.keeps x.toInCall.keep,codeAny_func ?_⟩;obtain⟨t,Y,X⟩:=hbody A d? s H a Q E (p.deeper _) hsp;have I:eb (IA CX P w K l b1 N qual scope f cdv A d? s H E) [] (start N a) H M:=Mh S p.hd j T r x;refine cg (Y [] M (start N a) H _ I X) (λfl B i=>?_) λe B i=>i;have fin:∀{c:St} {h:Hp} {v:V} {u:ab},eb (IA CX P w K l b1 N qual scope f cdv A d? s H E) [] c h B->en v u->Q v h->CE d? P w H s Q u B:=
  λ{c h v u} d z q=>⟨v,h,d.os,d.k?,d.b1,d.fc,z,q⟩
 cases fl with
 |ret u=>obtain⟨v,c,h,d,z,q⟩:=i;exact fin d z q
 |next=>obtain⟨c,h,d,q⟩:=i;exact fin (v:=V.E) (u:=Value.none) d J q
 |brk=>obtain⟨_,_,_,q⟩:=i;exact cM q
 |cont=>obtain⟨_,_,_,q⟩:=i;exact cM q
section
variable{X:Cx}{x:Str}{p pos:Pos}{e:Expr}{es:List Expr}{t:TA}{id T:String}{r:bD->Hp->VK->Prop}
def tCB(r:bD->Hp->VK->Prop)(t:TA):TE:=λc H Q=>t c H λb a=>r b a Q
def BE(j:tG X (.builtin id) r)(m:Gl X x)(o:X.mg x=U)(u:c8 x=Z (.builtin id))(i:PA X (e::es) t)(q:x≠"__name__" := by decide)(b:(x==("__debug__" : Str))=δ:=by decide)
  (l:aw (e::es) X.b'=(δ,eval e X.b')::aw es X.b':=by rfl) (hpl:(bC pos (aw es X.b')).any (·.1)=δ:=by rfl):PE X (.Call (.Name x p) (e::es) [] pos) (tCB r t):=by
 intro a s c H Q I h;refine dM (Ct I m o u ?_ q b);exact callWith_builtin1 (fg (i pos a s c H _ I h) λA z ⟨B,d,f,y,w⟩=>j a z c d B A Q f y w) l hpl
def Mi(j:tG X (.type T) r)(m:Gl X x)(o:X.mg x=U)(u:c8 x=Z (.type T))(i:PA X (e::es) t)(q:x≠"__name__" := by decide)(b:(x==("__debug__" : Str))=δ:=by decide)
  (l:aw (e::es) X.b'=(δ,eval e X.b')::aw es X.b':=by rfl) (hpl:(bC pos (aw es X.b')).any (·.1)=δ:=by rfl):PE X (.Call (.Name x p) (e::es) [] pos) (tCB r t):=by
 intro a s c H Q I h;refine dM (Ct I m o u ?_ q b);exact callWith_type1 (fg (i pos a s c H _ I h) λA z ⟨B,d,f,y,w⟩=>j a z c d B A Q f y w) l hpl
end
end L2
namespace HT
open PySem PyProof.Rows
section
variable{prog:aI}{w:ay}{A:aM}{E:ab->af->Prop}{s:af}
def QD{vs ws:List ab}(x:gQ s.heap t vs.toArray)(u:gQ s.heap b ws.toArray)(o:vs≠[])
  (q:ws=[]->Q (.ref t) s) (r:ws≠[]->Q (.ref s.heap.objs.size) { s with heap:=s.heap.push { cls:=.type "tuple", data:=.seq (vs++ws).toArray } })
  (j:vs.length+ws.length<=aB):ah (model prog w) A (cj .Add (.ref t) (.ref b)) Q E s:=by
 obtain⟨⟨cls,l,data,sl⟩,i,m,n,hd⟩:=id x;obtain⟨⟨cls2,c,data2,h⟩,a,d,p,f⟩:=id u;simp only at m hd d f;subst m hd d f;have e:vs.toArray++ws.toArray=(vs++ws).toArray:=by simp
 by_cases hw:ws=[]
 .exact km ⟨_,i,J⟩ ⟨_,a,J⟩ jN j5 jO jL (jI _ _)
   (tuple_addW1 t b vs.toArray ws.toArray n p l c sl h (by simpa using o) (by simp[hw])) ⟨i,a,q hw⟩
 .refine km ⟨_,i,J⟩ ⟨_,a,J⟩ jN j5 jO jL (jI _ _)
   (tuple_addW2 t b vs.toArray ws.toArray n p l c sl h (by simpa using o) (by simpa using hw) (by rw[aZ,aZ];exact j)) ⟨i,a,?_⟩
  rw[e];exact r hw
def f?(n d:Nat):Option Int->Nat
 |none=>d
 |some v=>if v<0 then (v+(n:Int)).toNat else min v.toNat n
def IC(n d:Nat):f? n d U=d:=rfl
def Es(n d k:Nat):f? n d (Z (k:Int))=min k n:=by show (if (k:Int)<0 then ((k:Int)+(n:Int)).toNat else min (k:Int).toNat n)=min k n;rw[ak (by omega),gn]
def Us(n d:Nat)(hd:d<=n)(o:Option Int):f? n d o<=n:=by
 cases o with
 |none=>exact hd
 |some v=>
  show (if v<0 then (v+(n:Int)).toNat else min v.toNat n)<=n;by_cases a:v<0
  .rw[aj a];omega
  .rw[ak a];exact Nat.min_le_right _ _
def K0(v:Int)(n d:Nat):(if v<0 then max (v+(n:Int)) 0 else min v (n:Int))=((f? n d (Z v):Nat):Int):=by
 show (if v<0 then max (v+(n:Int)) 0 else min v (n:Int))=(((if v<0 then (v+(n:Int)).toNat else min v.toNat n):Nat):Int);by_cases a:v<0
 .simp only[aj a];omega
 .simp only[ak a];omega
def JZ(lo a:Option Int)(n:Nat):jq lo a 1 (n:Int)=(((f? n 0 lo:Nat):Int),((f? n n a:Nat):Int)):=by
 have b:¬((1:Int)<0):=by omega
 unfold jq;simp only[b,if_false];refine Prod.ext ?_ ?_
 .cases lo with
  |none=>rfl
  |some v=>exact K0 v n 0
 .cases a with
  |none=>rfl
  |some v=>exact K0 v n n
def J0(i j:Nat):hX (i:Int) (j:Int) 1=j - i:=by
 unfold hX;have a:(1:Int) > 0:=by omega
 simp only[a,if_true,Int.ediv_one];split<;>omega
def EL(p:d7 v o)(h:Q o s):ah (model prog w) A (pA v) Q E s:=by
 cases p with
 |none=>exact nz h
 |int i t=>exact slicePart_int h
def Cv{d:Addr}{b c:ab}{lo a:Option Int}{n:Nat}{Q:Int×Int×Nat->af->Prop}(e:s.heap.IsSliceOf d b c .none)(pl:d7 b lo)(f:d7 c a)
  (h:Q (((f? n 0 lo:Nat):Int),1,f? n n a - f? n 0 lo) s):ah (model prog w) A (kZ (.ref d) (pure (n:Int))) Q E s:=by
 obtain⟨os,hos,hcs,hds⟩:=id e;unfold kZ pT;refine aq (aq (ky hos hds (x:=b) J (aq (ky hos hds (x:=c) J (aq (ky hos hds (x:=.none) J (aA ?_)))))));refine aq (nz ?_);show ah _ _ (if ((1:Int)==0)=γ then _ else _) _ _ s;rw[ak (by decide)];refine aq (EL pl (aq (EL f (aq (aA ?_)))));show ah _ _ (match jq lo a 1 (n:Int)with|(lo,a)=>pure (lo,(1:Int),hX lo a 1)) _ _ s;rw[JZ lo a n];show ah _ _ (pure (((f? n 0 lo:Nat):Int),(1:Int),hX ((f? n 0 lo:Nat):Int) ((f? n n a:Nat):Int) 1)) _ _ s;rw[J0];exact aA h
def NC(a:Array ab)(i k:Nat):((av k).filterMap λ(m:Nat)=>a[((i:Int)+(m:Int) * 1).toNat]?).toArray=((a.toList.drop i).take k).toArray:=by
 have e:(λ(m:Nat)=>a[((i:Int)+(m:Int) * 1).toNat]?)=λm=>a[i+m]?:=by
  funext m
  have:((i:Int)+(m:Int) * 1).toNat=i+m:=by omega
  rw[this]
 rw[e];have:=pick_run a i k;rw[List.filterMap_map]at this;have b:((λx=>a[x]?)∘λx=>i+x)=λm=>a[i+m]?:=rfl;rw[b]at this;rw[this]
def BF{t sl:Addr}{items:Array ab}{b c:ab}{lo hi:Option Int}{Q:ab->af->Prop}(a:gQ s.heap t items)(hs:s.heap.IsSliceOf sl b c .none)(pl:d7 b lo)(pu:d7 c hi)
  (hw:¬(f? items.size 0 lo=0/\f? items.size items.size hi=items.size))
  (h:Q (.ref s.heap.objs.size) { s with heap:=s.heap.push { cls:=.type "tuple", data:=.seq ((items.toList.drop (f? items.size 0 lo)).take (f? items.size items.size hi - f? items.size 0 lo)).toArray } })
  (d:items.size<=aB):ah (model prog w) A (getItem (.ref t) (.ref sl)) Q E s:=by
 have htake:sizeOk (.seq ((items.toList.drop (f? items.size 0 lo)).take (f? items.size items.size hi - f? items.size 0 lo)).toArray):=by show ((items.toList.drop (f? items.size 0 lo)).take (f? items.size items.size hi - f? items.size 0 lo)).toArray.size<=aB;rw[aZ,b9,dP,cK];omega
 have e:f? items.size items.size hi<=items.size:=Us _ _ (aK _) hi;obtain⟨os,hos,hcs,hds⟩:=id hs;have hTs:s.TypeIs (.ref sl) "slice" := ⟨os,hos,hcs⟩;unfold getItem
 try with_reducible refine dZ ?_
 first|refine aq (aA ?_)|skip
 refine aq (wpAny_sequenceKey a.typeIs (by decide) ?_);refine aq (wpAny_callSpecial?_slot (name:=Str.ofString "__getitem__") a.typeIs hU
  (mV hU a.typeIs entry_tuple_getitem ?_ (args_tuple_getitem _ _)))
 show ah _ _ (pE (.ref t)>>=_) _ _ s;refine aq (tupleItemsOf_ a ?_);refine aq (wpAny_typeOf hTs ?_);rw[aj (by decide)];refine aq (Cv hs pl pu ?_);have hno:¬((((f? items.size 0 lo:Nat):Int)==0&&(1:Int)==1&&(f? items.size items.size hi - f? items.size 0 lo)==items.size)=γ):=by intro q;rw[aT,aT]at q;have f:((f? items.size 0 lo:Nat):Int)=0:=eL q.1.1;have i:f? items.size items.size hi - f? items.size 0 lo=items.size:=eL q.2;exact hw ⟨by omega,by omega⟩
 show ah _ _ (if (((f? items.size 0 lo:Nat):Int)==0&&(1:Int)==1&&(f? items.size items.size hi - f? items.size 0 lo)==items.size)=γ then _ else _) _ _ s;rw[ak hno,NC]
 first
  |exact aq (m:=ia _) (gp (aA ⟨_,J,aA h⟩) htake)
  |exact aq (m:=ia _) (gp (aq (aA (aA ⟨_,J,aA h⟩))) htake)
  |exact aq (aq (m:=ia _) (gp (aA (aA ⟨_,J,aA h⟩)) htake))
  |exact aq (aq (m:=ia _) (gp (aA ⟨_,J,aA h⟩) htake))
end
end HT
namespace L2
open PySem PySem.Spec PyProof.Rows
abbrev TO:=St->Hp->(Option Int->Hp->Prop)->Prop
def PO(X:Cx)(e:Option Expr)(t:TO):Prop:=
 ∀(a:cE) (s:af) (b:St) (H:Hp) (Q:Option Int->Hp->Prop),eb X a b H s->t b H Q->
  ah (model X.prog X.w) X.A (evalPart e X.b') (λu d=>∃o c,eb X a b c d/\d7 u o/\Q o c) X.xe s
def QE:TO:=λz H Q=>Q U H
def X0(t:TE):TO:=λb H Q=>t b H λx a=>∃i,x=.int i/\Q (Z i) a
section
variable{X:Cx}{e:Expr}{te:TE}{lo hi:Option Expr}{tl th:TO}{pos p2:Pos}
def K1:PO X U QE:=by intro a s b H Q I h;rw[nR];exact aA ⟨U,H,I,.none,h⟩
def K2(h:PE X e te):PO X (Z e) (X0 te):=by intro a s l H Q I d;rw[evalPart_some];refine fg (h a s l H _ I d) λu m zz=>?_;obtain⟨x,b,c,j,f⟩:=zz;obtain⟨i,rfl,q⟩:=f;obtain⟨t,rfl⟩:=j;exact⟨Z i,b,c,.int i t,q⟩
def SlR(X:Cx)(r:V->Option Int->Option Int->Hp->VK->Prop):Prop:=
 ∀(a:cE) (s:af) (f:St) (H:Hp) (x:V) (v c d:ab) (lo hi:Option Int) (b:Addr) (Q:VK),eb X a f H s->en x v->s.heap.IsSliceOf b c d .none->d7 c lo->d7 d hi->r x lo hi H Q->
  ∃T id,typeLookup (.type T) "__getitem__" = pure (Z (.builtin id))/\s.TypeIs v T/\ah (model X.prog X.w) X.A (getItem v (.ref b)) (EP X a f Q) X.xe s
def tSl(r:V->Option Int->Option Int->Hp->VK->Prop)(te:TE)(tl th:TO):TE:=λa H Q=>te a H λx b=>tl a b λl c=>th a c λu d=>r x l u d Q
def ID(hr:SlR X r)(p:PE X e te)(t:PO X lo tl)(z:PO X hi th):PE X (.Subscript e (.Slice lo hi U p2) pos) (tSl r te tl th):=by intro pins s σ H Q I h;refine kA (fg (p pins s σ H _ I h) λv F zz=>?_);obtain⟨x,H1,i,r1,B⟩:=zz;refine wpAny_Slice (fg (t pins F σ H1 _ i B) λc s2 ⟨l,H2,j,pl,C⟩=>fg (z pins s2 σ H2 _ j C) λd a zz=>?_);obtain⟨u,f,m,pu,E⟩:=zz;rw[nR];refine aA ?_;have o:eb X pins σ f { a with heap:=a.heap.push { cls:=.type "slice", data:=.fields #[c,d,.none] } }:=m.i0 (t':=a.toks) λb ob q=>aX _ q;obtain⟨T,id,hT,y,hg⟩:=hr pins { a with heap:=a.heap.push { cls:=.type "slice", data:=.fields #[c,d,.none] } } σ f x v c d l u a.heap.objs.size Q o r1 (qK ..) pl pu E;show ah (model X.prog X.w) X.A (subscriptTail e (.Slice lo hi U p2) v (.ref a.heap.objs.size)) (EP X pins σ Q) X.xe { a with heap:=a.heap.push { cls:=.type "slice", data:=.fields #[c,d,.none] } };exact tail_any (ops:=[.ref a.heap.objs.size,v]) y hT hg (by with_unfolding_all rfl)
def IE(a:bD)(lo hi:Option Int):bD:=(a.drop (HT.f? a.length 0 lo)).take (HT.f? a.length a.length hi - HT.f? a.length 0 lo)
def Do(a:bD)(lo hi:Option Int):(IE a lo hi).length<=a.length:=by unfold IE;rw[b9,dP];omega
def Ut(K:ao):V->Option Int->Option Int->Hp->VK->Prop:=λx lo hi H Q=>∃a b,x=.ref a/\fy K H a b/\
 ¬(HT.f? b.length 0 lo=0/\HT.f? b.length b.length hi=b.length)/\∀p,H p=U->Q (.ref p) (e3 H p (.ea (IE b lo hi)))
def Uu:SlR X (Ut X.K):=by
 intro l s E H x v B C lo hi z Q I w m pl u h;obtain⟨a,d,rfl,t,p,q⟩:=h;cases w;obtain⟨f,r,i,j⟩:=I.tuple t;have c:f.toArray.size=d.length:=by rw[aZ];exact r.length.symm
 refine⟨"tuple", _,hU.lookup,i.typeIs,?_⟩;refine HT.BF i m pl u (by rw[c];exact p) ?_ (by rw[c];exact j);rw[c];refine⟨.ref s.heap.objs.size,_,I.laid (t':=s.toks) (o:=.ea (IE d lo hi)) (λb y q=>aX _ q) (aK _) ?_,J,q _ (I.fc.fresh (aK _))⟩;exact⟨bf (Do d lo hi) j,_,(r.drop (HT.f? d.length 0 lo)).take (HT.f? d.length d.length hi - HT.f? d.length 0 lo),kH _ _,λo e=>by rw[bH _ J]at e;cases e;rfl⟩
def X1(K:ao):R2:=λx y H Q=>∃a b d c,x=.ref a/\y=.ref b/\fy K H a d/\fy K H b c/\d≠[]/\d.length+c.length<=aB/\
 (c=[]->Q (.ref a) H)/\(c≠[]->∀p,H p=U->Q (.ref p) (e3 H p (.ea (d++c))))
def eg.t?(r:eg b a):a=[] ↔ b=[]:=by
 cases r with
 |nil=>simp
 |cons _ _=>simp
def K3:g? X (cj .Add) (X1 X.K):=by intro j s O H x y v u Q I C E h;obtain⟨a,b,F,G,rfl,rfl,l,m,p,f,A,B⟩:=h;cases C;cases E;obtain⟨r,d,t,_⟩:=I.tuple l;obtain⟨i,c,p2,_⟩:=I.tuple m;refine HT.QD t p2 (λz=>p (d.t?.1 z)) (λz=>⟨.ref a,H,I,J,A (c.t?.1 z)⟩) (λz=>?_) (by rw[<-d.length,<- c.length];exact f);refine⟨.ref s.heap.objs.size,_,I.laid (t':=s.toks) (o:=.ea (F++G)) (λb M q=>aX _ q) (aK _) ?_,J,B (λw=>z (c.t?.2 w)) _ (I.fc.fresh (aK _))⟩;exact⟨by rw[au];exact f,_,d.append c,kH _ _,λo e=>by rw[bH _ J]at e;cases e;rfl⟩
end
def ixN(n:Nat)(i:Int):Option Nat:=if 0<=i then (if i<n then Z i.toNat else U)else if -(n:Int)<=i then Z (i+n).toNat else U
def E?{b:Type}(a:List b)(i:Int):Option b:=(ixN a.length i).bind λj=>a[j]?
def QF(h:ixN n i=Z j):seqIndex? i n=Z j/\j<n/\-(n:Int)<=i/\i<n:=by
 unfold ixN at h;by_cases b:0<=i
 .rw[aj b]at h;by_cases a:i<n
  .rw[aj a]at h;have e:i.toNat=j:=cF h;exact⟨by rw[seqIndex_of b a,e],by omega,by omega,a⟩
  .rw[ak a]at h;cases h
 .rw[ak b]at h;by_cases a:-(n:Int)<=i
  .rw[aj a]at h;have e:(i+n).toNat=j:=cF h;exact⟨by rw[seqIndex_neg (by omega) a,e],by omega,a,by omega⟩
  .rw[ak a]at h;cases h
def Hu{b:Type}{a:List b}{i:Int}{v:b}(h:E? a i=Z v):∃j,seqIndex? i a.length=Z j/\a[j]?=Z v/\j<a.length/\-(a.length:Int)<=i/\i<a.length:=by
 unfold E? at h;cases e:ixN a.length i with
 |none=>rw[e]at h;cases h
 |some j=>rw[e]at h;obtain⟨c,d,f,l⟩:=QF e;exact⟨j,c,h,d,f,l⟩
def Et{b:Type}{a:List b}{j:Nat}{v:b}(h:a[j]?=Z v):E? a (j:Int)=Z v:=by
 have c:j<a.length:=(bZ.1 h).1;have e:ixN a.length (j:Int)=Z j:=by unfold ixN;rw[aj (by omega),aj (by omega)];simp
 unfold E?;rw[e];exact h
def K4(b:Expr):Prop:=∀o i,subscripted b δ o i=operate [o,i] (getItem o i)
def IxR(X:Cx)(r:R2):Prop:=
 ∀(value slice:Expr) (a:cE) (s:af) (b:St) (H:Hp) (x y:V) (v u:ab) (Q:VK),eb X a b H s->en x v->en y u->r x y H Q->
  subscripted slice δ v u=operate [v,u] (getItem v u)->ah (model X.prog X.w) X.A (subscriptTail value slice v u) (EP X a b Q) X.xe s
def MtR(X:Cx)(id:String)(r:V->bD->Hp->VK->Prop):Prop:=
 ∀(a:cE) (s:af) (d:St) (H:Hp) (x:V) (c:bD) (v:ab) (b:List ab) (Q:VK),eb X a d H s->en x v->eg c b->r x c H Q->
  ah (model X.prog X.w) X.A (call (.builtin id) (v::b)) (EP X a d Q) X.xe s
section
variable{X:Cx}{a b:Expr}{ta tb:TE}{pos:Pos}
def IxR.or(h:IxR X r)(j:IxR X l):IxR X (λx y H Q=>r x y H Q\/l x y H Q):=by
 intro value slice c s i H x y v u Q I e f q d;rcases q with q|q
 .exact h value slice c s i H x y v u Q I e f q d
 .exact j value slice c s i H x y v u Q I e f q d
def X2(j:IxR X r)(f:PE X a ta)(i:PE X b tb)(l:K4 b):PE X (.Subscript a b pos) (tOp r ta tb):=by intro c s t H Q I h;exact kA (Uc f i I h λv u p x y d e m o q=>j a b c p t d x y v u Q e m o q (l _ _))
def X3(K:ao):R2:=λx y H Q=>∃p c i v,x=.ref p/\y=.int i/\fx K H p c/\E? c i=Z v/\Q v H
def X4(K:ao):R2:=λx y H Q=>∃p c i v,x=.ref p/\y=.int i/\fy K H p c/\E? c i=Z v/\Q v H
def X5:R2:=λx y H Q=>∃z i c,x=.str z/\y=.int i/\z.length<=aB/\E? z.cps.toList i=Z c/\Q (.str ⟨#[c]⟩) H
def QG:IxR X (X3 X.K):=by
 intro value slice c s B H x y v u Q I O P h A;obtain⟨p,Y,i,z,rfl,rfl,N,G,q⟩:=h;cases O;obtain⟨t,rfl⟩:=P;obtain⟨f,r,pl,W⟩:=I.list N;obtain⟨j,d,C,S,E,F⟩:=Hu G;obtain⟨w,m,l⟩:=r.get C;have M:=r.length;have T:=EI;have fin:EP X c B Q w s:=⟨z,H,I,l,q⟩;by_cases o:0<=i
 .have e:i.toNat=j:=by rw[seqIndex_of o F]at d;exact cF d
  exact item_listR pl.isList o (by omega) (by rw[e];simpa using m) fin A
 .have e:(i+(f.toArray.size:Int)).toNat=j:=by rw[seqIndex_neg (by omega) E]at d;rw[aZ,<- M];exact cF d
  exact lA (x:=w) pl.isList.typeIs mL.lookup
   (wpAny_getItem_list_neg (Q:=λr R=>r=w/\EP X c B Q r R) pl.isList (by omega) (by rw[aZ]<;>omega) (by omega) (by rw[e];simpa using m) ⟨J,fin⟩) A
def Uv:IxR X (X4 X.K):=by
 intro value slice c s e H x y v u Q I F G h C;obtain⟨p,T,i,z,rfl,rfl,B,o,q⟩:=h;cases F;obtain⟨t,rfl⟩:=G;obtain⟨E,r,pl,S⟩:=I.tuple B;obtain⟨j,l,m,N,O,P⟩:=Hu o;obtain⟨w,f,d⟩:=r.get m;have A:=r.length;have R:=EI;have fin:EP X c e Q w s:=⟨z,H,I,d,q⟩;exact lA (x:=w) pl.typeIs hU.lookup
  (getItem_tuple (j:=j) (Q:=λr M=>r=w/\EP X c e Q r M) pl (by omega) (by omega) (by rw[aZ,<- A];exact l) (by simpa using f) ⟨J,fin⟩) C
def Uw:IxR X X5:=by
 intro value slice e s N H x y v u Q I B C h A;obtain⟨z,i,c,rfl,rfl,G,r,q⟩:=h;obtain⟨t,rfl⟩:=B;obtain⟨M,rfl⟩:=C;obtain⟨j,d,m,E,o,p⟩:=Hu r;have w:z.cps.toList.length=z.length:=by simp[Str.length]
 rw[w]at d o p;have F:=EI;exact tail_any (typeIs_str s z t) slot_str_getitem.lookup (getItem_str (c:=c) (by
  have f:decide (i < -(2 ^ 63:Int))=δ:=bx (by omega);have l:decide (i >= 2 ^ 63)=δ:=bx (by omega);rw[f,l,Bool.or_false]) (by rw[d];simpa using m) ⟨.str ⟨#[c]⟩,H,I.tj _,⟨_,J⟩,q⟩) A
def rIx(K:ao):R2:=λx y H Q=>X3 K x y H Q\/X4 K x y H Q\/X5 x y H Q
def Ux:IxR X (rIx X.K):=QG.or (Uv.or Uw)
def S3(i:Int)(n d:Nat):max 0 (min (if i<0 then i+(n:Int)else i) n)=((HT.f? n d (Z i):Nat):Int):=by
 simp only[HT.f?];by_cases h:i<0
 .simp only[h,if_true]<;>omega
 .simp only[h,if_false]<;>omega
def Hv(lo c:Option Int)(n:Nat):(sliceBounds lo c U n).1=((HT.f? n 0 lo:Nat):Int)/\(sliceBounds lo c U n).2.1=((HT.f? n n c:Nat):Int)/\(sliceBounds lo c U n).2.2=1:=by
 refine⟨?_,?_,J⟩
 .cases lo with
  |none=>simp[sliceBounds,HT.f?]
  |some i=>exact S3 i n _
 .cases c with
  |none=>simp[sliceBounds,HT.f?]
  |some i=>exact S3 i n _
def F9(c:List ab)(lo d:Option Int):slicePick c.toArray lo d U=((c.drop (HT.f? c.length 0 lo)).take (HT.f? c.length c.length d - HT.f? c.length 0 lo)).toArray:=by obtain⟨e,f,h⟩:=Hv lo d c.toArray.size;unfold slicePick;rw[e,f,h];simp only[sliceRange_one,pick_run,aZ]<;>rfl
def QH(K:ao):V->Option Int->Option Int->Hp->VK->Prop:=λx lo d H Q=>∃a c,x=.ref a/\fx K H a c/\∀p,H p=U->Q (.ref p) (e3 H p (.b0 (IE c lo d)))
def QI:SlR X (QH X.K):=by intro i s C H x v A B lo e y Q I u j pl t h;obtain⟨a,c,rfl,l,q⟩:=h;cases u;obtain⟨p,r,f,m⟩:=I.list l;have d:=r.length;refine⟨"list", _,mL.lookup,f.isList.typeIs,?_⟩;refine wpAny_getItem_list_slice f.isList j pl t .none (by simp) ?_ (by rw[aZ]<;>omega);rw[F9,<- d];refine⟨.ref s.heap.objs.size,_,I.laid (t':=s.toks) (o:=.b0 (IE c lo e)) (λb w q=>aX _ q) (aK _) ?_,J,q _ (I.fc.fresh (aK _))⟩;exact⟨bf (Do c lo e) m,_,0,(r.drop (HT.f? c.length 0 lo)).take (HT.f? c.length c.length e - HT.f? c.length 0 lo),bH _ J⟩
def AI:V->Bool
 |.E=>γ
 |.I _=>γ
 |.int _=>γ
 |.str _=>γ
 |_=>δ
def eqV:V->V->Bool
 |.E,.E=>γ
 |.I a,.I b=>a==b
 |.I a,.int b=>(if a then 1 else 0)==b
 |.int a,.I b=>a==(if b then 1 else 0)
 |.int a,.int b=>a==b
 |.str a,.str b=>a==b
 |_,_=>δ
def EM(f:en y u)(c:en x v)(h:AI y=γ)(e:AI x=γ):i3 A s u v (eqV y x):=by
 cases y with
 |E=>
  cases f;cases x with
  |E=>cases c;exact jT _
  |I b=>cases c;exact qo b
  |int b=>obtain⟨t,rfl⟩:=c;exact l8 b t
  |str b=>obtain⟨t,rfl⟩:=c;exact l9 b t
  |_=>exact ar (show δ=γ from e) br
 |I a=>
  cases f;cases x with
  |E=>cases c;exact qp a
  |I b=>cases c;exact qq a b
  |int b=>obtain⟨t,rfl⟩:=c;exact qB a b t
  |str b=>obtain⟨t,rfl⟩:=c;exact qC a b t
  |_=>exact ar (show δ=γ from e) br
 |int a=>
  obtain⟨d,rfl⟩:=f;cases x with
  |E=>cases c;exact ma a d
  |I b=>cases c;exact qD a d b
  |int b=>obtain⟨t,rfl⟩:=c;exact qL a d b t
  |str b=>obtain⟨t,rfl⟩:=c;exact mr a d b t
  |_=>exact ar (show δ=γ from e) br
 |str a=>
  obtain⟨d,rfl⟩:=f;cases x with
  |E=>cases c;exact mf a d
  |I b=>cases c;exact qE a d b
  |int b=>obtain⟨t,rfl⟩:=c;exact mw a d b t
  |str b=>obtain⟨t,rfl⟩:=c;exact qM a d b t
  |_=>exact ar (show δ=γ from e) br
 |_=>exact ar (show δ=γ from h) br
def R?(x:V)(u:ab):Bool:=match u with
 |.none=>eqV .E x
 |.bool b=>eqV (.I b) x
 |.int i _=>eqV (.int i) x
 |.str z _=>eqV (.str z) x
 |_=>δ
def ND(r:en y u)(f:AI y=γ):R? x u=eqV y x:=by
 cases y with
 |E=>cases r;rfl
 |I b=>cases r;rfl
 |int i=>obtain⟨t,rfl⟩:=r;rfl
 |str z=>obtain⟨t,rfl⟩:=r;rfl
 |_=>exact ar (show δ=γ from f) br
theorem BG:∀{c:bD} {d:List ab},eg c d->c.all AI=γ->d.any (R? x)=c.any λy=>eqV y x
 |_,_,.nil,_=>rfl
 |y::c,u::d,.cons r t,f=>by rw[fK,aT]at f;rw[eK,eK,ND r f.1,BG t f.2]
theorem zJ(i:en x v)(h:AI x=γ):∀{e:bD} {d:List ab},eg e d->e.all AI=γ->∀u∈d,i3 A s u v (R? x u)
 |_,_,.nil,_=>λu c=>by cases c
 |y::e,u::d,.cons r t,f=>λj c=>by
  rw[fK,aT]at f;rcases aN.1 c with rfl|c
  .rw[ND r f.1];exact EM r i f.1 h
  .exact zJ i h t f.2 j c
def inV(x:V)(c:bD):Bool:=c.any λy=>eqV y x
def rIn(K:ao)(neg:Bool):R2:=λx y H Q=>∃p c,y=.ref p/\(fx K H p c\/fy K H p c)/\AI x=γ/\c.all AI=γ/\Q (.I (if neg then !inV x c else inV x c)) H
def Mj:g? X (bh .In) (rIn X.K δ):=by
 intro i s t H x y v u Q I j m h;obtain⟨p,o,rfl,d,f,fs,q⟩:=h;cases m;rcases d with d|d
 .obtain⟨c,r,pl,l⟩:=I.list d;refine SeqAt.in_listAt (R? x) pl.isList (λw e=>zJ j f r fs w (by simpa using e)) ⟨.I _,H,I,J,?_⟩;rw[show c.toArray.any (R? x)=c.any (R? x) by simp,BG r fs];exact q
 .obtain⟨c,r,pl,l⟩:=I.tuple d;refine SeqAt.in_tupleAt (R? x) pl (λw e=>zJ j f r fs w (by simpa using e)) ⟨.I _,H,I,J,?_⟩;rw[show c.toArray.any (R? x)=c.any (R? x) by simp,BG r fs];exact q
def Hw:g? X (bh .NotIn) (rIn X.K γ):=by
 intro i s t H x y v u Q I j m h;obtain⟨p,o,rfl,d,f,fs,q⟩:=h;cases m;rcases d with d|d
 .obtain⟨c,r,pl,l⟩:=I.list d;refine SeqAt.notIn_listAt (R? x) pl.isList (λw e=>zJ j f r fs w (by simpa using e)) ⟨.I _,H,I,J,?_⟩;rw[show c.toArray.any (R? x)=c.any (R? x) by simp,BG r fs];exact q
 .obtain⟨c,r,pl,l⟩:=I.tuple d;refine SeqAt.notIn_tupleAt (R? x) pl (λw e=>zJ j f r fs w (by simpa using e)) ⟨.I _,H,I,J,?_⟩;rw[show c.toArray.any (R? x)=c.any (R? x) by simp,BG r fs];exact q
def Hy:tG X (.builtin "len") (λl H Q=>∃p d,l=[.ref p]/\(fx X.K H p d\/fy X.K H p d)/\Q (.int d.length) H):=by
 intro j s x H l w Q I r h;obtain⟨p,d,rfl,e,q⟩:=h;obtain⟨u,rfl,o⟩:=mi r;cases o;have t:=EI;rcases e with e|e
 .obtain⟨f,i,pl,m⟩:=I.list e;have c:=i.length;exact Calls.call_len_list pl.isList (by simp only[aZ]<;>omega) ⟨.int d.length,H,I.tj _,⟨s.toks+1,by rw[aZ,c]⟩,q⟩
 .obtain⟨f,i,pl,m⟩:=I.tuple e;have c:=i.length;exact len_tuple pl (by simp only[aZ]<;>omega) ⟨.int d.length,H,I.tj _,⟨s.toks+1,by rw[aZ,c]⟩,q⟩
def HA:tG X (.builtin "len") (λd H Q=>∃z,d=[.str z]/\z.length<=aB/\Q (.int z.length) H):=by intro c s j H d i Q I r h;obtain⟨z,rfl,f,q⟩:=h;obtain⟨u,rfl,t,rfl⟩:=mi r;have e:=EI;exact len_str (by omega) ⟨.int z.length,H,I.tj _,⟨_,J⟩,q⟩
def HB:tG X (.type "list") (λxs H Q=>∃p i,xs=[.ref p]/\(fx X.K H p i\/fy X.K H p i)/\∀l,H l=U->Q (.ref l) (e3 H l (.b0 i))):=by
 intro pins s σ H xs us Q I r h;obtain⟨p,i,rfl,m,q⟩:=h;obtain⟨u,rfl,A⟩:=mi r;cases A;have fin:∀(c:List ab),eg i c->i.length<=aB->∀(h':Heap) (d:Nat),(∀b z,s.heap.get? b=Z z->h'.get? b=Z z)->
   h'.get? s.heap.objs.size=Z { cls:=.type "list", dict:=U,data:=.seq c.toArray d,slots:=#[] }->EP X pins σ Q (.ref s.heap.objs.size) { s with heap:=h' }:=λc f t h' d kp e=>
  ⟨.ref s.heap.objs.size,_,I.laid (t':=s.toks) kp (aK _) (show e4 X.prog X.w _ h' _ (.b0 i) from⟨t,c,d,f,e⟩),J,q _ (I.fc.fresh (aK _))⟩
 rcases m with m|m
 .obtain⟨c,f,pl,t⟩:=I.list m;have j:=f.length;obtain⟨o,y,x,n,hd⟩:=pl.isList;exact nS p (.inl J) y x hd (λh' d kp e=>fin c f t h' d kp e) (by simp only[aZ]<;>omega)
 .obtain⟨c,f,pl,t⟩:=I.tuple m;have j:=f.length;obtain⟨o,y,x,n,hd⟩:=pl;exact nS p (.inr J) y x hd (λh' d kp e=>fin c f t h' d kp e) (by simp only[aZ]<;>omega)
def Ga:tG X (.type "tuple") (λxs H Q=>∃p d,xs=[.ref p]/\((fx X.K H p d/\∀l,H l=U->Q (.ref l) (e3 H l (.ea d)))\/(fy X.K H p d/\Q (.ref p) H))):=by
 intro pins s σ H xs us Q I r h;obtain⟨p,d,rfl,h⟩:=h;obtain⟨u,rfl,y⟩:=mi r;cases y;rcases h with ⟨f,q⟩|⟨f,q⟩
 .obtain⟨c,i,pl,t⟩:=I.list f;have m:=i.length;refine call_tuple_list pl.isList (λh' kp=>?_) (by simp only[aZ]<;>omega);have j:eb X pins σ H { s with heap:=h' }:=I.i0 (t':=s.toks) kp;have x:eb X pins σ (e3 H h'.objs.size (.ea d)) { s with heap:=h'.push { cls:=.type "tuple", data:=.seq c.toArray } }:=
   j.laid (t':=s.toks) (λb o e=>aX _ e) (aK _) (show e4 X.prog X.w _ _ _ (.ea d) from⟨t,c,i,kH _ _,λo e=>by rw[bH _ J]at e;cases e;rfl⟩)
  exact⟨.ref h'.objs.size,_,x,J,q _ (j.fc.fresh (aK _))⟩
 .obtain⟨c,i,pl,t⟩:=I.tuple f;exact call_tuple_same pl ⟨.ref p,H,I,J,q⟩
def tyV(K:ao)(T:String)(x:V)(H:Hp):Prop:=match x with
 |.str _=>T="str"
 |.int _=>T="int"
 |.ref p=>(T="list" /\ ∃c,fx K H p c)\/(T="tuple" /\ ∃o,K.lookup p=Z o/\o.cls=.type "tuple" /\ o.dict=U)\/
   (T="dict" /\ ((∃kvs,H p=Z (.dK kvs))\/∃kvs,H p=Z (.dT kvs)))\/(T="set" /\ ∃S n,H p=Z (.set S n))
 |_=>False
def NF(I:eb X m A H s)(r:en x v)(h:tyV X.K T x H):
  s.TypeIs v T/\∀a,v=.ref a->∃l,s.heap.get? a=Z l/\l.dict=U:=by
 cases x with
 |str z=>obtain⟨t,rfl⟩:=r;cases (show T="str" from h);exact⟨typeIs_str s z t,λk e=>nomatch e⟩
 |int i=>obtain⟨t,rfl⟩:=r;cases (show T="int" from h);exact⟨typeIs_int s i t,λk e=>nomatch e⟩
 |ref p=>
  cases r;rcases h with ⟨rfl,y,u⟩|⟨rfl,o,d,q,hd⟩|⟨rfl,d⟩|⟨rfl,S,n,d⟩
  .obtain⟨w,_,pl,_⟩:=I.list u;refine⟨pl.isList.typeIs,λa e=>?_⟩;cases e;obtain⟨o,n,e,c,hd,_⟩:=pl;exact⟨o,e,hd⟩
  .refine⟨⟨o,I.nq p o d,q⟩,λa e=>?_⟩;cases e;exact⟨o,I.nq _ o d,hd⟩
  .have z:∃o,s.heap.get? p=Z o/\o.ExactDict:=by
    rcases d with ⟨kvs,d⟩|⟨kvs,d⟩
    .obtain⟨_,_,_,_,o,_,_,e,f,_⟩:=I.fc p _ d;exact⟨o,e,f⟩
    .obtain⟨_,_,_,_,o,_,_,e,f,_⟩:=I.fc p _ d;exact⟨o,e,f⟩
   obtain⟨o,e,f⟩:=z;refine⟨⟨o,e,f.1⟩,λa j=>?_⟩;cases j;exact⟨o,e,f.2.1⟩
  .obtain⟨o,_,_,_,e,f,_⟩:=I.fc p _ d;refine⟨⟨o,e,f.1⟩,λa j=>?_⟩;cases j;exact⟨o,e,f.2.1⟩
 |_=>exact cM h
def X6(K:ao)(T:String)(r:V->bD->Hp->VK->Prop)(to:TE):TE:=λd H Q=>to d H λx c=>tyV K T x c/\r x [] c Q
def tBM(K:ao)(T:String)(r:V->bD->Hp->VK->Prop)(to:TE)(t:TA):TE:=λd H Q=>to d H λx c=>tyV K T x c/\t d c λf e=>r x f e Q
variable{o e:Expr}{es:List Expr}{to:TE}{t:TA}{name:Str}{apos cpos:Pos}{T id:String}{r:V->bD->Hp->VK->Prop}
def Uy(u:i4 T)(slot:Slot T name id)(hty:typeOf (.builtin id)=pure (.type "method_descriptor"))(p:MtR X id r)(q:PE X o to)
  (hbase:du o name X.b' (eval o X.b')=eval o X.b':=by rfl) (hline:(apos.endLine==cpos.line)=γ:=by rfl):PE X (.Call (.Attribute o name apos) [] [] cpos) (X6 X.K T r to):=by
 intro c s i H Q I h;refine wpAny_Call_method0_late hbase hline (fg (q c s i H _ I h) λv y zz=>?_);obtain⟨x,j,d,f,z,w⟩:=zz;obtain⟨l,m⟩:=NF d f z;exact⟨T,id,u,slot,hty,l,m,fA J (PySem.evalArgs_none (p c y i j x [] v [] Q d f .nil w))⟩
def X7(A:i4 T)(slot:Slot T name id)(hty:typeOf (.builtin id)=pure (.type "method_descriptor"))(w:MtR X id r)(y:PE X o to)(u:PA X (e::es) t)
  (hbase:du o name X.b' (eval o X.b')=eval o X.b':=by rfl)
  (hfew:((bC cpos (aw (e::es) X.b')).all (λx=>!x.1)&&(backToKw cpos (cW [] X.b')).all (λx=>x.1.isSome)
   && decide ((e::es).length+([]:List d5).length+(if ([]:List d5).isEmpty then 0 else 1)<30))=γ:=by rfl)
  (hline:(apos.endLine==cpos.line)=γ:=by rfl) (z:aw (e::es) X.b'=(δ,eval e X.b')::aw es X.b':=by rfl) (hplain:(bC cpos (aw es X.b')).any (·.1)=δ:=by rfl):
  PE X (.Call (.Attribute o name apos) (e::es) [] cpos) (tBM X.K T r to t):=by
 intro c s d H Q I h;refine wpAny_Call_method_late hbase hfew hline J (fg (y c s d H _ I h) λv F zz=>?_);obtain⟨x,j,f,i,M,B⟩:=zz;obtain⟨p,q⟩:=NF f i M;refine⟨T,id,A,slot,hty,p,q,?_⟩;have hA:=u cpos c F d j _ f B;rw[z]at hA ⊢;refine fA (by show (δ||(bC cpos (aw es X.b')).any (·.1))=δ;rw[hplain]<;>rfl) (gf ?_)
 exact fg hA λN G ⟨O,l,m,E,C⟩=>w c G d l x O v N Q m i E C
end
def MtM(X:Cx)(id:String)(r:V->bD->Hp->VK->Prop):Prop:=
 ∀(a:cE) (s:af) (d:St) (H:Hp) (x:V) (c:bD) (v:ab) (b:List ab) (Q:VK),eb X a d H s->en x v->eg c b->r x c H Q->
  ah (model X.prog X.w) X.A (call (.builtin id) (v::b)) (EP X a d Q) X.xe s
def eg.one:∀{x:V} {a:List ab},eg [x] a->∃u,a=[u]/\en x u
 |_,_,.cons r .nil=>⟨_,J,r⟩
def eg.zero:∀{a:List ab},eg [] a->a=[]
 |_,.nil=>rfl
section
variable{X:Cx}{pins:cE}{σ:St}{H:Hp}{s:af}{l b:Addr}{xs ys zs:bD}
def eb.lset{a its':List ab}(I:eb X pins σ H s)(hH:H l=Z (.b0 xs))
  (e:s.heap.get? l=Z { cls:=.type "list", data:=.seq a.toArray n }) (d:f a.toArray=its'.toArray) (i:eg ys its') (j:ys.length<=aB):
  eb X pins σ (e3 H l (.b0 ys)) { s with heap:=s.heap.update l (kB f),toks:=o }:=by
 have q:=PySem.IsL.update e f;rw[d]at q;refine I.vf (x:=l) (e:=l) (by rw[hH];exact trivial) (.inl J) (λm u c h=>(Heap.get?_update_other s.heap (kB f) (eS c)).t h) ⟨_,q⟩ ?_;exact⟨j,its',_,i,q⟩
def eb.lnew(I:eb X pins σ H s)(c:eg ys a)(d:ys.length<=aB):
  eb X pins σ (e3 H s.heap.objs.size (.b0 ys)) { s with heap:=s.heap.push { cls:=.type "list", data:=.seq a.toArray },toks:=t' }:=
 I.laid (λz z q=>aX _ q) (aK _) ⟨d,a,0,c,bH _ J⟩
theorem eb.fresh(I:eb X pins σ H s):H s.heap.objs.size=U:=I.fc.fresh (aK _)
def eb.Hj(I:eb X pins σ H s)(hH:H l=Z (.b0 xs)):xs.length<=aB/\∃(a:List ab) (n:Nat),eg xs a/\xs.length=a.length/\s.heap.get? l=Z { cls:=.type "list", data:=.seq a.toArray n }:=by obtain⟨z,a,n,r,e⟩:=I.fc l _ hH;exact⟨z,a,n,r,r.length,e⟩
def IF(h:n<=aB):fY n=δ:=by unfold fY;exact bx (by omega)
end
section
variable{X:Cx}
def HC:V->bD->Hp->VK->Prop:=λx b H Q=>∃l a y,x=.ref l/\b=[y]/\H l=Z (.b0 a)/\a.length<aB/\Q .E (e3 H l (.b0 (a++[y])))
theorem Cw:MtM X "list.append" HC:=by intro c s w H x p v o Q I i f h;obtain⟨l,t,y,rfl,rfl,hH,m,q⟩:=h;cases i;obtain⟨u,rfl,d⟩:=f.one;obtain⟨z,a,n,r,j,e⟩:=I.Hj hH;refine gE jJ ⟨_,e,J⟩ F.entry_list_append (F.args_list_append_2 _ _) (PySem.list_append l a.toArray n u (by rw[aZ];omega)) ⟨e,?_⟩;refine⟨.E,_,I.lset (its':=a++[u]) hH e (by simp) (r.append (.cons d .nil)) ?_,J,q⟩;rw[au,c3];omega
def K5:V->bD->Hp->VK->Prop:=λx d H Q=>∃l b a c,x=.ref l/\d=[.ref b]/\H l=Z (.b0 a)/\H b=Z (.b0 c)/\a.length+c.length<=aB/\Q .E (e3 H l (.b0 (a++c)))
def Ml:MtM X "list.extend" K5:=by
 intro i s N H x E v C Q I y w h;obtain⟨l,b,F,M,rfl,rfl,hH,hB,B,q⟩:=h;cases y;obtain⟨u,rfl,t⟩:=w.one;cases t;obtain⟨z,c,n,r,A,e⟩:=I.Hj hH;obtain⟨G,a,o,p,m,j⟩:=I.Hj hB;have d:c.toArray.size+a.toArray.size<=aB:=by rw[aZ,aZ];omega
 have hlong:¬(!c.toArray.isEmpty&&fY (c.toArray.size+a.toArray.size))=γ:=by rw[IF d,nD];exact br
 refine gE il ⟨_,e,J⟩ mh (lS _ _)
  (AutoSeq1.list_extend_list_list_0 l c.toArray n b a.toArray o hlong (by rw[aZ];omega) (by omega)) ⟨e,j,?_⟩
 refine⟨.E,_,I.lset (its':=c++a) hH e (by simp) (r.append p) ?_,J,q⟩;rw[au];omega
def NG:V->bD->Hp->VK->Prop:=λx a H Q=>∃l b,x=.ref l/\a=[]/\H l=Z (.b0 b)/\Q .E (e3 H l (.b0 []))
theorem NH:MtM X "list.clear" NG:=by intro c s t H x m v j Q I f d h;obtain⟨l,o,rfl,rfl,hH,q⟩:=h;cases f;have hus:=d.zero;subst hus;obtain⟨z,a,n,r,i,e⟩:=I.Hj hH;refine gE mM ⟨_,e,J⟩ F.entry_list_clear (F.args_list_clear_1 _) (AutoSeq1.list_clear_list_0 l a.toArray n (by rw[aZ];omega)) ⟨e,?_⟩;exact⟨.E,_,I.lset (its':=[]) (ys:=[]) hH e J .nil (cb _),J,q⟩
def Zw:R2:=λx y H Q=>∃l b a c,x=.ref l/\y=.ref b/\H l=Z (.b0 a)/\H b=Z (.b0 c)/\a.length+c.length<=aB/\∀p,H p=U->Q (.ref p) (e3 H p (.b0 (a++c)))
def Uz:g? X (cj .Add) Zw:=by
 intro d s G H x y v u Q I o p h;obtain⟨l,b,C,F,rfl,rfl,hH,hB,w,q⟩:=h;cases o;cases p;obtain⟨z,c,n,r,t,e⟩:=I.Hj hH;obtain⟨E,a,A,m,j,f⟩:=I.Hj hB;refine PySem.P.add_list e f ?_ (by rw[aZ,aZ];omega);have i:c.toArray++a.toArray=(c++a).toArray:=by simp
 rw[i];exact⟨.ref _,_,I.lnew (t':=s.toks) (r.append m) (by rw[au];omega),J,q _ I.fresh⟩
end
section
variable{prog:aI}{w:ay}{A:aM}{E:ab->af->Prop}{s:af}
set_option maxRecDepth 100000 in
end
section
variable{κ:Type}[DecidableEq κ]
def uY(kvs:List (κ×V))(k:κ):Option V:=(kvs.find? λkv=>decide (kv.1=k)).map (·.2)
def ij(kvs:List (κ×V))(k:κ)(v:V):List (κ×V):=
 if (kvs.any λkv=>decide (kv.1=k))=γ then kvs.map (λkv=>if kv.1=k then (kv.1,v)else kv)else kvs++[(k,v)]
def BH{p:κ×V}(e:p.1=k):uY (p::r) k=Z p.2:=by simp[uY,dS,e]
def BI{p:κ×V}(e:¬p.1=k):uY (p::r) k=uY r k:=by simp[uY,dS,e]
theorem EN(k:κ):∀kvs:List (κ×V),(kvs.any λkv=>decide (kv.1=k))=(uY kvs k).isSome
 |[]=>rfl
 |p::r=>by
  rw[eK];by_cases e:p.1=k
  .simp only[BH e,bN e,Bool.true_or,Option.isSome_some]
  .rw[BI e,bx e,Bool.false_or];exact EN k r
def xx(kvs:List (κ×V))(k:κ)(v:V):(ij kvs k v).length<=kvs.length+1:=by
 unfold ij;split
 .rw[ae];omega
 .rw[au,aF,cu];omega
def NI{kvs:List (κ×V)}{k:κ}(v:V)(h:uY kvs k=U):ij kvs k v=kvs++[(k,v)]:=by unfold ij;rw[EN,h];exact ak (by decide)
def zH.XF(r:zH o u):o.isSome=u.isSome:=by
 cases o with
 |none=>cases u with
  |none=>rfl
  |some _=>exact(show False from r).elim
 |some _=>cases u with
  |none=>exact(show False from r).elim
  |some _=>rfl
theorem zH.getD(r:zH o u)(b:en d a):en (o.getD d) (u.getD a):=by
 cases o with
 |none=>cases u with
  |none=>exact b
  |some _=>exact(show False from r).elim
 |some _=>cases u with
  |none=>exact(show False from r).elim
  |some _=>exact r
def KV.val(r:KV kvs j)(k:κ):zH (uY kvs k) (valueAt j k):=by
 unfold KV at r
 induction r with
 |nil=>exact True.intro
 |@cons p q l c h t i=>
  obtain⟨d,f⟩:=h;by_cases e:p.1=k
  .have a:q.1=k:=d.symm.t e;have b:valueAt (q::c) k=Z q.2:=by simp[valueAt,dS,a]
   rw[BH e,b];exact f
  .have a:¬q.1=k:=λz=>e (d.t z);have b:valueAt (q::c) k=valueAt c k:=by simp[valueAt,dS,a]
   rw[BI e,b];exact i
theorem KV.any(r:KV kvs vs)(k:κ):(kvs.any λkv=>decide (kv.1=k))=vs.any λkv=>decide (kv.1=k):=by
 unfold KV at r
 induction r with
 |nil=>rfl
 |cons h t a=>rw[eK,eK,a,h.1]
def KV.repl(r:KV kvs f)(k:κ)(d:en y u):
  KV (kvs.map λkv=>if kv.1=k then (kv.1,y)else kv) (f.map λkv=>if kv.1=k then (kv.1,u)else kv):=by
 unfold KV at r ⊢
 induction r with
 |nil=>exact .nil
 |@cons p q i j h t c=>
  rw[aR,aR];refine .cons ?_ c;obtain⟨a,b⟩:=h;by_cases e:p.1=k
  .rw[aj e,aj (a.symm.t e)];exact⟨a,d⟩
  .rw[ak e,ak (λz=>e (a.t z))];exact⟨a,b⟩
def KV.put(r:KV kvs b)(k:κ)(a:en y u):KV (ij kvs k y) (stored b k u):=by
 unfold ij stored;rw[r.any k];by_cases e:(b.any λkv=>decide (kv.1=k))=γ
 .rw[aj e,aj e];exact r.repl k a
 .rw[ak e,ak e];exact ot r ⟨J,a⟩
theorem KV.length(r:KV kvs a):kvs.length=a.length:=j2 r
end
def BJ(r:en (kV k) u):(rA P w).is k u=γ:=by
 cases k with
 |inl i=>obtain⟨t,e⟩:=(show ∃t,u=Value.int i t from r);subst e;exact Iu P w i t
 |inr x=>obtain⟨t,e⟩:=(show ∃t,u=Value.str x t from r);subst e;exact Iv P w x t
theorem Gu:∀{a:List eu} {b:List ab},eg (a.map kV) b->ItemsAre (rA P w) a b
 |[],_,r=>by rw[c9]at r;cases r;exact .nil
 |k::a,_,r=>by
  rw[aR]at r;cases r with
  |cons h t=>exact .cons (BJ h) (Gu t)
abbrev KT(H:Hp):List (List eu×V)->List (List eu×Addr×ab)->Prop:=eO λp q=>p.1=q.1/\H q.2.1=Z (.ea (p.1.map kV))/\en p.2 q.2.2
def KT.val(r:KT H kvs j)(k:List eu):zH (uY kvs k) ((atKey j k).map (·.2)):=by
 induction r with
 |nil=>exact True.intro
 |@cons p q l c h t i=>
  obtain⟨d,_,f⟩:=h;by_cases e:p.1=k
  .have a:q.1=k:=d.symm.t e;have b:atKey (q::c) k=Z q.2:=by simp[atKey,dS,a]
   rw[BH e,b];exact f
  .have a:¬q.1=k:=λz=>e (d.t z);have b:atKey (q::c) k=atKey c k:=by simp[atKey,dS,a]
   rw[BI e,b];exact i
def KT.repl(r:KT H kvs i)(k:List eu)(f:en y u):
  KT H (kvs.map λkv=>if kv.1=k then (kv.1,y)else kv) (i.map (putAt k u)):=by
 induction r with
 |nil=>exact .nil
 |@cons p q j l h t d=>
  rw[aR,aR];refine .cons ?_ d;obtain⟨a,b,c⟩:=h;unfold putAt;by_cases e:p.1=k
  .rw[aj e,aj (a.symm.t e)];exact⟨a,b,f⟩
  .rw[ak e,ak (λz=>e (a.t z))];exact⟨a,b,c⟩
def KT.put(r:KT H kvs a)(k:List eu)(d:H b=Z (.ea (k.map kV)))(c:en y u):
  KT H (ij kvs k y) (storedH a k b u):=by
 have e:(kvs.any λkv=>decide (kv.1=k))=(atKey a k).isSome:=by rw[EN,(r.val k).XF,Option.isSome_map]
 unfold ij storedH;rw[e];by_cases q:(atKey a k).isSome=γ
 .rw[aj q,aj q];exact r.repl k c
 .rw[ak q,ak q];exact ot r ⟨J,d,c⟩
def KT.keeps(r:KT H kvs e)(d:∀b a,H b=Z (.ea a)->c b=Z (.ea a)):KT c kvs e:=
 Paired.mapP r λx x z=>⟨z.1,d _ _ z.2.1,z.2.2⟩
section
variable{P:aI}{w:ay}{H:Hp}{h:Heap}{a:Addr}
def S4(ok:pa P w H h)(e:Rd H a u):e4 P w H h a u:=e.ok ok
def Dp(ok:pa P w H h)(e:Rd H a (.dK kvs)):kvs.length<=aB/\(a==cX)=δ/\∃b,KV kvs b/\h.DictOf (rA P w) a b:=
 show e4 P w H h a (.dK kvs) from S4 ok e
def NJ(ok:pa P w H h)(e:H a=Z (.dK kvs)):kvs.length<=aB/\(a==cX)=δ/\∃b,KV kvs b/\h.DictOf (rA P w) a b:=Dp ok (.inl e)
def EO{c:List eu}(ok:pa P w H h)(e:H a=Z (.ea (c.map kV))):(tupleKind (rA P w)).is h c a:=by obtain⟨_,b,r,⟨o,d,f,n,i⟩,_⟩:=(show e4 P w H h a (.ea (c.map kV)) from ok a _ e);exact⟨o,b.toArray,n,d,f,i,by simpa using Gu r⟩
def Gv(ok:pa P w H h)(e:Rd H a (.dT kvs)):kvs.length<=aB/\(a==cX)=δ/\
  ∃c,KT H kvs c/\h.DictOfH (tupleKind (rA P w)) a c:=by
 obtain⟨z,y,c,r,o,i,f,j,u,A,B,C⟩:=(show e4 P w H h a (.dT kvs) from S4 ok e);refine⟨z,y,c,r,o,i,f,j,u,A,B,λx b=>?_,C⟩;have all:∀{l:List (List eu×V)} {m:List (List eu×Addr×ab)},KT H l m->∀x∈m,(tupleKind (rA P w)).is h x.1 x.2.1:=by
  intro l m q
  induction q with
  |nil=>intro x b;exact nomatch b
  |@cons p q F G d t E=>
   intro x b;rcases aN.1 b with e|b
   .subst e;exact EO ok (by rw[<-d.1];exact d.2.1)
   .exact E x b
 exact all r x b
def dt_of(ok:pa P w H h)(e:H a=Z (.dT kvs)):kvs.length<=aB/\(a==cX)=δ/\
  ∃b,KT H kvs b/\h.DictOfH (tupleKind (rA P w)) a b:=Gv ok (.inl e)
end
def p'(H:Hp)(a:Addr)(y:V)(r:Option V):Prop:=
 (∃kvs k,Rd H a (.dK kvs)/\y=kV k/\r=uY kvs k)\/∃kvs k b,Rd H a (.dT kvs)/\y=.ref b/\H b=Z (.ea (k.map kV))/\r=uY kvs k
def NK(H:Hp)(a:Addr)(y v:V)(c:Hp):Prop:=
 (∃kvs k,H a=Z (.dK kvs)/\y=kV k/\kvs.length<aB/\c=e3 H a (.dK (ij kvs k v)))\/
 ∃kvs k b,H a=Z (.dT kvs)/\y=.ref b/\H b=Z (.ea (k.map kV))/\kvs.length<aB/\c=e3 H a (.dT (ij kvs k v))
theorem NK.k{H:Hp}{a:Addr}{kvs:List (eu×V)}{k:eu}{v:V}(e:H a=Z (.dK kvs))(b:kvs.length<aB):NK H a (kV k) v (e3 H a (.dK (ij kvs k v))):=.inl ⟨kvs,k,e,J,b,J⟩
section
variable{X:Cx}{pins:cE}{σ:St}{H:Hp}{s:af}{a:Addr}{y v:V}{u r:ab}{o:Option V}{A:aM}{E:ab->af->Prop}
def eb.big(I:eb X pins σ H s):cX<s.heap.objs.size:=by have h:aQ<s.heap.objs.size:=(I.B?.xr.keeps I.bk).lt;exact Nat.lt_trans (by decide) h
def Mm(C:A.units+1<cLine)(I:eb X pins σ H s)(g:p' H a y (Z v))(q:en y u)(h:∀d t,eb X pins σ H t->en v d->Q d t):
  ah (model X.prog X.w) A (getItem (.ref a) u) Q E s:=by
 rcases g with ⟨kvs,k,e,i,l⟩|⟨kvs,k,b,e,i,x,l⟩
 .subst i;obtain⟨z,hd,F,rel,f⟩:=Dp I.fc e;obtain⟨d,m,c⟩:=zH.D0 (v:=v) (o:=valueAt F k) (by rw[l];exact rel.val k);exact wpAny_getItem_of (BJ q) f.mapOf m (h d _ (I.tj _) c)
 .subst i;cases (show u=Value.ref b from q);obtain⟨z,hd,G,rel,f⟩:=Gv I.fc e;obtain⟨d,m,c⟩:=zH.D0 (v:=v) (o:=(atKey G k).map (·.2)) (by rw[l];exact rel.val k)
  obtain⟨p,B,j⟩:=f7.1 m;refine wpAny_getItem_heap (ip C) (EO I.fc x) f B ?_;rw[j];exact h d _ (I.tj _) c
def Eu(I:eb X pins σ H s)(f:Mut (H a))(hs:fM a s.heap h')(d:∃q,h'.get? a=Z q)(new:e4 X.prog X.w (e3 H a ob) h' a ob):
  eb X pins σ (e3 H a ob) { s with heap:=h',toks:=t' }:=
 I.vf (x:=a) (e:=a) f (.inl J) (λb q c z=>(hs.2 b c).t z) d new
def J1{h':Heap}{kvs:List (eu×V)}(z:kvs.length<=aB)(hd:(a==cX)=δ)(rel:KV kvs b)(c:h'.DictOf (rA P w) a b):
  e4 P w d h' a (.dK kvs):=⟨z,hd,b,rel,c⟩
def Mo(hu:A.units+1<cLine)(I:eb X pins σ H s)(g:NK H a y v O)(M:en y u)(G:en v r)(h:∀N,eb X pins σ O N->Q () N):
  ah (model X.prog X.w) A (setItem (.ref a) u r) Q E s:=by
 rcases g with ⟨kvs,k,e,j,l,eH⟩|⟨kvs,k,b,e,j,B,l,eH⟩
 .subst j eH;obtain⟨z,hd,vs,rel,i⟩:=NJ I.fc e;have x:vs.length<=aB:=by rw[<-rel.length];exact z
  have m:(ij kvs k v).length<=aB:=by have:=xx kvs k v;omega
  refine wpAny_setItem_pairs (hsz:=x) (BJ M) i λF d p=>h _ ?_;have he:∃q,F.get? a=Z q:=let ⟨q,_,_,f,_⟩:=d;⟨q,f⟩;exact Eu I (by rw[e];exact True.intro) p he (J1 m hd (rel.put k G) d)
 .subst j eH;cases (show u=Value.ref b from M);obtain⟨z,hd,xs,rel,i⟩:=dt_of I.fc e;have x:xs.length<=aB:=by rw[<-j2 rel];exact z
  have m:(ij kvs k v).length<=aB:=by have:=xx kvs k v;omega
  refine wpAny_setItem_heap (hsz:=x) (ip hu) (EO I.fc B) i λF d p=>h _ ?_;obtain⟨q,R,P,f,S,T,W,_,Y⟩:=d;refine Eu I (by rw[e];exact True.intro) p ⟨q,f⟩ ⟨m,hd,_,(rel.put k B G).keeps λc ys C=>?_,q,R,P,f,S,T,W,Y⟩;rw[rg (XA C e (λz=>nomatch z))];exact C
end
section
variable{X:Cx}{pins:cE}{σ:St}{H:Hp}{s:af}{a:Addr}{kvs:List (eu×V)}{k:eu}{u:ab}{A:aM}{E:ab->af->Prop}
def X8(I:eb X pins σ H s)(e:Rd H a (.dK kvs))(h:∀t b,eb X pins σ H b->Q (.int kvs.length t) b):ah (model X.prog X.w) A (call (.builtin "len") [.ref a]) Q E s:=by obtain⟨z,hd,d,rel,c⟩:=Dp I.fc e;refine call_len_dict hd c (by rw[<-rel.length];rw[cw]at z;omega) ?_;rw[<-rel.length];exact h _ _ (I.tj _)
end
def UA(i:Expr):Prop:=∀b a,subscripted i δ b a=operate [b,a] (getItem b a)
def QJ{prog:aI}{w:ay}{A:aM}{E:ab->af->Prop}{s:af}{b':Env}{value slice:Expr}{pos:Pos}{T id:String}{Q:ab->af->Prop}
  (j:typeLookup (.type T) "__getitem__" = pure (Z (.builtin id))) (l:UA slice)
  (h:ah (model prog w) A (eval value b') (λo c=>ah (model prog w) A (eval slice b') (λi a=>a.TypeIs o T/\ah (model prog w) A (getItem o i) Q E a) E c) E s):
  ah (model prog w) A (eval (.Subscript value slice pos) b') Q E s:=by
 refine kA (cg h (λo c e=>cg e (λi a b=>?_) λz z x=>x) λz z x=>x);obtain⟨hT,b⟩:=b;unfold subscriptTail;refine aq ?_;rw[getitemInPython_of_ne hT.not_modules];refine aq (iH hT j ?_);have fin:ah (model prog w) A (subscripted slice δ o i) (λr d=>ah (model prog w) A (letTemporaryGo value o r>>=λz=>pure r) Q E d) E a:=by rw[l o i];exact wpAny_operating (cg b (λr d f=>aq (wpAny_letTemporaryGo (aA f))) λz z x=>x)
 first
  |exact aA (aq fin)
  |exact aq (aA (aq fin))
  |exact aq fin
def IG(I:eb X d i H s)(g:p' H a y o):s.TypeIs (.ref a) "dict" := by
 rcases g with ⟨kvs,k,e,_,_⟩|⟨kvs,k,b,e,_,_,_⟩
 .obtain⟨_,_,f,_,c⟩:=Dp I.fc e;exact c.typeIs
 .obtain⟨_,_,h,_,c⟩:=Gv I.fc e;exact c.typeIs
def X9(e f:TE):TE:=λc H Q=>e c H λx d=>f c d λy b=>∃a v,x=.ref a/\p' b a y (Z v)/\Q v b
def S5(h j i:TE):TS:=λD b H=>i b H λv d=>h b d λx e=>j b e λy f=>∃a c,x=.ref a/\NK f a y v c/\D.nx b c
section
variable{X:Cx}{o i e value:Expr}{pos pos' tpos:Pos}{td ty tv:TE}
theorem QK(z:X.A.units+1<cLine)(t:PE X o td)(r:PE X i ty)(w:UA i):PE X (.Subscript o i pos) (X9 td ty):=by intro b s f H Q I h;refine QJ F.slot_dict_getitem.lookup w (fg (t b s f H _ I h) λu M ⟨x,j,m,E,B⟩=>fg (r b M f j _ m B) λN O zz=>?_);obtain⟨y,l,d,G,a,v,q,g,C⟩:=zz;subst q;obtain rfl:u=Value.ref a:=E;exact⟨IG d g,Mm z d g G λR P p c=>⟨v,l,p,c,C⟩⟩
def QL(C:X.A.units+1<cLine)(z:PE X o td)(w:PE X i ty)(E:PE X value tv)(B:cY value (Z (.Subscript o i pos')) pos.line X.b'=pure δ):
  PS X (.Assign [.Subscript o i pos'] value pos) (S5 td ty tv):=by
 intro b s c H D I h;refine wpAny_Assign_Subscript (fg (E b s c H _ I h) λr Q ⟨v,d,l,N,F⟩=>fg (z b Q c d _ l F) λu R ⟨x,f,m,O,G⟩=>fg (w b R c f _ m G) λT W zz=>?_) B;obtain⟨y,S,p,P,a,j,t,g,M⟩:=zz;subst t;obtain rfl:u=Value.ref a:=O;exact Mo C p g P N λY q=>⟨c,j,q,M⟩
end
def IH(h:Heap)(a:cX<h.objs.size):e4 P w H (h.push { cls:=.type "dict", data:=.dict #[] }) h.objs.size (.dK []):=
 ⟨cb _,beq_eq_false_iff_ne.2 (eS (bu a)),[],.nil,qU h⟩
def J2:TE:=λz H Q=>∀p,H p=U->Q (.ref p) (e3 H p (.dK []))
section
variable{X:Cx}{pos:Pos}
def II:PE X (.Dict [] [] pos) J2:=λb s d H Q I h=>
 wpAny_Dict_empty ⟨.ref s.heap.objs.size,_,I.laid (a:=s.heap.objs.size) (o:=.dK []) (t':=s.toks) (λz z q=>aX _ q) (aK _) (IH s.heap I.big),J,h _ (I.fc.fresh (aK _))⟩
end
def HD:List (TE×TE)->St->Hp->(List (V×V)->Hp->Prop)->Prop
 |[],_,H,Q=>Q [] H
 |(f,h)::r,a,H,Q=>f a H λx b=>h a b λy c=>HD r a c λe d=>Q ((x,y)::e) d
abbrev VV:List (V×V)->List (ab×ab)->Prop:=eO λp q=>en p.1 q.1/\en p.2 q.2
def PPs(X:Cx)(pos:Pos)(keys:List (Option Expr))(values:List Expr)(trs:List (TE×TE)):Prop:=
 ∀(a:cE) (s:af) (b:St) (H:Hp) (Q:List (V×V)->Hp->Prop),eb X a b H s->HD trs b H Q->
  ah (model X.prog X.w) X.A (evalPairs (pairTrees keys values X.b' pos)) (λf e=>∃d c,eb X a b c e/\VV d f/\Q d c) X.xe s
def QM:PPs X pos [] [] []:=λa s b H Q I h=>pairTrees_nil_walk ⟨[],H,I,.nil,h⟩
def NL(l:PE X k E)(o:PE X v F)(m:PPs X pos p G trs):
  PPs X pos (Z k::p) (v::G) ((E,F)::trs):=λa s b H Q I h=>
 pairTrees_cons_walk (fg (l a s b H _ I h) λu B ⟨x,c,f,z,r⟩=>fg (o a B b c _ f r) λN C ⟨y,d,i,A,t⟩=>
  fg (m a C b d _ i t) λws M ⟨q,e,j,rel,w⟩=>⟨(x,y)::q,e,j,.cons ⟨z,A⟩ rel,w⟩)
def A8(kvs more:List (eu×V)):List (eu×V):=more.foldl (λacc kv=>ij acc kv.1 kv.2) kvs
def KV.merge:∀{more:List (eu×V)} {rs:List (eu×ab)} {kvs:List (eu×V)} {a:List (eu×ab)},KV more rs->KV kvs a->KV (A8 kvs more) (merged a rs):=by
 intro more rs kvs a r;unfold KV at r
 induction r generalizing kvs a with
 |nil=>intro q;exact q
 |@cons p q d f h t b=>
  intro c;have e:KV (ij kvs p.1 p.2) (stored a q.1 q.2):=by have:=c.put p.1 h.2;rw[<-h.1];exact this
  exact b e
theorem AJ:∀(more kvs:List (eu×V)),(A8 kvs more).length<=kvs.length+more.length
 |[],kvs=>by show kvs.length<=kvs.length+0;omega
 |p::r,kvs=>by have a:=AJ r (ij kvs p.1 p.2);have b:=xx kvs p.1 p.2;show (A8 (ij kvs p.1 p.2) r).length<=_;rw[aF];omega
theorem ER:∀{kvs:List (eu×V)} {ws:List (ab×ab)},VV (kvs.map λkv=>(kV kv.1,kv.2)) ws->∃rs,Carries (rA P w) ws rs/\KV kvs rs
 |[],_,r=>by rw[c9]at r;cases r;exact⟨[],True.intro,.nil⟩
 |p::kvs,_,r=>by
  rw[aR]at r;cases r with
  |@cons a b as bs h t=>obtain⟨rs,c,q⟩:=ER (P:=P) (w:=w) t;obtain⟨e,d⟩:=b;exact⟨(p.1,d)::rs,⟨BJ h.1,J,c⟩,.cons ⟨J,h.2⟩ q⟩
def S6(trs:List (TE×TE)):TE:=λc H Q=>∀p,H p=U->HD trs c (e3 H p (.dK [])) λb a=>a p=Z (.dK [])/\∃kvs:List (eu×V),b=kvs.map (λkv=>(kV kv.1,kv.2))/\kvs.length<=15/\Q (.ref p) (e3 a p (.dK (A8 [] kvs)))
def QN(h:PPs X pos keys values trs)(hall:keys.all (·.isSome)=γ)(x:keys.length=values.length)(r:keys≠[])
  (f:keys.length<=15):PE X (.Dict keys values pos) (S6 trs):=by
 intro d s N H Q I q;have y:=I.fc.fresh (aK s.heap.objs.size);have l:=I.laid (a:=s.heap.objs.size) (o:=.dK []) (h':=s.heap.push { cls:=.type "dict", data:=.dict #[] }) (t':=s.toks) (λk k q=>aX _ q) (aK _) (IH s.heap I.big);refine wpAny_Dict_walk (knd:=rA X.prog X.w) hall x r f (fg (h d _ N _ _ l (q _ y)) λws T zz=>?_);obtain⟨S,O,i,rel,e,kvs,p,R,E⟩:=zz;subst p;obtain⟨rs,c,G⟩:=ER (P:=X.prog) (w:=X.w) rel;obtain⟨z,hd,M,F,m⟩:=NJ i.fc e;cases F;refine⟨rs,c,m,λj b B=>⟨.ref s.heap.objs.size,_,?_,J,E⟩⟩;have C:(A8 [] kvs).length<=aB:=by have t:=AJ kvs [];rw[cu]at t;rw[cw];omega
 have u:∃q,j.get? s.heap.objs.size=Z q:=let ⟨q,_,_,A,_⟩:=b;⟨q,A⟩;exact Eu i (by rw[e];exact True.intro) B u (J1 C hd (G.merge .nil) b)
structure M1(X:Cx)(o:Expr)(m:Str)(apos:Pos)(e:Expr)(cpos:Pos):Prop where
 b1:du o m X.b' (eval o X.b')=eval o X.b'
 few:((bC cpos (aw [e] X.b')).all (λx=>!x.1)&&(backToKw cpos (cW [] X.b')).all (λx=>x.1.isSome)
  && decide (([e]:List Expr).length+([]:List d5).length+(if ([]:List d5).isEmpty then 0 else 1)<30))=γ
 line:(apos.endLine==cpos.line)=γ
 I?:bC cpos (aw [e] X.b')=[(δ,eval e X.b')]
structure M2(X:Cx)(o:Expr)(m:Str)(apos:Pos)(e f:Expr)(cpos:Pos):Prop where
 b1:du o m X.b' (eval o X.b')=eval o X.b'
 few:((bC cpos (aw [e,f] X.b')).all (λx=>!x.1)&&(backToKw cpos (cW [] X.b')).all (λx=>x.1.isSome)
  && decide (([e,f]:List Expr).length+([]:List d5).length+(if ([]:List d5).isEmpty then 0 else 1)<30))=γ
 line:(apos.endLine==cpos.line)=γ
 I?:bC cpos (aw [e,f] X.b')=[(δ,eval e X.b'),(δ,eval f X.b')]
def IsD(H:Hp)(a:Addr):Prop:=(∃kvs,Rd H a (.dK kvs))\/∃kvs,Rd H a (.dT kvs)
def HE(I:eb X j o H s)(d:IsD H a):
  s.TypeIs (.ref a) "dict" /\ (∀b,Value.ref a=.ref b->∃c,s.heap.get? b=Z c/\c.dict=U)/\(a==cX)=δ:=by
 rcases d with ⟨kvs,e⟩|⟨kvs,e⟩
 .obtain⟨_,hd,l,_,f⟩:=Dp I.fc e;refine⟨f.typeIs,λb q=>?_,hd⟩;cases q;obtain⟨c,_,_,h,i,_⟩:=f;exact⟨c,h,i.2.1⟩
 .obtain⟨_,hd,m,_,f⟩:=Gv I.fc e;refine⟨f.typeIs,λb q=>?_,hd⟩;cases q;obtain⟨c,_,_,h,i,_⟩:=f;exact⟨c,h,i.2.1⟩
section
variable{X:Cx}{pins:cE}{σ:St}{H:Hp}{s:af}{a:Addr}{y d:V}{u r:ab}{o:Option V}{A:aM}{E:ab->af->Prop}
def NM(q:A.units+1<cLine)(I:eb X pins σ H s)(g:p' H a y o)(i:en y u)(h:∀m j,eb X pins σ H j->en (o.getD .E) m->Q m j):
  ah (model X.prog X.w) A (call (.builtin "dict.get") [.ref a,u]) Q E s:=by
 rcases g with ⟨kvs,k,e,f,l⟩|⟨kvs,k,b,e,f,p,l⟩
 .subst f;obtain⟨z,hd,x,rel,c⟩:=Dp I.fc e;refine fO dU c.typeIs gw (jM _ _) (nE (rA X.prog X.w) a (BJ i) hd) ⟨_,c.mapOf,h _ _ (I.tj _) ?_⟩;rw[l];exact(rel.val k).getD J
 .subst f;cases (show u=Value.ref b from i);obtain⟨z,hd,t,rel,c⟩:=Gv I.fc e;refine fO dU c.typeIs gw (jM _ _) (meetsH_dict_get (tupleKind (rA X.prog X.w)) a b hd) ⟨ip q,k,t,EO I.fc p,c,h _ _ (I.tj _) ?_⟩;rw[l];exact(rel.val k).getD J
def UB(t:A.units+1<cLine)(I:eb X pins σ H s)(g:p' H a y o)(j:en y u)(i:en d r)(h:∀p m,eb X pins σ H m->en (o.getD d) p->Q p m):
  ah (model X.prog X.w) A (call (.builtin "dict.get") [.ref a,u,r]) Q E s:=by
 rcases g with ⟨kvs,k,e,f,l⟩|⟨kvs,k,b,e,f,q,l⟩
 .subst f;obtain⟨z,hd,B,rel,c⟩:=Dp I.fc e;refine fO dU c.typeIs gw (mN _ _ _) (meets_dict_get_default (rA X.prog X.w) a (BJ j) hd r) ⟨_,c.mapOf,h _ _ (I.tj _) ?_⟩;rw[l];exact(rel.val k).getD i
 .subst f;cases (show u=Value.ref b from j);obtain⟨z,hd,x,rel,c⟩:=Gv I.fc e;refine fO dU c.typeIs gw (mN _ _ _) (meetsH_dict_get_default (tupleKind (rA X.prog X.w)) a b hd r) ⟨ip t,k,x,EO I.fc q,c,h _ _ (I.tj _) ?_⟩;rw[l];exact(rel.val k).getD i
end
def UC(e f:TE):TE:=λd H Q=>e d H λx b=>∃a,x=.ref a/\IsD b a/\f d b λy c=>∃o,p' c a y o/\Q (o.getD .E) c
def UD(f h tx:TE):TE:=λb H Q=>f b H λx c=>∃a,x=.ref a/\IsD c a/\h b c λy e=>tx b e λz d=>∃o,p' d a y o/\Q (o.getD z) d
section
variable{X:Cx}{o e f:Expr}{apos cpos:Pos}{td ty tx:TE}
def NN(B:X.A.units+1<cLine)(z:PE X o td)(w:PE X e ty)(m:M1 X o "get" apos e cpos):PE X (.Call (.Attribute o "get" apos) [e] [] cpos) (UC td ty):=by intro b s j H Q I h;refine iw m.b1 m.few m.line ix dU jU (fg (z b s j H _ I h) λu M zz=>?_);obtain⟨x,l,i,F,a,t,d,C⟩:=zz;subst t;obtain rfl:u=Value.ref a:=F;obtain⟨N,O,_⟩:=HE i d;refine⟨N,O,?_⟩;rw[m.I?];refine fA J (gf (dJ (fg (w b M j l _ i C) λP S ⟨y,p,q,G,R,g,E⟩=>fB ?_)));exact NM B q g G λW T r c=>⟨_,p,r,c,E⟩
def NO(G:X.A.units+1<cLine)(F:PE X o td)(C:PE X e ty)(E:PE X f tx)(m:M2 X o "get" apos e f cpos):PE X (.Call (.Attribute o "get" apos) [e,f] [] cpos) (UD td ty tx):=by
 intro b s i H Q I h;refine iw m.b1 m.few m.line ix dU jU (fg (F b s i H _ I h) λu T zz=>?_);obtain⟨x,l,j,P,a,B,d,M⟩:=zz;subst B;obtain rfl:u=Value.ref a:=P;obtain⟨Y,t2,_⟩:=HE j d;refine⟨Y,t2,?_⟩;rw[m.I?];refine fA J (gf (dJ (fg (C b T i l _ j M) λiv W ⟨y,p,r,R,N⟩=>
  dJ (fg (E b W i p _ r N) λfv s3 ⟨z,q,t,S,ov,g,O⟩=>fB ?_))))
 exact UB G t g R S λw' s4 w c=>⟨_,q,w,c,O⟩
end
end L2
namespace Att
open PySem PySem.W PySem.Calls PyProof.Rows
def Ek:∀(c:List Int) (d:List ab),WellAll P h d (c.map WData.int)->gL d c:=by
 intro c
 induction c with
 |nil=>intro d w;rw[c9]at w;cases w;exact .nil
 |cons n c e=>
  intro d w;rw[aR]at w;cases w with
  |cons a b=>cases a;exact .cons _ _ (e _ b)
def Mp{l:fS}(t:l.most=Z n)
  (hpre:l.row.toRowW.claim.pre args=γ) (hwl:WellAll P h vals args):
  ∃a j b,vals=[Value.ref a]/\args=[WData.list (b.map WData.int)]/\h.get? a=Z { cls:=.type "list", data:=.seq j.toArray }/\gL j b/\b.length<=n:=by
 have hsh:WShape.hasAll [] args [.list .int]=γ:=(pre_splitW hpre).1;have i:l.pre.holds [] { args:=args }=γ:=(pre_splitW hpre).2;obtain⟨d,r,rfl,m,o⟩:=hasAllW_cons hsh;obtain rfl:=hasAllW_nil o;obtain⟨z,rfl,p⟩:=hasW_list m;obtain⟨b,rfl⟩:=items_int p;have c:b.length<=n:=by
  unfold OpenLaw.pre at i;have e:(WTm.not (.lt (.lit (.int (n:Int))) (.len (.arg 0)))).holds [] { args:=[.list (b.map .int)] }=γ:=by have e:=(holds_andW i).1;rw[t]at e;exact e
  have f:=condW_of e (w_not (w_lt w_lit (w_len_list (w_arg J))));rw[ae]at f;refine mW λq=>?_;have w:(n:Int)<((b.length:Nat):Int):=by omega
  first
   |(rw[bN w]at f;exact ar f (by decide))
   |(simp at f;omega)
 cases hwl with
 |cons x y=>
  cases y;cases x with
  |list u hall=>exact⟨_,_,b,J,J,u,Ek b _ hall,c⟩
def Mq(l:fS)(args:List WData):l.row.toRowW.claim.post args (.bool γ) args=γ:=
 postW_of (r:=l.row.toRowW) (X:=(γ==γ))
  (show oB [] (.bool γ) .bool=γ by first|rfl|decide|simp[oB,WShape.arms,WShape.armsAll])
  (show (WTm.eq .res (.lit (.bool γ))).value [] { args:=args,res:=Z (.bool γ),after:=args }=Z (.bool (γ==γ)) from w_eq_bool (w_res J) w_lit) J
def Kx{l:fS}{d:DefRec}
  (B:l.most=Z n) (hdf:d.params.defaults=[])
  (call:∀(w:ay) (c b:af) (j t:Str->Option ab) (h:Addr) (o:Obj) (pm cd doc:ab) (a:Addr) (e:List ab) (m:List Int),
   Ground q loose [] XP w c j t b.heap->YP w b.heap->
   b.heap.get? h=Z o->o.data=.func (docDef d.name d.params d.body d.scope pm cd doc)->b.heap.CodeRec cd d.name->j d.name=Z (.ref h)->
   b.heap.get? a=Z { cls:=.type "list", data:=.seq e.toArray }->gL e m->m.length<=n->b.gens=#[]->
   cn (model l.prog w) callerA (.call (.ref h) ⟨[.ref a],[]⟩) (λr p=>r=.ok (.ret (.bool γ))/\OldK b.heap p.heap/\p.os=b.os/\dB p.gens) b):
  WalkO q loose XP YP l.row.toRowW d [] (λf e=>kC f e):=by
 intro w c b j t G Y h o pm cd doc dV kV C hd hcd hD hmg z args vals as hpre hlay hrd hwl hlo;obtain rfl:dV=.none:=Dflts.none hD hdf;obtain rfl:kV=.none:=Dflts.noKw hD;obtain⟨a,e,m,rfl,rfl,hobj,hints,i⟩:=Mp B hpre hwl;refine enter_call (fN (call w c b j t h o pm cd doc a e m G Y C (fd_plain hd) hcd hmg hobj hints i z) λr p E=>?_);obtain⟨rfl,u,x,y⟩:=E;exact⟨.inl ⟨.bool γ,.bool γ,[],J,λs=>J,.bool γ,Mq l _,λs=>⟨List.Pairwise.nil,λs A=>(nomatch A)⟩⟩,u,x,y⟩
end Att
namespace L2
open PySem PySem.Spec PyProof.Rows
theorem Gw:∀{b:List ab} {a:List Int},gL b a->eg (a.map V.int) b
 |_,_,.nil=>.nil
 |_,_,.cons n t h=>.cons ⟨t,J⟩ (Gw h)
def UE(H:Hp):Prop:=∀b,H b=U\/∃o a,H b=Z (.n' o (.b0 a))
def NP{K:ao}{c:af}{j:List ab}
  (KX:K.In c.heap) (hns:c.heap.Ns aQ A) (f:c.heap.Ns builtinsNs O) (hbb:∀x:Str,x≠"__name__" -> O x=c8 x) (hlim:c.heap.NoLimit) (hg:c.gens=#[])
  (y:c.heap.get? a=Z { cls:=.type "list", data:=.seq j.toArray }) (M:gL j B) (N:B.length<=aB) (hr:tR k callerA)
  (F:∀b1:Heap,K.In b1->b1.Ns aQ A->vv P w K A b1 CX k I W [x] sp) (hbind:∀(s:af) (u:ab),fT s W ⟨[u],[]⟩ [(x,u)])
  (hsp:∀H:Hp,UE H->fx K H a (B.map V.int)->sp [.ref a] H (λv _=>v=.I γ) λ_ _ _=>False)
  (hCX:∀H e i,CX [] H c (λ_ _ _=>False) e i->False):
  cn (model P w) callerA (.call (.ref I) ⟨[.ref a],[]⟩) (λr i=>r=.ok (.ret (.bool γ))/\OldK c.heap i.heap/\i.os=c.os/\dB i.gens) c:=by
 have Q:=Gw M;have lenV:=M.length;have core:∀H:Hp,UE H->fx K H a (B.map V.int)->pa P w H c.heap->(∀b,H b≠U->b=a)->(H a≠U->K.lookup a=U)->
   cn (model P w) callerA (.call (.ref I) ⟨[.ref a],[]⟩) (λr i=>r=.ok (.ret (.bool γ))/\OldK c.heap i.heap/\i.os=c.os/\dB i.gens) c:=by
  intro H hO hS fc hA hK;have base_of:∀{b:Addr} {o:Obj},c.heap.get? b=Z o->H b=U->(Hn c.heap H).get? b=Z o:=λe n=>Ng e n;have noA:∀{b:Addr} {o:Obj} {p:Array DictEntry} {l:Nat},c.heap.get? b=Z o->o.data=.dict p l->H b=U:=λ{b o p l} e d=>by
   cases q:H b with
   |none=>rfl
   |some u=>have C:b=a:=hA b (by rw[q];simp);subst C;rw[y]at e;cases e;have R:Data.seq j.toArray _=Data.dict p l:=d;cases R
  have nsK:∀{b:Addr} {m:Str->Option ab},c.heap.Ns b m->(Hn c.heap H).Ns b m:=λ{b m} ⟨o,p,l,e,d,r⟩=>⟨o,p,l,base_of e (noA e d),d,r⟩;have hKb:K.In (Hn c.heap H):=λb o e=>base_of (KX b o e) (by
   cases q:H b with
   |none=>rfl
   |some u=>
    have C:b=a:=hA b (by rw[q];simp);subst C;rw[hK (by rw[q];simp)]at e;cases e)
  have hM:Mod K A (Hn c.heap H):=⟨hKb,nsK hns,⟨O,nsK f,hbb⟩,let ⟨mc,X,Y⟩:=hlim;⟨mc,nsK X,Y⟩⟩;have S:JY P w K A (Hn c.heap H) callerA [] c H:=⟨J,hM,λb o e=>Qm e,nY (L6 _ _),trivial,λb f=>ar (show b∈([]:List Addr) from f) (by simp),fc,.of_eq hg⟩;refine fN ((F _ hKb (nsK hns)).run callerA [] c H ⟨[.ref a],[]⟩ [.ref a] [.ref a] _ _ hr S (hbind c (.ref a)) (.cons J .nil) (hsp H hO hS)) λr i h=>?_;cases r with
  |error e=>exact(hCX H e i h).elim
  |ok fl=>
   cases fl with
   |next=>exact cM h
   |brk=>exact cM h
   |cont=>exact cM h
   |ret u=>
    obtain⟨v,H',os,k?,un,hok',r',q⟩:=h;have q':v=.I γ:=q;subst q';obtain rfl:u=Value.bool γ:=r';refine⟨J,OldK.of_keep λb o e=>?_,os,k?⟩;cases q:H b with
    |none=>exact un.keep b o e q (by intro z;exact ar (show b∈([]:List Addr) from z) (by simp)) (by simp)
    |some u=>
     rcases hO b with z|⟨ob,xs,z⟩
     .rw[q]at z;cases z
     .have z2:=un.x' b ob _ z;obtain⟨G,_⟩:=fc b _ z;obtain⟨T,_⟩:=hok' b _ z2;rw[e]at G;cases G;exact T
 cases E:K.lookup a with
 |some o=>have e:=KX a o E;rw[y]at e;cases e;refine core (λ_=>U) (λ_=>.inl J) (.inr ⟨_,j.toArray,_,E,J,J,J,by rw[aZ,lenV];exact N,by simpa using Q⟩) (λb u z=>by have t:(U:Option HO)=Z u:=z;cases t) (λb z=>ar J z) λz=>ar J z
 |none=>
  refine core (λb=>if b=a then Z (.n' { cls:=.type "list", data:=.seq j.toArray } (.b0 (B.map V.int)))else U) (λb=>?_) (.inl (.inr ⟨{ cls:=.type "list", data:=.seq j.toArray },aj J⟩)) (λb u z=>?_) (λb z=>?_) λ_=>E
  .by_cases f:b=a
   .exact .inr ⟨_,_,aj f⟩
   .exact .inl (ak f)
  .by_cases f:b=a
   .have t:=(aj f).symm.t z;cases t;subst f;exact⟨y,by rw[ae];exact N,j,_,Q,y⟩
   .have t:=(ak f).symm.t z;cases t
  .by_cases f:b=a
   .exact f
   .exact ar (ak f) z
def QO{l:fS}{n k:Nat}{q:aI}{loose:aE}{XP:(Str->Option ab)->Heap->Prop}{YP:ay->Heap->Prop}{d:DefRec}{K:Params->ao}{CX:ay->ω}{sp:ay->Sp}{x:Str}
  (E:l.most=Z n) (t:n<=aB) (hdf:d.params.defaults=[]) (I:tR k callerA)
  (hY:∀(w:ay) (h:Heap),YP w h->(K w.params).In h)
  (F:∀(w:ay) (i:Str->Option ab) (m:Addr) (h:Heap),(K w.params).In h->h.Ns aQ i->i d.name=Z (.ref m)->
   ∃r:bP,(∀(s:af) (u:ab),fT s r ⟨[u],[]⟩ [(x,u)])/\
    ∀b1:Heap,(K w.params).In b1->b1.Ns aQ i->vv l.prog w (K w.params) i b1 (CX w) k m r [x] (sp w))
  (hsp:∀(w:ay) (H:Hp) (a:Addr) (p:List Int),p.length<=n->UE H->fx (K w.params) H a (p.map V.int)->sp w [.ref a] H (λv _=>v=.I γ) λ_ _ _=>False)
  (hCX:∀(w:ay) (H:Hp) (s:af) (e:ab) (y:af),CX w [] H s (λ_ _ _=>False) e y->False):
  W.WalkO q loose XP YP l.row.toRowW d [] (λf A=>kC f A):=by
 refine Att.Kx E hdf λw z j i N m o pm cd doc a A p G Y M hd hcd hmg hobj hints c C=>?_;have KX:=hY w _ Y;obtain⟨r,B,hF⟩:=F w i m _ KX G.T.g hmg;exact NP KX G.T.g G.T.b G.T.builtins G.T.nolimit C hobj hints (bf c t) I hF B (λH hO hS=>hsp w H a p c hO hS) λH e y=>hCX w H j e y
def dd(s:Stmt)(j:Nat):Stmt:=match s with
 |.ClassDef _ _ _ body _ _ _ _ _ _ _=>body.getD j (.Pass ⟨0,0,0,0⟩)
 |_=>.Pass ⟨0,0,0,0⟩
def uZ(s:Stmt):Arguments:=match s with
 |.FunctionDef _ a _ _ _ _ _ _ _ _=>a
 |_=>{ posonlyargs:=[],args:=[],vararg:=U,kwonlyargs:=[],kw_defaults:=[],kwarg:=U,defaults:=[] }
def rZ(s:Stmt):List Stmt:=match s with
 |.FunctionDef _ _ b _ _ _ _ _ _ _=>b
 |_=>[]
def rF(s:Stmt):cz:=match s with
 |.FunctionDef _ _ _ _ _ _ a _ _ _=>a
 |_=>{ kind:=.function,names:=[],isGenerator:=δ,isCoroutine:=δ }
abbrev Dk:ω:=λz z z z z z=>False
abbrev E0:XK:=λz z z=>False
def Gx:o? Dk X E0:=λz z z z z z z h=>h.elim
structure ζ(K:ao)(x qual:Str)(st:Stmt)(f:Addr)(fd:bP):Prop where
 ex:∃(oc:ab) (od:Option Addr) (kV doc pm:ab) (an:Option Addr) (cdv ct:ab) (osl:Array (Option ab)),
  fd=dD x qual (uZ st) (rZ st) (rF st) .none kV doc pm an cdv ct/\K.lookup f=Z ⟨oc,od,.func fd,osl⟩/\fR K cdv qual=γ
 kp:de K (.ref f)=γ
section
variable{P:aI}{w:ay}{K:ao}{mg:Str->Option ab}{b1:Heap}
theorem ζ.ok{x qual:Str}{st:Stmt}{f:Addr}{c:bP}{N ps:aE}{k:Nat}{b:Sp}(F:ζ K x qual st f c)(S:uB N ps (rF st))(len:∀a H Q E,b a H Q E->a.length=ps.length)
  (hbody:∀(cdv:ab) (A:aM) (d?:List Env) (s:af) (H:Hp) (a:bD) (Q:VK) (E:XK),tR k (A.deeper (envOfC qual (rF st) s.heap.objs.size f cdv))->b a H Q E->
   ∃t,oz (IA Dk P w K mg b1 N qual (rF st) f cdv A d? s H E).nox (rZ st) t/\t { nx:=λz d=>Q .E d,rt:=Q } (start N a) H):vv P w K mg b1 Dk (k+1) f c ps b:=by
 obtain⟨m,o,kV,doc,pm,j,cdv,l,osl,rfl,i,hcd⟩:=F.ex;refine S0 i hcd S len λA d? s H a Q E e hsp=>?_;obtain⟨t,h,q⟩:=hbody cdv A d? s H a Q E e hsp;exact⟨t,h.nox,q⟩
theorem ζ.pw{x qual:Str}{st:Stmt}{f:Addr}{e:bP}{c:aE}(F:ζ K x qual st f e)
  (h:∀(kV doc pm:ab) (a:Option Addr) (cdv b:ab) (d:List ab),d.length=c.length->bindArgs (dD x qual (uZ st) (rZ st) (rF st) .none kV doc pm a cdv b) ⟨d,[]⟩=pure (c.zip d)):ki K e c []:=by
 obtain⟨j,l,kV,doc,pm,a,cdv,b,osl,rfl,i,hcd⟩:=F.ex;exact .all (h kV doc pm a cdv b)
end
def IJ(a:tR k A):A.units+1<cLine:=iq (Nat.add_le_add_left (by decide:1<=64) _) a.units
def yf(h:n<=1000):n<aB:=iq h (by decide)
section
variable{X:Cx}
def pv(i:Nat)(hN:X.N[i]?=Z x:=by rfl)(a:Vis X.b'.scope x:=by first|exact Or.inl J|exact Or.inr (Or.inl J)|exact Or.inr (Or.inr J))(hd:(x==("__debug__" : Str))=δ:=by decide)
  (hcd:(x==("__classdict__" : Str))=δ:=by decide):PE X (.Name x pos) (zI i):=TU hN a hd hcd
end
def IK{A B:Prop}(h:B):if δ=γ then A else B:=by rw[ak br];exact h
def IL{A B:Prop}(h:A):if γ=γ then A else B:=by rw[aj J];exact h
def ro(H a:Hp):Prop:=∀b o,H b=Z o->a b=Z o
def ro.refl(H:Hp):ro H H:=λz z h=>h
def ro.t(a:ro H d)(b:ro d e):ro H e:=λc o h=>b c o (a c o h)
def ro.seq{K:ao}{H b:Hp}{a:Addr}{xs:bD}(e:ro H b)(h:fx K H a xs):fx K b a xs:=by
 rcases h with (h|⟨o,h⟩)|h
 .exact .inl (.inl (e _ _ h))
 .exact .inl (.inr ⟨o,e _ _ h⟩)
 .exact .inr h
end L2
set_option maxHeartbeats 4000000
namespace L3
open PySem PySem.Spec PyProof.Rows L2
abbrev St:=L2.St
theorem ES{d a:Type}{f:d->a->Sem (ForInStep a)}{g:a->d->a}:∀(l:List d) (b:a),(∀x∈l,∀c,f x c=pure (ForInStep.yield (g c x)))->(forIn l b f:Sem a)=pure (l.foldl g b)
 |[],b,_=>by simp
 |x::r,b,h=>by rw[List.forIn_cons,h x bc b];show (forIn r (g b x) f:Sem a)=_;rw[ES r (g b x) λy e c=>h y (aY _ e) c];rfl
def zu(cells:List (Str×Addr))(cs:List (Str×Addr))(x:Str×dg):List (Str×Addr):=if (x.2==NameKind.free)=γ then (x.1,(cells.lookup x.1).getD 0)::cs else cs
def wV(cells:List (Str×Addr))(names:List (Str×dg)):List (Str×Addr):=names.foldl (zu cells) []
def Gb{scope:cz}{b':Env}(h:∀x∈scope.names,x.2=.free->∃c,b'.cells.lookup x.1=Z c):
  closureFor scope b'=pure (wV b'.cells scope.names):=by
 simp only[closureFor];rw[ES (g:=zu b'.cells) scope.names [] λx i c=>by
  obtain⟨n,k⟩:=x;by_cases b:k=.free
  .subst b;obtain⟨a,e⟩:=h _ i J;have d:=e;simp only[zu,cellOf,d,beq_self_eq_true,if_true,mX];rfl
  .have f:(k==NameKind.free)=δ:=by simpa using b
   simp only[zu,f,ir,if_false]]
 rfl
set_option tactic.hygienic true
theorem IM{cells:List (Str×Addr)}:∀(names:List (Str×dg)) (acc:List (Str×Addr)),(∀x∈names,x.2=.free->∃c,cells.lookup x.1=Z c)->(∀x c,acc.lookup x=Z c->cells.lookup x=Z c)->
  ∀x c,(names.foldl (zu cells) acc).lookup x=Z c->cells.lookup x=Z c
 |[],acc,_,j,x,c,e=>j x c e
 |y::r,acc,h,j,x,c,e=>by
  refine IM r (zu cells acc y) (λz p=>h z (aY _ p)) (λz d b=>?_) x c e;obtain⟨n,k⟩:=y;unfold zu at b;split at b
  .rename_i o;obtain⟨a,m⟩:=h (n,k) bc (by simpa using o);have f:=m;rw[dQ]at b;cases l:z==n with
   |true=>rw[l]at b;have i:=b;rw[f]at i;rw[eL l,f];exact i
   |false=>rw[l]at b;exact j z d b
  .exact j z d b
set_option tactic.hygienic false
theorem Gy:∀(names:List (Str×dg)) (acc:List (Str×Addr)) (x:Str),(∃c,acc.lookup x=Z c)->∃c,(names.foldl (zu cells) acc).lookup x=Z c
 |[],_,_,h=>h
 |y::r,acc,x,h=>by
  refine Gy r (zu cells acc y) x ?_;unfold zu;split
  .rw[dQ];cases x==y.1 with
   |true=>exact⟨_,J⟩
   |false=>exact h
  .exact h
theorem ET:∀(names:List (Str×dg)) (acc:List (Str×Addr)) (x:Str),(x,NameKind.free)∈names->∃c,(names.foldl (zu cells) acc).lookup x=Z c
 |[],_,_,h=>by cases h
 |y::r,acc,x,h=>by
  rcases aN.1 h with e|h
  .subst e;refine Gy r _ x ?_;unfold zu;rw[aj (by simp),dQ];simp
  .exact ET r _ x h
set_option tactic.hygienic true
theorem yF{b':Env}(x:Str):∀(names:List (Str×dg)),
  (names.map λ(n,k)=>if (k==NameKind.free&&b'.scope.kind==.function&&b'.kindOf n==Z .cell)then (n,NameKind.cell)else (n,k)).lookup x=
   (names.lookup x).map λk=>if (k==NameKind.free&&b'.scope.kind==.function&&b'.kindOf x==Z .cell)=γ then NameKind.cell else k
 |[]=>rfl
 |(n,k)::r=>by
  have c:=yF (b':=b') x r;rw[aR,dQ (k:=n)];show c5 x ((if (k==NameKind.free&&b'.scope.kind==.function&&b'.kindOf n==Z .cell)=γ then (n,NameKind.cell)else (n,k))::_)=_;cases a:x==n with
  |true=>
   have e:=eL a;subst e;split
   .rename_i b;simp only[dQ,a,eF,b,if_true]
   .rename_i b;simp only[dQ,a,eF];rw[ak b]
  |false=>
   rw[<-c];split
   .simp only[dQ,a]
   .simp only[dQ,a]
set_option tactic.hygienic false
def J3{scope:cz}(hcell:∀y∈scope.names,y.2≠.cell)(h:(relabel scope b').names.lookup x=Z .cell\/(relabel scope b').names.lookup x=Z .free):(x,NameKind.free)∈scope.names:=by
 have e:=yF (b':=b') x scope.names;have a:(scope.names.lookup x).map (λk=>if (k==NameKind.free&&b'.scope.kind==.function&&b'.kindOf x==Z .cell)=γ then NameKind.cell else k)=Z .cell\/
   (scope.names.lookup x).map (λk=>if (k==NameKind.free&&b'.scope.kind==.function&&b'.kindOf x==Z .cell)=γ then NameKind.cell else k)=Z .free:=by
  rw[<-e];exact h
 cases q:scope.names.lookup x with
 |none=>rw[q]at a;rcases a with z|z<;>cases z
 |some k=>
  rw[q]at a;have b:=mem_of_lookup q;have c:=hcell _ b;cases k with
  |free=>exact b
  |cell=>exact ar J c
  |_=>rcases a with z|z<;>cases z
def Gc{scope:cz}(h:scope.names.lookup x=Z .free):(relabel scope b').names.lookup x=Z .cell\/(relabel scope b').names.lookup x=Z .free:=by
 have e:=yF (b':=b') x scope.names;have a:(relabel scope b').names.lookup x=(scope.names.lookup x).map λk=>if (k==NameKind.free&&b'.scope.kind==.function&&b'.kindOf x==Z .cell)=γ then NameKind.cell else k:=e
 rw[a,h,eF];split
 .exact .inl J
 .exact .inr J
def sX(X:Cx)(a:aE)(scope:cz)(cl:List (Str×Addr))(C:Addr)(fp:List Addr)(s:af)(H:Hp):Cx:=
 { X with N:=a,s₀:=s,H₀:=H,b':=compEnvC scope cl C X.b',d?:=X.stack,ex:=fp,fn:=λz=>δ,pn:=[],xe:=λz z=>False }
def PIf(X:Cx)(ifs:List Expr)(t:TT):Prop:=
 ∀(a:cE) (s:af) (b:St) (H:Hp) (Q:Bool->Hp->Prop),eb X a b H s->t b H Q->
  ah (model X.prog X.w) X.A (forIn ifs γ λc r=>if r=γ then do let ok<-isTrue c X.b' (eval c X.b');pure (ForInStep.yield ok)else pure (ForInStep.yield r)) (TP X a b Q) X.xe s
def Zx:TT:=λz H Q=>Q γ H
def QP:PIf X [] Zx:=λz z z H z I h=>wpAny_tests_nil ⟨H,I,h⟩
def QQ(h:PT X c t):PIf X [c] t:=λa s d H Q I b=>wpAny_tests_one (h a s d H Q I b)
section
variable{prog:aI}{w:ay}{A:aM}{R:eU->af->Prop}{s:af}
def HF(u:Nat->af->Prop)
  (turn:∀n s,u n s->ah (model prog w) A (pyNext C) (λr d=>match r with
   |none=>R (.ok .next) d
   |some v=>ah (model prog w) A (gx target C v) (λk f=>ah (model prog w) A (assign target b' v) (λk o=>
     ah (model prog w) A (forIn ifs γ λc r=>if r=γ then do let ok<-isTrue c b' (eval c b');pure (ForInStep.yield ok)else pure (ForInStep.yield r)) (λok i=>
      if ok=γ then ah (model prog w) A (eval elt b') (λx p=>
       ah (model prog w) A (call (.builtin "list.append") [acc,x]) (λk q=>∃m,m<n/\u m q) (notedBy (model prog w) A b' λe b=>R (.error e) b) p) (notedBy (model prog w) A b' λe b=>R (.error e) b) i
      else ∃m,m<n/\u m i) (notedBy (model prog w) A b' λe b=>R (.error e) b) o) (notedBy (model prog w) A b' λe b=>R (.error e) b) f)
      (notedBy (model prog w) A b' λe b=>R (.error e) b) d) (notedBy (model prog w) A b' λe b=>R (.error e) b) s)
  (n:Nat) (h:u n s):
  cn (model prog w) A (.compLoop (.ListComp elt [⟨target,iter,ifs,0⟩] scope pos) 0 C acc b') R s:=by
 refine codeAny_loop J u (λn s hI=>?_) n h;refine wpAny_noted ?_;rw[compTurn_list];refine aq (nT (aq (cg (turn n s hI) (λr d j=>?_) λk k a=>a)));cases r with
 |none=>exact aA j
 |some v=>
  refine aq (cg j (λk f t=>?_) λk k a=>a);refine aq (cg t (λk o y=>aq (cg y (λok i l=>?_) λk k a=>a)) λk k a=>a);cases ok with
  |false=>exact aA ⟨J,l⟩
  |true=>exact aq (aq (cg l (λx p z=>aq (cg z (λk q B=>aA (aA ⟨J,B⟩)) λk k a=>a)) λk k a=>a))
end
def u0(k:Nat)(er:List Nat)(a:St):St:=iP k U++er.map λj=>(a[j]?).join
def GA(h:(u0 k er b)[i]?=Z (Z v)):k<=i:=by
 by_cases a:k<=i
 .exact a
 .unfold u0 at h;rw[eA (by rw[cR];omega),ib]at h;split at h<;>cases h
def Mr{k:Nat}{er:List Nat}{b:St}{N a:aE}{i:Nat}{v:V}{x:Str}(hcap:(a.drop k).map Z=er.map λj=>N[j]?)(f:a[i]?=Z x)(h:(u0 k er b)[i]?=Z (Z v)):
  ∃j:Nat,N[j]?=Z x/\b[j]?=Z (Z v)/\x∈a.drop k:=by
 have d:=GA h;unfold u0 at h;rw[eh (by rw[cR];exact d),cR,bp]at h;have hd:(a.drop k)[i - k]?=Z x:=by rw[dt,show k+(i - k)=i by omega];exact f
 have e:=bG (λl=>l[i - k]?) hcap;simp only[bp,hd,eF]at e;cases q:er[i - k]? with
 |none=>rw[q]at h;cases h
 |some j=>
  rw[q]at h e;simp only[eF,qQ]at h e;refine⟨j,e.symm,?_,bU hd⟩;cases z:b[j]? with
  |none=>rw[z]at h;cases h
  |some o=>rw[z]at h;have c:o=Z v:=h;rw[c]
def Dr(t:TI)(g:TG)(tt:TT)(r:TE)(k:Nat)(er:List Nat):TE:=λf H Q=>t f H λe h=>∀p,h p=U->
 ∃W:Nat->Nat->bD->Hp->Prop,(∃m,W 0 m [] (e3 h p (.b0 [])))/\∀i m acc c,W i m acc c->
  (e.stop i c/\Q (.ref p) c)\/
   (e.go i c/\∀x j,e.yld i c x j->g x (u0 k er f) j λa q=>a.drop k=(u0 k er f).drop k/\tt a q λb l=>
    if b=γ then r a l λy o=>∃acc',o p=Z (.b0 acc')/\acc'.length<aB/\∃d,d<m/\W (i+1) d (acc'++[y]) (e3 o p (.b0 (acc'++[y])))
    else ∃d,d<m/\W (i+1) d acc l)
def GB{X:Cx}{er:List Nat}
  (hc:X.nr=γ) (hi:PI X tg iter wi)
  (body:∀(cl:List (Str×Addr)) (C:Addr) (fp:List Addr) (s:af) (H:Hp),PG (sX X E scope cl C fp s H) tg g/\PIf (sX X E scope cl C fp s H) ifs tt/\PE (sX X E scope cl C fp s H) elt te)
  (hkind:scope.kind=.function) (hcell:(scope.names.all λy=>y.2 != .cell)=γ)
  (hloc:(scope.names.all λy=>y.2 != .local||scope.names.lookup y.1==Z .local)=γ)
  (hfree:(scope.names.all λy=>y.2 != .free||(X.b'.kindOf y.1==Z .cell||X.b'.kindOf y.1==Z .free))=γ)
  (hlen:E.length=k+er.length) (hcap:(E.drop k).map Z=er.map λj=>X.N[j]?)
  (hcf:((E.drop k).all λx=>scope.names.lookup x==Z .free)=γ)
  (hs:∀x,gm iter X.b' x=pure x)
  (I:eb X pins σ H s) (h:Dr wi g tt te k er σ H Q)
  (fin:∀a C m u s4 H3,s4.heap.Ns C m->eb X pins σ H3 s4->Hr X pins H3 C->Q (.ref a) H3->compPost (model X.prog X.w) X.A X.xe use P (.ref a) C (.ok u) s4):
  ah (model X.prog X.w) X.A (comprehension (.ListComp elt [⟨tg,iter,ifs,0⟩] scope pos) scope X.b' (firstIterPos [⟨tg,iter,ifs,0⟩] pos) (newList []) δ (eval iter X.b') use) P X.xe s:=by
 have hcell':∀y∈scope.names,y.2≠.cell:=λy O e=>by have z:=aC.1 hcell y O;rw[e]at z;exact ar z (by decide)
 have hloc':∀y∈scope.names,y.2=.local->scope.names.lookup y.1=Z .local:=λy O e=>by have z:=aC.1 hloc y O;rw[e]at z;simpa using z
 have hfree':∀y∈scope.names,y.2=.free->X.b'.kindOf y.1=Z .cell\/X.b'.kindOf y.1=Z .free:=λy O e=>by have z:=aC.1 hfree y O;rw[e]at z;simpa using z
 have hcl:=λy O e=>I.ok.has y.1 (hfree' y O e);refine wpAny_comprehension_free J hs (Gb hcl) hkind hloc' (fg (hi pins s σ H _ I h) λxv s₁ F=>fg F λit l h₂=>?_);obtain⟨ita,fp,tn,A',H2,e,I2,T,st2,M,R2⟩:=h₂;subst e;obtain⟨W,⟨m0,w0⟩,turn⟩:=R2 l.heap.objs.size (I2.fc.fresh (aK _));refine gp (wpAny_newFunctionEnv hcell' (by intro y O;simp at O) (λF hns₁ hsb₁=>?_) hkind);dsimp only at hns₁ hsb₁ ⊢;generalize hp:l.heap.push { cls:=.type "list", dict:=U,data:=.seq ([]:List ab).toArray }=hpL at hns₁ hsb₁ ⊢;have hsz:hpL.objs.size=l.heap.objs.size+1:=by rw[<-hp,eI]
 have B:eb X pins σ (e3 H2 l.heap.objs.size (.b0 [])) { l with heap:=hpL }:=by rw[<-hp];exact I2.laid (λb u e=>aX _ e) (aK _) ⟨cb _,[],0,.nil,bH _ J⟩
 have old:=λb o e=>hsb₁.extBut b o (bu (aV e)) (aX _ e);have older:∀b o,l.heap.get? b=Z o->hpL.get? b=Z o:=λb o e=>by rw[<-hp];exact aX _ e
 have hfpS:=λb t=>let ⟨o,e,_⟩:=T.obj _ _ st2 b t;aV e;have sub:=IM scope.names [] hcl (λx c e=>by cases e);have R:(sX X E scope (wV X.b'.cells scope.names) hpL.objs.size fp { l with heap:=hpL } (e3 H2 l.heap.objs.size (.b0 []))).Ok:={
  B?:=B.ok.B?
  kind:=hkind
  xr:=B.ok.xr
  blt:=B.ok.blt
  above:=aK _
  inj:=λx y c h1 h2=>B.ok.inj x y c (sub x c h1) (sub y c h2)
  has:=λx G=>ET scope.names [] x (J3 hcell' G)
  cab:=λx c hf _=>ar (show δ=γ from hf) br
  hd:=B.ok.hd
  frames:=B.ok.frames
  stk:=.inl J
  exf:=λb t=>⟨(by
   rw[hsz];exact bu (eC (hfpS b t))),λx c e=>(M b t).2.2.2.2.1 x c (sub x c e)⟩
  bs:=B.bs
  bsz:=bf B.ok.bsz B.sz
  V':=λb o e t=>by
   rcases(M b t).2.2.2.1 with z|z
   .exact B.ok.V' b o e z
   .exact ar (cf (aV e) (bf B.ok.bsz z)) (fJ _)
  Z9:=λb t z=>(aN.1 (B.P? b z)).elim (M b t).2.1 (M b t).2.2.1
  rm:=B.stack
  frf:=B.T' }
 have IX:eb (sX X E scope (wV X.b'.cells scope.names) hpL.objs.size fp { l with heap:=hpL } (e3 H2 l.heap.objs.size (.b0 []))) [] (u0 k er σ) (e3 H2 l.heap.objs.size (.b0 []))
   { l with heap:=F,toks:=l.toks+([]:List (Str×ab)).length }:={
  ok:=R
  os:=rfl
  k?:=B.k?
  b1:=Un.i0 old
  I':=⟨_,hns₁,λi x v e1 e2 _=>by
   obtain⟨j,hj,hσ,hm⟩:=Mr hcap e1 e2;have G:=by simpa using aC.1 hcf x hm
   have hk:=hfree' (x,.free) (mem_of_lookup G) J;obtain⟨m,hn,hl⟩:=B.I';obtain⟨u,r,lk⟩:=hl j x v hj hσ (hk.elim (λz=>.inr (.inl z)) λz=>.inr (.inr z));refine⟨u,r,.inr ⟨Gc G,?_⟩⟩;rcases lk with ⟨z,_⟩|⟨_,c,e,o,ho,hd⟩
   .rcases hk with y|y
    .rw[y]at z;cases z
    .rw[y]at z;cases z
   .obtain⟨c',e'⟩:=ET scope.names [] x (mem_of_lookup G);have ec:=sub x c' e';rw[e]at ec;have ec':=cF ec;subst ec';exact⟨c,e',o,old _ _ ho,hd⟩⟩
  cell:=λx c e=>by obtain⟨v,o,ho,hd⟩:=B.cell x c (sub x c e);exact⟨v,o,old _ _ ho,hd⟩
  free:=B.fc.fresh (aK _)
  mu:=λx c e=>B.mu x c (sub x c e)
  N':=λp hp=>ar (show p∈([]:cE) from hp) (by simp)
  fc:=B.fc.i0 old
  len:=by
   show (u0 k er σ).length=E.length;rw[hlen];unfold u0;rw[au,cR,ae] }
 have stat:∀{H':Hp},(∀b∈fp,H' b=U)->∀b∈fp,Hr (sX X E scope (wV X.b'.cells scope.names) hpL.objs.size fp { l with heap:=hpL } (e3 H2 l.heap.objs.size (.b0 []))) [] H' b:=λhn b t=>⟨hn b t,(R.exf b t).1,R.Z9 b t,.inl t,(R.exf b t).2,λp hp=>ar (show p∈([]:cE) from hp) (by simp)⟩
 have st4:=T.keep _ _ _ st2 λb _ o e=>old b o (older b o e);have loop:cn (model X.prog X.w) X.A (.compLoop (.ListComp elt [⟨tg,iter,ifs,0⟩] scope pos) 0 (.ref ita) (.ref l.heap.objs.size) (compEnvC scope (wV X.b'.cells scope.names) hpL.objs.size X.b'))
   (compPost (model X.prog X.w) X.A X.xe use P (.ref l.heap.objs.size) hpL.objs.size) { l with heap:=F,toks:=l.toks+([]:List (Str×ab)).length }:=by
  refine HF (λn s'=>∃i acc H',eb (sX X E scope (wV X.b'.cells scope.names) hpL.objs.size fp { l with heap:=hpL } (e3 H2 l.heap.objs.size (.b0 []))) [] (u0 k er σ) H' s'/\tn i s'.heap/\(∀b∈fp,H' b=U)/\W i n acc H')
   ?_ m0 ⟨0,[],_,IX,st4,λb t=>?_,w0⟩
  .rintro n s3 ⟨i,acc,H3,I4,st3,fr3,w3⟩;rcases turn i n acc H3 w3 with ⟨stop,qn⟩|⟨go,step⟩
   .refine fg (T.done (sX X E scope (wV X.b'.cells scope.names) hpL.objs.size fp { l with heap:=hpL } (e3 H2 l.heap.objs.size (.b0 []))) J J J hc i [] s3 _ H3 _ I4 (stat fr3) st3 stop) λr s4 zz=>?_;obtain⟨hr,Y⟩:=zz;subst hr;obtain⟨m,hn,_⟩:=id Y.I';have At:=Y.b1;refine fin _ _ m _ _ _ hn (B.call' Y.os ⟨λb o e n t G=>At.keep b o e n t G,λb o e n t G=>At.slot b o e n t G,At.free,λb o e G=>At.there b o e G,At.D4,At.x',At.Dx⟩ Y.fc Y.k?
     λb t=>⟨(M b t).2.2.2.1,(M b t).2.1,(M b t).2.2.2.2.1,(M b t).2.2.2.2.2⟩) (B.Y? (aK _) Y.free) qn
   .refine fg (T.item (sX X E scope (wV X.b'.cells scope.names) hpL.objs.size fp { l with heap:=hpL } (e3 H2 l.heap.objs.size (.b0 []))) J J J hc i [] s3 _ H3 _ I4 (stat fr3) st3 go) λr s4 zz=>?_;obtain⟨u,hr,h4⟩:=zz;subst hr;refine fg h4 λ_ s5 zz=>?_;obtain⟨x,H5,Y,r5,y5,st5,fr5⟩:=zz;have I5':=Y.R' (stat fr5) (T.obj _ _ st5);have again:∀{H8:Hp} {s8:af} {S:St} {acc8:bD} {m':Nat},eb (sX X E scope (wV X.b'.cells scope.names) hpL.objs.size fp { l with heap:=hpL } (e3 H2 l.heap.objs.size (.b0 []))) ([]++EH fp s5.heap) S H8 s8->S.drop k=(u0 k er σ).drop k->m'<n->W (i+1) m' acc8 H8->
      ∃m,m<n/\∃i acc H',eb (sX X E scope (wV X.b'.cells scope.names) hpL.objs.size fp { l with heap:=hpL } (e3 H2 l.heap.objs.size (.b0 []))) [] (u0 k er σ) H' s8/\tn i s8.heap/\(∀b∈fp,H' b=U)/\W i m acc H':=λ{H8 s8 S acc8 m'} I8 hd8 hm8 w8=>by
     refine⟨m',hm8,i+1,acc8,H8,I8.m?.ee (IX.len.t I8.len.symm) (λj v e=>?_),T.keep _ _ _ st5 λb t o e=>(I8.N' (b,o) (bA _ (bA _ (wR t e)))).1,λb t=>?_,w8⟩
     .have hj:=GA e;have q:(S.drop k)[j - k]?=((u0 k er σ).drop k)[j - k]?:=by rw[hd8]
      rw[dt,dt,show k+(j - k)=j by omega]at q;rw[q];exact e
     .obtain⟨o,e,d⟩:=T.obj _ _ st5 b t;exact(I8.N' (b,o) (bA _ (bA _ (wR t e)))).2.1
    refine cg ((body _ _ _ _ _).1 _ s5 _ H5 x u _ I5' r5 (step x H5 y5)) (λ_ s6 h6=>?_) λ_ _ f=>f.elim;obtain⟨σ6,H6,I6,hd6,q6⟩:=h6;refine cg ((body _ _ _ _ _).2.1 _ s6 σ6 H6 _ I6 q6) (λb s7 h7=>?_) λ_ _ f=>f.elim;obtain⟨H7,I7,q7⟩:=h7;cases b with
    |false=>rw[ak br]at q7;rw[ak br];obtain⟨m',hm',w7⟩:=q7;exact again I7 hd6 hm' w7
    |true=>rw[aj J]at q7;rw[aj J];refine cg ((body _ _ _ _ _).2.2 _ s7 σ6 H7 _ I7 q7) (λyv s8 h8=>?_) λ_ _ f=>f.elim;obtain⟨y,H8,I8,r8,acc',hp8,hl8,m',hm',w8⟩:=h8;refine cg (Cw (X:=sX X E scope (wV X.b'.cells scope.names) hpL.objs.size fp { l with heap:=hpL } (e3 H2 l.heap.objs.size (.b0 []))) _ s8 σ6 H8 (.ref l.heap.objs.size) [y] (.ref l.heap.objs.size) [yv] (λ_ Hx=>Hx=e3 H8 l.heap.objs.size (.b0 (acc'++[y]))) I8 J (.cons r8 .nil) ⟨_,acc',y,J,J,hp8,hl8,J⟩) (λ_ s9 h9=>?_) λ_ _ f=>f.elim;obtain⟨_,H9,I9,_,e9⟩:=h9;subst e9;exact again I9 hd6 hm' w8
  .have z:=bu (hfpS b t);rw[rg z];exact(M b t).1
 exact codeAny_compStart_list loop (T.self _ 0 _ _ _ st4 loop)
def QR{X:Cx}{er:List Nat}
  (w:X.nr=γ) (z:PI X q iter G)
  (body:∀(f:List (Str×Addr)) (C:Addr) (i:List Addr) (s:af) (H:Hp),PG (sX X c scope f C i s H) q g/\PIf (sX X c scope f C i s H) ifs tt/\PE (sX X c scope f C i s H) elt F)
  (hkind:scope.kind=.function:=by rfl) (hcell:(scope.names.all λy=>y.2 != .cell)=γ:=by rfl)
  (hloc:(scope.names.all λy=>y.2 != .local||scope.names.lookup y.1==Z .local)=γ:=by rfl)
  (hfree:(scope.names.all λy=>y.2 != .free||(X.b'.kindOf y.1==Z .cell||X.b'.kindOf y.1==Z .free))=γ:=by rfl)
  (d:c.length=k+er.length:=by rfl) (hcap:(c.drop k).map Z=er.map λj=>X.N[j]?:=by rfl)
  (hcf:((c.drop k).all λx=>scope.names.lookup x==Z .free)=γ:=by rfl)
  (B:∀x,gm iter X.b' x=pure x:=by intro _;rfl):
  PE X (.ListComp elt [⟨q,iter,ifs,0⟩] scope pos) (Dr G g tt F k er):=by
 intro p s P H Q I h;exact GB w z body hkind hcell hloc hfree d hcap hcf B I h λa C m u O r A J' fpC E=>⟨m,A,λM l=>⟨.ref a,r,J'.i' (λb o t e=>(l.2 b t).t e) fpC.1 fpC.2.1 fpC.2.2.2.1 fpC.2.2.2.2.1 fpC.2.2.2.2.2,J,E⟩⟩
def Its(x:Str):It:=⟨λi z=>i<x.cps.size,λi H v a=>a=H/\∃c,x.cps[i]?=Z c/\v=.str ⟨#[c]⟩,λi z=>i=x.cps.size⟩
def UF(hQ:Q () s):ah M A (gx a (.ref b) (.str c t)) Q E s:=by cases a<;>exact aA hQ
def IP{K:ao}(it:Addr)(ty:String)(x:Str)(t:Tok)
  (hW:∀A:aM,A.handled=U->Walks P w A it [it] [it] x.cps.size (SignAt x) (λi h=>h.IsStrIter it ty x t i))
  (hS:∀(A:aM) (i:Nat) (s:af) (Q:ab->af->Prop) (E:ab->af->Prop),s.heap.IsStrIter it ty x t i->Q (.ref it) s->ah (model P w) A (pyIter (.ref it)) Q E s):
  ZY P w K tg (Its x) [it] it (λi h=>h.IsStrIter it ty x t i) where
 mem:=by simp
 obj:=λi h st b a=>by
  have e:=by simpa using a
  subst e;obtain⟨o,e,c,d⟩:=st;exact⟨o,e,λv z=>by rw[d]at z;cases z⟩
 keep:=λi h h' st k=>by obtain⟨o,e,r⟩:=st;exact⟨o,k it (by simp) o e,r⟩
 item:=by intro X hP hw hK u i pins s σ H E I f st hg;subst hP hw hK;obtain⟨j,l,M,m,p,q⟩:=f it (by simp);refine(hW _ (I.ok.hd u)).item i s _ _ hg st λv h' tk N F C=>?_;obtain⟨c,O,y,rfl⟩:=N;have G:eb X pins σ H { s with heap:=h',toks:=tk }:=I.i' (λb o a e=>C b o (by simpa using a) e) j l m p q;exact⟨_,J,UF ⟨.str ⟨#[c]⟩,H,G,⟨O,J⟩,⟨J,c,y,J⟩,F,λb a=>(f b a).1⟩⟩
 done:=by intro X hP hw hK u i pins s σ H E I f st hg;subst hP hw hK;obtain⟨j,l,M,m,p,q⟩:=f it (by simp);have B:=hg;subst B;exact(hW _ (I.ok.hd u)).done s _ _ st λh' tk C=>⟨J,I.i' (λb o a e=>C b o (by simpa using a) e) j l m p q⟩
 self:=hS
section
variable{X:Cx}{tg:Expr}
def Ya(b:TE):TI:=λc H R=>b c H λv a=>∃x,v=.str x/\R (Its x) a
def UG(r:PE X l y):PI X tg l (Ya y):=by
 intro a s B H R I h;refine fg (r a s B H _ I h) λv c zz=>?_;obtain⟨x,f,d,w,u⟩:=zz;obtain⟨z,e,q⟩:=u;subst e;obtain⟨t,rfl⟩:=w;have j:∀b∈[c.heap.objs.size],Hr X a f b:=λb p=>by
  have e:=by simpa using p
  subst e;exact d.Y? (aK _) (d.fc.fresh (aK _))
 cases m:z.cps.all (· < 128)
 .refine wpAny_pyIter_wide m ⟨c.heap.objs.size,[c.heap.objs.size],_,_,f,J,d.i0 λb o e=>aX _ e,IP _ "str_iterator" z t (λA hA=>Walks.strWide hA _ z t) (λA i s Q E st hQ=>wpAny_pyIter_striter_wide st hQ),⟨_,bH _ J,J,J⟩,j,q⟩
 .refine wpAny_pyIter_ascii m ⟨c.heap.objs.size,[c.heap.objs.size],_,_,f,J,d.i0 λb o e=>aX _ e,IP _ "str_ascii_iterator" z t (λA hA=>Walks.strAscii hA _ z t) (λA i s Q E st hQ=>wpAny_pyIter_striter_ascii st hQ),⟨_,bH _ J,J,J⟩,j,q⟩
end
section
variable{X:Cx}
def Mu:g? X (bh .LtE) (λx y H Q=>∃i j,x=.str i/\y=.str j/\Q (.I (!decide (j.cps.toList<i.cps.toList))) H):=by intro a s e H x y v u Q I b c h;obtain⟨i,j,rfl,rfl,q⟩:=h;obtain⟨t,rfl⟩:=b;obtain⟨d,rfl⟩:=c;exact PySem.P.le_str (rV I q J)
def NQ(y:X.nr=γ):tG X (.builtin "all") (λx H Q=>∃(p:Addr) (bs:List Bool),x=[.ref p]/\fx X.K H p (bs.map V.I)/\Q (.I (bs.all id)) H):=by
 intro t s T H x S Q I r h;obtain⟨p,bs,rfl,E,q⟩:=h;obtain⟨u,rfl,l⟩:=mi r;cases l;obtain⟨j,w,pl,O⟩:=I.list E;have hlt:p<s.heap.objs.size:=by obtain⟨o,C,_⟩:=pl.isList;exact aV C
 have B:=by have:=w.length;rw[ae]at this;exact this
 refine call_all_walk (gk pl.isList ⟨s.heap.objs.size,_,_,_,_,_,λi=>(bs[i]?).getD γ,J,i6 (show X.A.in1.handled=U from I.ok.hd y) _ p (bu hlt) j.toArray,⟨⟨_,bH _ J,J,J⟩,?_⟩,?_,λN R z=>?_⟩)
 .exact pl.isList.at λo e=>aX _ e
 .intro i v P M G F hQ';have c:=by simpa using F
  have a:=(bZ.1 c).1;have d:(bs.map V.I)[i]?=Z (.I (bs[i]'(by omega))):=by simp[show i<bs.length by omega]
  obtain⟨u,m,l⟩:=w.get d;rw[c]at m;cases m;cases l;refine c4 ?_;have e:(bs[i]?).getD γ=bs[i]'(by omega):=by simp[show i<bs.length by omega]
  rw[<-e];exact hQ'
 .refine⟨.I (bs.all id),H,?_,?_,q⟩
  .exact I.i0 λb o e=>z b o (by simp;exact bu (aV e)) (aX _ e)
  .show Value.bool _=Value.bool _;congr 1;rw[aZ,<- B];rw[dR];simp only[aC,bz,id];constructor
   .intro f b d;obtain⟨i,a,rfl⟩:=lY.1 d;have:=f i a;simpa [a]using this
   .intro f i a;simp only[bb a,mX];exact f _ (gv a)
end
inductive Dq where
 |E|I (b:Bool)|int (i:Int)|str (x:Str)|ea (ds:List Dq)|b0 (ds:List Dq)
mutual
def ef(K:ao)(H:Hp):Dq->V->Prop
 |.E,v=>v=.E
 |.I b,v=>v=.I b
 |.int i,v=>v=.int i
 |.str x,v=>v=.str x
 |.ea d,v=>∃a c,v=.ref a/\fy K H a c/\b? K H d c
 |.b0 d,v=>∃a c,v=.ref a/\fx K H a c/\b? K H d c
def b?(K:ao)(H:Hp):List Dq->bD->Prop
 |[],a=>a=[]
 |d::b,a=>∃v r,a=v::r/\ef K H d v/\b? K H b r
end
mutual
def F?:Dq->Dq->Bool
 |.E,.E=>γ
 |.I a,.I b=>a==b
 |.I a,.int b=>(if a then 1 else 0)==b
 |.int a,.I b=>a==(if b then 1 else 0)
 |.int a,.int b=>a==b
 |.str a,.str b=>a==b
 |.ea a,.ea b=>A9 a b
 |.b0 a,.b0 b=>A9 a b
 |_,_=>δ
def A9:List Dq->List Dq->Bool
 |[],[]=>γ
 |a::r,b::q=>F? a b&&A9 r q
 |_,_=>δ
end
mutual
def m3:Dq->Nat
 |.ea a=>ud a+1
 |.b0 a=>ud a+1
 |_=>0
def ud:List Dq->Nat
 |[]=>0
 |d::r=>max (m3 d) (ud r)
end
mutual
theorem BK:∀d:Dq,F? d d=γ
 |.E=>rfl
 |.I b=>beq_self_eq_true b
 |.int i=>beq_self_eq_true i
 |.str x=>beq_self_eq_true x
 |.ea a=>Cy a
 |.b0 a=>Cy a
theorem Cy:∀a:List Dq,A9 a a=γ
 |[]=>rfl
 |d::r=>by show (F? d d&&A9 r r)=γ;rw[BK d,Cy r];rfl
end
theorem q9{K:ao}:∀{b:List Dq} {a:bD},b? K H b a->b.length=a.length
 |[],a,h=>by subst h;rfl
 |d::b,a,h=>by obtain⟨v,r,rfl,_,c⟩:=h;rw[aF,aF,q9 c]
def eAt(d c:List Dq)(j:Nat):Bool:=match d[j]?,c[j]? with
 |some a,Z b=>F? a b
 |_,_=>γ
theorem EU:∀(d c:List Dq),A9 d c=γ ↔ d.length=c.length/\∀j,j<d.length->eAt d c j=γ
 |[],[]=>by show γ=γ ↔ _;simp
 |[],b::q=>by show δ=γ ↔ _;simp
 |a::r,[]=>by show δ=γ ↔ _;simp
 |a::r,b::q=>by
  have l:=EU r q;show (F? a b&&A9 r q)=γ ↔ _;rw[aT,l,aF,aF];constructor
  .rintro⟨f,e,h⟩;refine⟨by omega,λj i=>?_⟩;cases j with
   |zero=>exact f
   |succ j=>exact h j (by omega)
  .rintro⟨f,e⟩;exact⟨e 0 (by omega),by omega,λj i=>e (j+1) (by omega)⟩
def yG{b a:List Dq}(l:b.length=n)(i:a.length=m):((av (min n m)).all (eAt b a)&&n==m)=A9 b a:=by
 rw[dR,EU,aT,aC];subst l i;constructor
 .rintro⟨d,f⟩;have e:=by simpa using f
  exact⟨e,λj c=>d j (bz.2 (by omega))⟩
 .rintro⟨e,h⟩;exact⟨λj c=>h j (by have:=bz.1 c;omega),by simpa using e⟩
def zK{b a:List Dq}(d:b.length=n)(c:a.length=n):(av n).all (eAt b a)=A9 b a:=by rw[<-yG d c];simp
def EV{b a:List Dq}(h:b.length≠a.length):A9 b a=δ:=by
 cases e:A9 b a with
 |false=>rfl
 |true=>exact ar ((EU b a).1 e).1 h
section
variable{X:Cx}{pins:cE}{σ:St}{H:Hp}{s:af}
def S7(I:eb X pins σ H s)(h:fx X.K H a f)(c:fy X.K H a i):False:=by obtain⟨d,_,p,_⟩:=I.list h;obtain⟨b,_,e,_⟩:=I.tuple c;exact SeqAt.ne_of_list_tuple p.isList (show s.heap.IsTuple a b.toArray from e) J
mutual
theorem EW(I:eb X pins σ H s):∀(d i:Dq) (v:V),ef X.K H d v->ef X.K H i v->F? d i=γ
 |.E,i,v,h,c=>by subst h;cases i<;>first|rfl|(exact nomatch c)|(obtain⟨_,_,e,_⟩:=c;exact nomatch e)
 |.I b,i,v,h,c=>by subst h;cases i<;>first|(obtain⟨_,_,e,_⟩:=c;cases e)|(cases c<;>exact BK _)
 |.int b,i,v,h,c=>by subst h;cases i<;>first|(obtain⟨_,_,e,_⟩:=c;cases e)|(cases c<;>exact BK _)
 |.str b,i,v,h,c=>by subst h;cases i<;>first|(obtain⟨_,_,e,_⟩:=c;cases e)|(cases c<;>exact BK _)
 |.ea q,i,v,h,c=>by
  obtain⟨a,u,rfl,o,t⟩:=h;cases i with
  |ea j=>obtain⟨p,m,e,f,l⟩:=c;cases e;have r:=I.z0 o f;subst r;exact CA I q j u t l
  |b0 j=>obtain⟨p,m,e,f,l⟩:=c;cases e;exact(S7 I f o).elim
  |_=>exact nomatch (show _=_ from c)
 |.b0 q,i,v,h,c=>by
  obtain⟨a,u,rfl,o,t⟩:=h;cases i with
  |b0 j=>obtain⟨p,m,e,f,l⟩:=c;cases e;have r:=I.H4 o f;subst r;exact CA I q j u t l
  |ea j=>obtain⟨p,m,e,f,l⟩:=c;cases e;exact(S7 I o f).elim
  |_=>exact nomatch (show _=_ from c)
theorem CA(I:eb X pins σ H s):∀(b a:List Dq) (f:bD),b? X.K H b f->b? X.K H a f->A9 b a=γ
 |[],a,f,h,c=>by
  subst h;cases a with
  |nil=>rfl
  |cons d r=>obtain⟨_,_,e,_⟩:=c;exact nomatch e
 |d::b,a,f,h,c=>by
  obtain⟨v,r,rfl,o,p⟩:=h;cases a with
  |nil=>exact nomatch (show _=_ from c)
  |cons l m=>obtain⟨t,q,e,i,j⟩:=c;cases e;show (F? d l&&A9 b m)=γ;rw[EW I d l v o i,CA I b m r p j];rfl
end
mutual
theorem UH(I:eb X pins σ H s):∀(d C:Dq) (x y:V) (u v:ab) (A:aM),ef X.K H d x->ef X.K H C y->en x u->en y v->A.units+m3 d+m3 C<cLine->i3 A s u v (F? d C)
 |.ea F,C,x,y,u,v,A,G,l,w,o,R=>by
  obtain⟨a,S,rfl,Q,N⟩:=G;cases w;obtain⟨M,P,p,_⟩:=I.tuple Q;cases C with
  |E=>unfold ef at l;subst l;cases o;exact qg p (by omega)
  |I b=>unfold ef at l;subst l;cases o;exact qh b p (by omega)
  |int b=>unfold ef at l;subst l;obtain⟨t,rfl⟩:=o;exact qr b t p (by omega)
  |str b=>unfold ef at l;subst l;obtain⟨t,rfl⟩:=o;exact qt b t p (by omega)
  |b0 i=>obtain⟨b,E,rfl,h,m⟩:=l;cases o;obtain⟨f,B,r,_⟩:=I.list h;exact qj p r.isList (by omega)
  |ea i=>
   have O:=l;obtain⟨b,E,rfl,h,m⟩:=l;cases o;obtain⟨f,B,r,_⟩:=I.tuple h;by_cases hab:a=b
   .subst hab;have e:F? (.ea F) (.ea i)=γ:=EW I _ _ (.ref a) (by unfold ef;exact⟨a,S,J,Q,N⟩) O;rw[e];exact jT _
   .have hd:m3 (.ea F)=ud F+1:=by rw[m3]
    have hd':m3 (.ea i)=ud i+1:=by rw[m3]
    have q:=qR (A:=A) p r (by omega) λj W Y=>by have z:=yH I F i S E M f A.in1 N m P B (by show A.units+1+ud F+ud i<cLine;omega) j (by simpa using W) (by simpa using Y);simpa using z
    rw[yG (by rw[q9 N,P.length];simp) (by rw[q9 m,B.length];simp)]at q;exact jK hab q
 |.b0 F,C,x,y,u,v,A,G,l,w,o,R=>by
  obtain⟨a,S,rfl,Q,N⟩:=G;cases w;obtain⟨M,P,p,_⟩:=I.list Q;have p:=p.isList;cases C with
  |E=>unfold ef at l;subst l;cases o;exact qu p (by omega)
  |I b=>unfold ef at l;subst l;cases o;exact qv b p (by omega)
  |int b=>unfold ef at l;subst l;obtain⟨t,rfl⟩:=o;exact qF b t p (by omega)
  |str b=>unfold ef at l;subst l;obtain⟨t,rfl⟩:=o;exact qG b t p (by omega)
  |ea i=>obtain⟨b,E,rfl,h,m⟩:=l;cases o;obtain⟨f,B,r,_⟩:=I.tuple h;exact qk p (show s.heap.IsTuple b f.toArray from r) (by omega)
  |b0 i=>
   have O:=l;obtain⟨b,E,rfl,h,m⟩:=l;cases o;obtain⟨f,B,r,_⟩:=I.list h;have r:=r.isList;by_cases hab:a=b
   .subst hab;have e:F? (.b0 F) (.b0 i)=γ:=EW I _ _ (.ref a) (by unfold ef;exact⟨a,S,J,Q,N⟩) O;rw[e];exact jT _
   .have hd:m3 (.b0 F)=ud F+1:=by rw[m3]
    have hd':m3 (.b0 i)=ud i+1:=by rw[m3]
    by_cases T:M.length=f.length
    .have q:=qT (A:=A) p r (by simpa using T) (by omega) λj W Y=>by have z:=yH I F i S E M f A.in1 N m P B (by show A.units+1+ud F+ud i<cLine;omega) j (by simpa using W) (by simpa using Y);simpa using z
     rw[zK (by rw[q9 N,P.length];simp) (by rw[q9 m,B.length,<- T];simp)]at q;exact jK hab q
    .have e:F? (.b0 F) (.b0 i)=δ:=by exact EV (by rw[q9 N,q9 m,P.length,B.length];exact T)
     rw[e];exact jK hab (qd p r (by simpa using T) (by omega))
 |.E,C,x,y,u,v,A,G,l,w,o,R=>by
  subst G;cases C with
  |ea i=>obtain⟨b,E,rfl,h,m⟩:=l;cases o;cases w;obtain⟨f,B,r,_⟩:=I.tuple h;exact ql (show s.heap.IsTuple b f.toArray from r) (by omega)
  |b0 i=>obtain⟨b,E,rfl,h,m⟩:=l;cases o;cases w;obtain⟨f,B,r,_⟩:=I.list h;exact qw r.isList (by omega)
  |_=>unfold ef at l;subst l;exact EM w o J J
 |.I c,C,x,y,u,v,A,G,l,w,o,R=>by
  subst G;cases C with
  |ea i=>obtain⟨b,E,rfl,h,m⟩:=l;cases o;cases w;obtain⟨f,B,r,_⟩:=I.tuple h;exact qm c (show s.heap.IsTuple b f.toArray from r) (by omega)
  |b0 i=>obtain⟨b,E,rfl,h,m⟩:=l;cases o;cases w;obtain⟨f,B,r,_⟩:=I.list h;exact qx c r.isList (by omega)
  |_=>unfold ef at l;subst l;exact EM w o J J
 |.int c,C,x,y,u,v,A,G,l,w,o,R=>by
  subst G;cases C with
  |ea i=>obtain⟨b,E,rfl,h,m⟩:=l;cases o;obtain⟨t,rfl⟩:=w;obtain⟨f,B,r,_⟩:=I.tuple h;exact qy c t (show s.heap.IsTuple b f.toArray from r) (by omega)
  |b0 i=>obtain⟨b,E,rfl,h,m⟩:=l;cases o;obtain⟨t,rfl⟩:=w;obtain⟨f,B,r,_⟩:=I.list h;exact qH c t r.isList (by omega)
  |_=>unfold ef at l;subst l;exact EM w o J J
 |.str c,C,x,y,u,v,A,G,l,w,o,R=>by
  subst G;cases C with
  |ea i=>obtain⟨b,E,rfl,h,m⟩:=l;cases o;obtain⟨t,rfl⟩:=w;obtain⟨f,B,r,_⟩:=I.tuple h;exact qz c t (show s.heap.IsTuple b f.toArray from r) (by omega)
  |b0 i=>obtain⟨b,E,rfl,h,m⟩:=l;cases o;obtain⟨t,rfl⟩:=w;obtain⟨f,B,r,_⟩:=I.list h;exact qI c t r.isList (by omega)
  |_=>unfold ef at l;subst l;exact EM w o J J
theorem yH(I:eb X pins σ H s):∀(b a:List Dq) (f h:bD) (c e:List ab) (A:aM),b? X.K H b f->b? X.K H a h->eg f c->eg h e->A.units+ud b+ud a<cLine->
  ∀(j:Nat) (i:j<c.length) (l:j<e.length),i3 A s c[j] e[j] (eAt b a j)
 |[],a,f,h,c,e,A,m,o,p,q,B,j,i,l=>by
  have:=q9 m;have:=p.length;simp only[cu]at *
  omega
 |d::b,[],f,h,c,e,A,m,o,p,q,B,j,i,l=>by
  have:=q9 o;have:=q.length;simp only[cu]at *
  omega
 |d::b,r::a,f,h,c,e,A,m,o,p,q,B,j,i,l=>by
  obtain⟨x,M,rfl,t,u⟩:=m;obtain⟨y,N,rfl,w,z⟩:=o;have O:ud (d::b)=max (m3 d) (ud b):=by rw[ud]
  have P:ud (r::a)=max (m3 r) (ud a):=by rw[ud]
  cases p with
  |cons F G=>
   cases q with
   |cons C E=>
    cases j with
    |zero=>exact UH I d r x y _ _ A t w F C (by omega)
    |succ j=>exact yH I b a M N _ _ A u z G E (by omega) j (by simpa using i) (by simpa using l)
end
def NR:Dq->Dq->Bool
 |.ea _,.ea _=>γ
 |.b0 _,.b0 _=>γ
 |_,_=>δ
def J4(K:ao)(neg:Bool):R2:=λx y H Q=>∃d a,ef K H d x/\ef K H a y/\NR d a=γ/\m3 d<=20/\m3 a<=20/\Q (.I (if neg then !F? d a else F? d a)) H
def UI(hu:X.A.units+64<cLine):g? X (bh .Eq) (J4 X.K δ):=by
 intro pins s σ H x y u v Q I W Y h;obtain⟨d,R,S,T,hd,B,C,q⟩:=h;cases d with
 |ea i=>
  cases R with
  |ea c=>
   have G:m3 (.ea i)=ud i+1:=by rw[m3]
   have M:m3 (.ea c)=ud c+1:=by rw[m3]
   obtain⟨a,O,rfl,N,r⟩:=S;obtain⟨b,P,rfl,o,l⟩:=T;cases W;cases Y;obtain⟨m,t,p,_⟩:=I.tuple N;obtain⟨f,w,F,_⟩:=I.tuple o;refine SeqAt.eq_tupleAt (e:=eAt i c) (show s.heap.IsTuple a m.toArray from p) (show s.heap.IsTuple b f.toArray from F) (by omega) (λj B C=>?_) ?_
   .have z:=yH I i c O P m f X.A.in1 r l t w (by show X.A.units+1+ud i+ud c<cLine;omega) j (by simpa using B) (by simpa using C);simpa using z
   .rw[yG (by rw[q9 r,t.length];simp) (by rw[q9 l,w.length];simp)];exact rV I q J
  |_=>exact nomatch hd
 |b0 i=>
  cases R with
  |b0 c=>
   have G:m3 (.b0 i)=ud i+1:=by rw[m3]
   have M:m3 (.b0 c)=ud c+1:=by rw[m3]
   obtain⟨a,O,rfl,N,r⟩:=S;obtain⟨b,P,rfl,o,l⟩:=T;cases W;cases Y;obtain⟨m,t,p,_⟩:=I.list N;obtain⟨f,w,F,_⟩:=I.list o;by_cases E:m.length=f.length
   .refine SeqAt.eq_listAt (e:=eAt i c) p.isList F.isList (by simpa using E) (by omega) (λj B C=>?_) ?_
    .have z:=yH I i c O P m f X.A.in1 r l t w (by show X.A.units+1+ud i+ud c<cLine;omega) j (by simpa using B) (by simpa using C);simpa using z
    .rw[zK (by rw[q9 r,t.length];simp) (by rw[q9 l,w.length,<- E];simp)];exact rV I q J
   .refine lj p.isList F.isList (by simpa using E) (by omega) ?_;have e:A9 i c=δ:=EV (by rw[q9 r,q9 l,t.length,w.length];exact E);rw[show F? (.b0 i) (.b0 c)=δ from e]at q;exact rV I q J
  |_=>exact nomatch hd
 |_=>exact nomatch hd
def UJ(hu:X.A.units+64<cLine):g? X (bh .NotEq) (J4 X.K γ):=by
 intro pins s σ H x y u v Q I Y rv h;obtain⟨d,S,T,W,hd,C,E,q⟩:=h;cases d with
 |ea l=>
  cases S with
  |ea c=>
   have M:m3 (.ea l)=ud l+1:=by rw[m3]
   have N:m3 (.ea c)=ud c+1:=by rw[m3]
   obtain⟨a,P,rfl,O,r⟩:=T;obtain⟨b,R,rfl,o,i⟩:=W;cases Y;cases rv;obtain⟨m,t,p,_⟩:=I.tuple O;obtain⟨f,B,G,_⟩:=I.tuple o;have w:=qJ (A:=X.A) (show s.heap.IsTuple a m.toArray from p) (show s.heap.IsTuple b f.toArray from G) (by omega) (λj C E=>by
    have z:=yH I l c P R m f X.A.in1 r i t B (by show X.A.units+1+ud l+ud c<cLine;omega) j (by simpa using C) (by simpa using E);simpa using z)
   rw[yG (by rw[q9 r,t.length];simp) (by rw[q9 i,B.length];simp)]at w;exact w X.prog X.w X.xe _ (rV I q J)
  |_=>exact nomatch hd
 |b0 l=>
  cases S with
  |b0 c=>
   have M:m3 (.b0 l)=ud l+1:=by rw[m3]
   have N:m3 (.b0 c)=ud c+1:=by rw[m3]
   obtain⟨a,P,rfl,O,r⟩:=T;obtain⟨b,R,rfl,o,i⟩:=W;cases Y;cases rv;obtain⟨m,t,p,_⟩:=I.list O;obtain⟨f,B,G,_⟩:=I.list o;by_cases F:m.length=f.length
   .have w:=qN (A:=X.A) p.isList G.isList (by simpa using F) (by omega) (λj C E=>by
     have z:=yH I l c P R m f X.A.in1 r i t B (by show X.A.units+1+ud l+ud c<cLine;omega) j (by simpa using C) (by simpa using E);simpa using z)
    rw[zK (by rw[q9 r,t.length];simp) (by rw[q9 i,B.length,<- F];simp)]at w;exact w X.prog X.w X.xe _ (rV I q J)
   .have e:A9 l c=δ:=EV (by rw[q9 r,q9 i,t.length,B.length];exact F);rw[show F? (.b0 l) (.b0 c)=δ from e]at q;exact pF p.isList G.isList (by simpa using F) (by omega) X.prog X.w X.xe _ (rV I q J)
  |_=>exact nomatch hd
 |_=>exact nomatch hd
end
inductive xy:List Expr->bD->Prop
 |nil:xy [] []
 |cons {x:Str} {j:Nat} {pos:Pos} {es:List Expr} {vs:bD} (h:xy es vs):xy (.Constant (.str x) j pos::es) (.str x::vs)
def uq(h:n<=1000):n<=aB:=fL (yf h)
def ro.new(x:ro H a)(c:a p=U)(o:HO):ro H (e3 a p o):=λb u e=>by have z:=x b u e;rw[rg (uo z c)];exact z
structure Mw(K:ao)(x qual:Str)(st:Stmt)(f:Addr)(fd:bP)(T:Addr):Prop where
 ex:∃(oc:ab) (od:Option Addr) (kV doc pm:ab) (an:Option Addr) (cdv ct:ab) (osl:Array (Option ab)),
  fd=dD x qual (uZ st) (rZ st) (rF st) (.ref T) kV doc pm an cdv ct/\K.lookup f=Z ⟨oc,od,.func fd,osl⟩/\fR K cdv qual=γ
 kp:de K (.ref f)=γ
section
variable{P:aI}{w:ay}{K:ao}{mg:Str->Option ab}{b1:Heap}
theorem Mw.ok{st:Stmt}(F:Mw K x qual st f d T)(S:uB N ps (rF st))(len:∀a H Q E,b a H Q E->a.length=ps.length)
  (hbody:∀(cdv:ab) (A:aM) (d?:List Env) (s:af) (H:Hp) (a:bD) (Q:VK) (E:XK),tR k (A.deeper (envOfC qual (rF st) s.heap.objs.size f cdv))->b a H Q E->
   ∃t,oz (IA Dk P w K mg b1 N qual (rF st) f cdv A d? s H E).nox (rZ st) t/\t { nx:=λz c=>Q .E c,rt:=Q } (L2.start N a) H):vv P w K mg b1 Dk (k+1) f d ps b:=by
 obtain⟨m,o,kV,doc,pm,j,cdv,l,osl,rfl,i,hcd⟩:=F.ex;refine S0 i hcd S len λA d? s H a Q E e hsp=>?_;obtain⟨t,h,q⟩:=hbody cdv A d? s H a Q E e hsp;exact⟨t,h.nox,q⟩
end
theorem Mw.pw{K:ao}{st:Stmt}{e:aE}{d:List ab}(F:Mw K x qual st f i T)(p:K.lookup T=Z o)(q:o.data=.seq items n)
  (h:∀(kV doc pm:ab) (b:Option Addr) (cdv c:ab) (a:List ab),a.length=e.length - d.length->∃k,bindArgs (dD x qual (uZ st) (rZ st) (rF st) (.ref T) kV doc pm b cdv c) ⟨a,[]⟩=seqItems? (.ref T)>>=k/\k (Z items)=pure (e.zip (a++d))):ki K i e d:=by
 obtain⟨t,u,kV,doc,pm,b,cdv,c,osl,rfl,r,hcd⟩:=F.ex;intro s a KX m;obtain⟨k,j,l⟩:=h kV doc pm b cdv c a (by rw[au]at m;omega);exact BindsTo.of_defaults J (KX _ _ p) q j l
section
variable{X:Cx}
def J5:g? X (cj .Mult) (λx y H Q=>∃z n,x=.str z/\y=.int n/\MulOk z n/\Q (.str (i8 z n)) H):=by intro a s i H x y v u Q I c d h;obtain⟨z,n,rfl,rfl,b,q⟩:=h;obtain⟨t,rfl⟩:=c;obtain⟨f,rfl⟩:=d;exact SB.mul b λe k=>⟨.str _,H,I.tj _,⟨e,J⟩,q⟩
theorem GE:∀{b:aE} {a:List ab},eg (b.map V.str) a->qA a b
 |[],a,h=>by cases h;exact .nil
 |y::r,a,h=>by
  rw[aR]at h;cases h with
  |cons c d=>obtain⟨t,rfl⟩:=c;exact .cons y t (GE d)
end
section
variable{X:Cx}(K:ao)
def EX(a:PE X l b)(hK:X.K=K:=by rfl):PI X c l (KQ K b):=by subst hK;exact Qs a
def QS(a:PE X l b)(hK:X.K=K:=by rfl):PI X c l (Ua K b):=by subst hK;exact Ub a
def QT(b:X.nr=γ)(h:N? X a t)(c:(cN a X.b').length=n:=by rfl)(hst:(cN a X.b').findIdx? (·.1)=U:=by rfl)(hK:X.K=K:=by rfl):PG X (.Tuple a k pos) (T6 K n t):=by subst hK;exact T7 b h c hst
variable{o e:Expr}{es:List Expr}{to:TE}{t:TA}{name:Str}{apos cpos:Pos}{T id:String}{r:V->bD->Hp->VK->Prop}
def J6(f:i4 T)(slot:Slot T name id)(hty:typeOf (.builtin id)=pure (.type "method_descriptor"))(b:MtR X id r)(c:PE X o to)(a:PA X (e::es) t)
  (hbase:du o name X.b' (eval o X.b')=eval o X.b':=by rfl)
  (hfew:((bC cpos (aw (e::es) X.b')).all (λx=>!x.1)&&(backToKw cpos (cW [] X.b')).all (λx=>x.1.isSome)
   && decide ((e::es).length+([]:List d5).length+(if ([]:List d5).isEmpty then 0 else 1)<30))=γ:=by rfl)
  (hline:(apos.endLine==cpos.line)=γ:=by rfl) (d:aw (e::es) X.b'=(δ,eval e X.b')::aw es X.b':=by rfl) (hplain:(bC cpos (aw es X.b')).any (·.1)=δ:=by rfl) (hK:X.K=K:=by rfl):
  PE X (.Call (.Attribute o name apos) (e::es) [] cpos) (tBM K T r to t):=by subst hK;exact X7 f slot hty b c a hbase hfew hline d hplain
end
end L3
namespace L2
open PySem PySem.Spec PyProof.Rows
section
variable{X:Cx}{pins:cE}{σ:St}{H:Hp}{s:af}
def yg(e:H a=Z u)(q:H c=Z v)(d:u≠v)(n:HO):e3 H a n c=Z v:=by rw[rg (λz=>by subst z;rw[e]at q;exact d (cF q))];exact q
def eb.rz(I:eb X pins σ H s)(e:H a=Z (.dK kvs)):∃o,eb X pins σ (e3 H a (.n' o (.dK kvs))) s:=by
 obtain⟨z,y,P,r,f,F,E,l,c⟩:=(show e4 X.prog X.w H s.heap a (.dK kvs) from I.fc a _ e);refine⟨f,?_⟩;have j:=I.step (H':=e3 H a (.n' f (.dK kvs))) (h':=s.heap) (g':=s.gens) (d':=s.drawn) (t':=s.toks) (ch:=[]) (λ_ z=>nomatch z) (λb o _ _ _ q _=>q) (λb o _ _ _ q _=>⟨o.slots,q⟩)
  (λb o _ _ n=>by rw[rg (λz=>by subst z;rw[e]at n;cases n)];exact n) (λb o _ q=>⟨o,q⟩) (λb p q=>yg e q (λz=>nomatch z) _) (λb o u q=>yg e q (λz=>nomatch z) _)
  (λb N q=>⟨#[],by rw[yg e q (λz=>nomatch z) _];simp⟩) (λm q=>q) ?_ I.k?
 .obtain⟨h,g,d,t,os⟩:=s;exact j
 .intro b u q;have st:∀{b:Addr} {u:HO},e4 X.prog X.w H s.heap b u->e4 X.prog X.w (e3 H a (.n' f (.dK kvs))) s.heap b u:=λ{b u} x=>x.Z' (λ_ _ _ q=>q) (λc q=>yg e q (λz=>nomatch z) _) λc p q=>yg e q (λz=>nomatch z) _
  by_cases i:b=a
  .subst i;rw[rb]at q;cases q;exact⟨l,st (I.fc b _ e)⟩
  .rw[rg i]at q;exact st (I.fc b u q)
def PE.ghost(h:PE X e t):PE X e (λσ H Q=>t σ H λx b=>Q x b\/∃a kvs,b a=Z (.dK kvs)/\∀o,Q x (e3 b a (.n' o (.dK kvs)))):=λpins s σ H Q I i=>
 fg (h pins s σ H _ I i) λu l ⟨x,b,c,d,j⟩=>by
  rcases j with q|⟨a,kvs,e,q⟩
  .exact⟨x,b,c,d,q⟩
  .obtain⟨o,f⟩:=c.rz e;exact⟨x,_,f,d,q o⟩
end
end L2
namespace L4
open PySem PySem.Spec PyProof.Rows L2 L3
abbrev St:=L2.St
inductive D where
 |E|I (b:Bool)|int (i:Int)|str (x:Str)
 |ea (ds:List D)|b0 (ds:List D)
 |O (ds:List D)
 |obj (c:Nat) (ns:aE) (ds:List D)
 |M (ks:List eu) (ds:List D)
 |R (ks:List (List eu)) (ds:List D)
abbrev aW:=List D
structure Bg where
 K:ao
 ca:Nat->Addr
 hs:List eu->Int
def isO(a:Addr)(o:Obj):Heap->Prop:=λh=>h.get? a=Z o
structure DtE(hs:List eu->Int)(o:Obj)(qs:List (List eu×Addr×ab)):Prop where
 ex:o.ExactDict
 da:∃es ep,o.data=.dict es ep/\es.toList=qs.map λq=>⟨hs q.1,.ref q.2.1,q.2.2⟩
 nd:(qs.map (·.1)).Nodup
 sz:qs.length<=1000
def DtO(G:Bg)(H:Hp)(a:Addr)(c:List (List eu))(d:bD):Prop:=∃(o:Obj) (b:List (List eu×Addr×ab)),H a=Z (.ext (isO a o))/\(a==cX)=δ/\DtE G.hs o b/\b.map (·.1)=c/\(∀q∈b,fy G.K H q.2.1 (q.1.map kV))/\eg d (b.map (·.2.2))
mutual
def ef(G:Bg)(H:Hp):D->V->Prop
 |.E,v=>v=.E
 |.I b,v=>v=.I b
 |.int i,v=>v=.int i
 |.str x,v=>v=.str x
 |.ea e,v=>∃a d,v=.ref a/\fy G.K H a d/\b? G H e d
 |.b0 e,v=>∃a d,v=.ref a/\H a=Z (.b0 d)/\b? G H e d
 |.O e,v=>∃a d,v=.ref a/\fx G.K H a d/\b? G H e d
 |.obj c h e,v=>∃a j d,v=.ref a/\H a=Z (.ll (G.ca c) j (h.zip d))/\h.length=d.length/\b? G H e d
 |.M f e,v=>∃a o d,v=.ref a/\H a=Z (.n' o (.dK (f.zip d)))/\f.length=d.length/\b? G H e d
 |.R f e,v=>∃a d,v=.ref a/\DtO G H a f d/\b? G H e d
def b?(G:Bg)(H:Hp):aW->bD->Prop
 |[],a=>a=[]
 |d::b,a=>∃v r,a=v::r/\ef G H d v/\b? G H b r
end
def fy.mono{K:ao}{H b:Hp}{a:Addr}{c:bD}(e:ro H b)(h:fy K H a c):fy K b a c:=by
 rcases h with (h|⟨o,h⟩)|h
 .exact .inl (.inl (e _ _ h))
 .exact .inl (.inr ⟨o,e _ _ h⟩)
 .exact .inr h
theorem DtO.mono{G:Bg}{H b:Hp}{a:Addr}{ks:List (List eu)}{c:bD}(e:ro H b)(h:DtO G H a ks c):DtO G b a ks c:=by obtain⟨o,r,d,f,i,j,l,m⟩:=h;exact⟨o,r,e _ _ d,f,i,j,λq p=>fy.mono e (l q p),m⟩
mutual
theorem ef.mono{G:Bg}{H q:Hp}(e:ro H q):∀(d:D) (v:V),ef G H d v->ef G q d v
 |.E,v,h=>by unfold ef at h ⊢;exact h
 |.I b,v,h=>by unfold ef at h ⊢;exact h
 |.int i,v,h=>by unfold ef at h ⊢;exact h
 |.str x,v,h=>by unfold ef at h ⊢;exact h
 |.ea j,v,h=>by obtain⟨a,f,rfl,l,m⟩:=h;exact⟨a,f,J,fy.mono e l,b?.mono e j f m⟩
 |.b0 j,v,h=>by obtain⟨a,f,rfl,l,m⟩:=h;exact⟨a,f,J,e _ _ l,b?.mono e j f m⟩
 |.O j,v,h=>by obtain⟨a,f,rfl,l,m⟩:=h;exact⟨a,f,J,e.seq l,b?.mono e j f m⟩
 |.obj c u j,v,h=>by obtain⟨a,r,f,rfl,l,m,p⟩:=h;exact⟨a,r,f,J,e _ _ l,m,b?.mono e j f p⟩
 |.M t j,v,h=>by obtain⟨a,o,f,rfl,l,m,p⟩:=h;exact⟨a,o,f,J,e _ _ l,m,b?.mono e j f p⟩
 |.R t j,v,h=>by obtain⟨a,f,rfl,l,m⟩:=h;exact⟨a,f,J,l.mono e,b?.mono e j f m⟩
theorem b?.mono{G:Bg}{H c:Hp}(e:ro H c):∀(a:aW) (b:bD),b? G H a b->b? G c a b
 |[],b,h=>by unfold b? at h ⊢;exact h
 |d::a,b,h=>by obtain⟨v,r,rfl,f,i⟩:=h;exact⟨v,r,J,ef.mono e d v f,b?.mono e a r i⟩
end
section
variable{G:Bg}{H:Hp}
def rW:b? G H [] []:=by unfold b?;rfl
def sd{d:D}{v:V}{b:aW}{a:bD}(h:ef G H d v)(r:b? G H b a):b? G H (d::b) (v::a):=by unfold b?;exact⟨v,a,J,h,r⟩
theorem q9:∀{b:aW} {a:bD},b? G H b a->b.length=a.length
 |[],a,h=>by unfold b? at h;subst h;rfl
 |d::b,a,h=>by obtain⟨v,r,rfl,_,c⟩:=h;rw[aF,aF,q9 c]
theorem sV:∀{e a:aW} {b c:bD},b? G H e b->b? G H a c->b? G H (e++a) (b++c)
 |[],a,b,c,h,f=>by unfold b? at h;subst h;exact f
 |d::e,a,b,c,h,f=>by obtain⟨v,r,rfl,i,j⟩:=h;exact sd i (sV j f)
theorem yh:∀{b:aW} {a:bD} {i:Nat} {d:D},b? G H b a->b[i]?=Z d->∃v,a[i]?=Z v/\ef G H d v
 |[],a,i,d,h,e=>by simp at e
 |j::b,a,i,d,h,e=>by
  obtain⟨v,r,rfl,c,f⟩:=h;cases i with
  |zero=>simp at e;subst e;exact⟨v,J,c⟩
  |succ i=>simpa using yh f (by simpa using e)
theorem CB:∀{ds:aW} {a:bD} (n:Nat),b? G H ds a->b? G H (ds.drop n) (a.drop n)
 |ds,a,0,h=>h
 |[],a,n+1,h=>by unfold b? at h;subst h;exact rW
 |d::ds,a,n+1,h=>by obtain⟨v,r,rfl,c,b⟩:=h;exact CB n b
theorem CC:∀{ds:aW} {a:bD} (n:Nat),b? G H ds a->b? G H (ds.take n) (a.take n)
 |ds,a,0,h=>rW
 |[],a,n+1,h=>by unfold b? at h;subst h;exact rW
 |d::ds,a,n+1,h=>by obtain⟨v,r,rfl,b,c⟩:=h;exact sd b (CC n c)
def As{a:Addr}{b:bD}{c:aW}(h:fy G.K H a b)(r:b? G H c b):ef G H (.ea c) (.ref a):=by unfold ef;exact⟨a,b,J,h,r⟩
def Au{a:Addr}{b:bD}{c:aW}(h:H a=Z (.b0 b))(r:b? G H c b):ef G H (.b0 c) (.ref a):=by unfold ef;exact⟨a,b,J,h,r⟩
def ui(i:Int):ef G H (.int i) (.int i):=by unfold ef;rfl
def ur(i:Bool):ef G H (.I i) (.I i):=by unfold ef;rfl
def u4(i:Str):ef G H (.str i) (.str i):=by unfold ef;rfl
def wB:ef G H .E .E:=by unfold ef;rfl
end
inductive Sl where
 |un
 |q (d:D)
 |J (ds:aW)
 |pm (ds:aW)
 |dk (ks:List eu) (ds:aW)
 |ob (c:Nat) (ns:aE) (ds:aW)
abbrev aO:=List Sl
def Sl.gi:Sl->Bool
 |.J _=>γ
 |.pm _=>γ
 |.dk _ _=>γ
 |.ob _ _ _=>γ
 |_=>δ
structure Fr where
 B0:Hp
 B:Hp
 A:List Addr
def Ba(G:Bg)(F:Fr)(e H:Hp)(o:Option V):Sl->Prop
 |.un=>True
 |.q d=>∃v,o=Z v/\ef G e d v
 |.J f=>∃a b,o=Z (.ref a)/\H a=Z (.b0 b)/\e a=U/\F.B a=U/\b? G e f b
 |.pm f=>∃a b,o=Z (.ref a)/\H a=Z (.b0 b)/\e a=U/\a∈F.A/\b? G e f b
 |.dk h f=>∃a b,o=Z (.ref a)/\H a=Z (.dK (h.zip b))/\e a=U/\F.B a=U/\h.length=b.length/\b? G e f b
 |.ob c i f=>∃a j b,o=Z (.ref a)/\H a=Z (.ll (G.ca c) j (i.zip b))/\e a=U/\a∈F.A/\i.length=b.length/\b? G e f b
structure d6(G:Bg)(F:Fr)(σ:St)(ρ:aO)(H0 H:Hp):Prop where
 sub:ro H0 H
 g0:ro F.B0 H0
 keep:∀b o,F.B b=Z o->b∉F.A->H b=Z o
 fr:∀b o,H0 b=Z o->F.B0 b=Z o\/F.B b=U
 am:∀a∈F.A,∃o,H a=Z o
 len:σ.length=ρ.length
 sl:∀(i:Nat) (s:Sl),ρ[i]?=Z s->Ba G F H0 H (σ[i]?).join s
 ap:∀(i j:Nat) (s t:Sl) (a:Addr),i≠j->ρ[i]?=Z s->ρ[j]?=Z t->s.gi=γ->t.gi=γ->(σ[i]?).join=Z (.ref a)->(σ[j]?).join=Z (.ref a)->False
theorem Ba.at{G:Bg}{F:Fr}{p H:Hp}{o:Option V}{s:Sl}(h:Ba G F p H o s)(e:s.gi=γ):∃a u,o=Z (.ref a)/\H a=Z u/\p a=U/\(F.B a=U\/a∈F.A):=by
 cases s with
 |un=>cases e
 |q d=>cases e
 |J l=>obtain⟨a,m,b,f,i,j,_⟩:=h;exact⟨a,_,b,f,i,.inl j⟩
 |pm l=>obtain⟨a,m,b,f,i,j,_⟩:=h;exact⟨a,_,b,f,i,.inr j⟩
 |dk r l=>obtain⟨a,m,b,f,i,j,_⟩:=h;exact⟨a,_,b,f,i,.inl j⟩
 |ob c t l=>obtain⟨a,q,m,b,f,i,j,_⟩:=h;exact⟨a,_,b,f,i,.inr j⟩
def Ba.f5{G:Bg}{F:Fr}{t H f y:Hp}{o:Option V}{s:Sl}(h:Ba G F t H o s)(p:ro t f)(q:∀a u,o=Z (.ref a)->s.gi=γ->H a=Z u->y a=Z u)
  (r:∀a u,o=Z (.ref a)->s.gi=γ->H a=Z u->t a=U->f a=U):Ba G F f y o s:=by
 cases s with
 |un=>trivial
 |q d=>obtain⟨v,b,e⟩:=h;exact⟨v,b,ef.mono p _ _ e⟩
 |J w=>obtain⟨a,m,b,e,i,j,l⟩:=h;exact⟨a,m,b,q _ _ b J e,r _ _ b J e i,j,b?.mono p _ _ l⟩
 |pm w=>obtain⟨a,m,b,e,i,j,l⟩:=h;exact⟨a,m,b,q _ _ b J e,r _ _ b J e i,j,b?.mono p _ _ l⟩
 |dk A w=>obtain⟨a,m,b,e,i,j,l,x⟩:=h;exact⟨a,m,b,q _ _ b J e,r _ _ b J e i,j,l,b?.mono p _ _ x⟩
 |ob c B w=>obtain⟨a,z,m,b,e,i,j,l,x⟩:=h;exact⟨a,z,m,b,q _ _ b J e,r _ _ b J e i,j,l,b?.mono p _ _ x⟩
section
variable{G:Bg}{F:Fr}{σ:St}{ρ:aO}{H0 H H0' H':Hp}
theorem d6.jj(R:d6 G F σ ρ H0 H){b:Addr}(h:H b=U):F.B b=U:=by
 cases e:F.B b with
 |none=>rfl
 |some o=>
  by_cases a:b∈F.A
  .obtain⟨c,q⟩:=R.am b a;rw[q]at h;cases h
  .have q:=R.keep b o e a;rw[q]at h;cases h
theorem d6.f5(R:d6 G F σ ρ H0 H)(hs:ro H H')(c:ro H0 H0')(sub':ro H0' H')(d:∀b o,H0' b=Z o->H0 b=Z o\/H b=U):d6 G F σ ρ H0' H' where
 sub:=sub'
 g0:=R.g0.t c
 keep:=λb o e n=>hs _ _ (R.keep b o e n)
 fr:=λb o e=>by
  rcases d b o e with q|q
  .exact R.fr b o q
  .exact .inr (R.jj q)
 am:=λa ha=>let ⟨xs,q⟩:=R.am a ha;⟨xs,hs _ _ q⟩
 len:=R.len
 sl:=λi s e=>(R.sl i s e).f5 c (λa u x x q=>hs _ _ q) λa u x x q f=>by
  cases z:H0' a with
  |none=>rfl
  |some o=>
   rcases d a o z with y|y
   .rw[y]at f;cases f
   .rw[y]at q;cases q
 ap:=R.ap
def rp{H:Hp}{p:Addr}(a:H p=U)(o:HO):ro H (e3 H p o):=ro.new (ro.refl H) a o
def d6.ff(R:d6 G F σ ρ H0 H){p:Addr}(a:H p=U):H0 p=U:=by
 cases e:H0 p with
 |none=>rfl
 |some o=>have:=R.sub _ _ e;rw[this]at a;cases a
def NS{H0 H:Hp}(s:ro H0 H)(p:Addr)(o:HO):ro (e3 H0 p o) (e3 H p o):=λb u e=>by
 by_cases a:b=p
 .subst a;rw[rb]at e ⊢;exact e
 .rw[rg a]at e ⊢;exact s _ _ e
def d6.Bx(R:d6 G F σ ρ H0 H){p:Addr}(a:H p=U)(o:HO):d6 G F σ ρ (e3 H0 p o) (e3 H p o):=
 R.f5 (rp a o) (rp (R.ff a) o) (NS R.sub p o) λb u e=>by
  by_cases c:b=p
  .subst c;exact .inr a
  .rw[rg c]at e;exact .inl e
def d6.i1(R:d6 G F σ ρ H0 H){p:Addr}(a:H p=U)(o:HO):d6 G F σ ρ H0 (e3 H p o):=
 R.f5 (rp a o) (ro.refl _) (λb u e=>by rw[rg (uo (R.sub _ _ e) a)];exact R.sub _ _ e) λb u e=>.inl e
def sx(σ:St)(ρ:aO)(p:Addr):Prop:=∀(i:Nat) (s:Sl),ρ[i]?=Z s->s.gi=γ->(σ[i]?).join≠Z (.ref p)
def d6.apart(R:d6 G F σ ρ H0 H){p:Addr}(d:H p=U):sx σ ρ p:=λi s e so z=>by obtain⟨a,u,b,c,_⟩:=(R.sl i s e).at so;rw[z]at b;cases b;rw[d]at c;cases c
theorem d6.rz(R:d6 G F σ ρ H0 H){p:Addr}{o:HO}(h:H p=Z o)(f:H0 p=U)(d:F.B p=U)(ap:sx σ ρ p):d6 G F σ ρ (e3 H0 p o) H where
 sub:=λb u e=>by
  by_cases d:b=p
  .subst d;rw[rb]at e;cases e;exact h
  .rw[rg d]at e;exact R.sub _ _ e
 g0:=R.g0.t (rp f o)
 keep:=R.keep
 fr:=λb u e=>by
  by_cases c:b=p
  .subst c;exact .inr d
  .rw[rg c]at e;exact R.fr _ _ e
 am:=R.am
 len:=R.len
 sl:=λi s e=>(R.sl i s e).f5 (rp f o) (λa u x x q=>q) λa u z so q j=>by rw[rg (λy=>ap i s e so (by rw[z,y]))];exact j
 ap:=R.ap
def IQ{σ:St}{i j:Nat}{v:Option V}(a:i<σ.length):((σ.set i v)[j]?).join=if j=i then v else (σ[j]?).join:=by
 rw[b8];by_cases h:i=j
 .subst h;simp[a]
 .rw[ak h,ak (λz=>h z.symm)]
set_option tactic.hygienic true
theorem d6.set(R:d6 G F σ ρ H0 H){i:Nat}{v:V}{s:Sl}(hs:Ba G F H0 H (Z v) s)(ap:s.gi=γ->∀a,v=.ref a->∀(j:Nat) (t:Sl),j≠i->ρ[j]?=Z t->t.gi=γ->(σ[j]?).join≠Z (.ref a)):
  d6 G F (σ.set i (Z v)) (ρ.set i s) H0 H where
 sub:=R.sub
 g0:=R.g0
 keep:=R.keep
 fr:=R.fr
 am:=R.am
 len:=by rw[dW,dW,R.len]
 sl:=λj t e=>by
  rw[b8]at e;by_cases h:i=j
  .subst h;rw[aj J]at e;split at e
   .rename_i hi;cases e;rw[IQ (by rw[R.len];exact hi),aj J];exact hs
   .cases e
  .rw[ak h]at e;have A:=R.sl j t e;rw[b8,ak h];exact A
 ap:=λj k t u a hjk q f p tk b vk=>by
  have q?:∀{m:Nat} {x:Sl},(ρ.set i s)[m]?=Z x->m≠i->ρ[m]?=Z x/\((σ.set i (Z v))[m]?).join=(σ[m]?).join:=λ{m x} e hm=>by rw[b8,ak (λz=>hm z.symm)]at e;exact⟨e,by rw[b8,ak (λz=>hm z.symm)]⟩
  have self:∀{x:Sl},(ρ.set i s)[i]?=Z x->x=s/\((σ.set i (Z v))[i]?).join=Z v:=λ{x} e=>by
   rw[b8,aj J]at e;split at e
   .rename_i hi;cases e;exact⟨J,by rw[IQ (by rw[R.len];exact hi),aj J]⟩
   .cases e
  by_cases o:j=i
  .subst o;obtain⟨rfl,l⟩:=self q;rw[l]at b;cases b;obtain⟨c,d⟩:=q? f (λz=>hjk z.symm);rw[d]at vk;exact ap p a J k u (λz=>hjk z.symm) c tk vk
  .obtain⟨c,d⟩:=q? q o;by_cases r:k=i
   .subst r;obtain⟨rfl,l⟩:=self f;rw[l]at vk;cases vk;rw[d]at b;exact ap tk a J j t o c p b
   .obtain⟨w,y⟩:=q? f r;rw[d]at b;rw[y]at vk;exact R.ap j k t u a hjk c w p tk b vk
set_option tactic.hygienic false
def d6.setIm(R:d6 G F σ ρ H0 H)(i:Nat){v:V}{d:D}(h:ef G H0 d v):d6 G F (σ.set i (Z v)) (ρ.set i (.q d)) H0 H:=R.set ⟨v,J,h⟩ λz=>by cases z
theorem d6.setLs(R:d6 G F σ ρ H0 H)(i:Nat){p:Addr}{b:bD}{c:aW}(o:H p=Z (.b0 b))(l:H0 p=U)(m:F.B p=U)(d:sx σ ρ p)(h:b? G H0 c b):d6 G F (σ.set i (Z (.ref p))) (ρ.set i (.J c)) H0 H:=
 R.set ⟨p,b,J,o,l,m,h⟩ λz a e j t z f q=>by cases e;exact d j t f q
def d6.mut(R:d6 G F σ ρ H0 H){i:Nat}{a:Addr}{s c:Sl}{o:HO}(hi:ρ[i]?=Z s)(so:s.gi=γ)(ha:(σ[i]?).join=Z (.ref a))(ok:∀H',H' a=Z o->Ba G F H0 H' (Z (.ref a)) c)
  (N:c.gi=γ):d6 G F σ (ρ.set i c) H0 (e3 H a o):=by
 obtain⟨Q,u,d,S,f,l⟩:=(R.sl i s hi).at so;rw[ha]at d;cases d;exact {
  sub:=λb w e=>by rw[rg (λz=>by rw[z,f]at e;cases e)];exact R.sub _ _ e
  g0:=R.g0
  keep:=λb w e n=>by
   have E:b≠a:=λz=>by
    subst z;rcases l with q|q
    .rw[q]at e;cases e
    .exact n q
   rw[rg E];exact R.keep b w e n
  fr:=R.fr
  am:=λb C=>by
   by_cases z:b=a
   .subst z;exact⟨o,rb⟩
   .rw[rg z];exact R.am b C
  len:=by rw[dW];exact R.len
  sl:=λj t e=>by
   rw[b8]at e;by_cases h:i=j
   .subst h;rw[aj J]at e;split at e
    .cases e;rw[ha];exact ok _ rb
    .cases e
   .rw[ak h]at e;refine(R.sl j t e).f5 (ro.refl _) (λb w z to q=>?_) λb w _ _ _ q=>q;rw[rg (λy=>by subst y;exact R.ap j i t s b (λy=>h y.symm) e hi to so z ha)];exact q
  ap:=λj k t u b hjk p r O tk P vk=>by
   have q?:∀{m:Nat} {x:Sl},(ρ.set i c)[m]?=Z x->∃y,ρ[m]?=Z y/\(x.gi=γ->y.gi=γ):=λ{m x} e=>by
    rw[b8]at e;by_cases h:i=m
    .subst h;exact⟨s,hi,λ_=>so⟩
    .rw[ak h]at e;exact⟨x,e,λq=>q⟩
   obtain⟨y,A,I⟩:=q? p;obtain⟨z,B,M⟩:=q? r;exact R.ap j k y z b hjk A B (I O) (M tk) P vk }
end
abbrev FE:=aO->Option (D×aO)
abbrev FT:=aO->Option (Bool×aO)
abbrev FA:=aO->Option (aW×aO)
def tF(G:Bg)(f:FE):TE:=λi H Q=>∃F h e d b,d6 G F i h e H/\f h=Z (d,b)/\∀v a c,ro e a->d6 G F i b a c->ef G a d v->Q v c
def m5(G:Bg)(f:FT):TT:=λi H Q=>∃F h e d b,d6 G F i h e H/\f h=Z (d,b)/\∀a c,ro e a->d6 G F i b a c->Q d c
def vj(G:Bg)(f:FA):TA:=λj H Q=>∃F i d e b,d6 G F j i d H/\f i=Z (e,b)/\∀h a c,ro d a->d6 G F j b a c->b? G a e h->Q h c
def G?(G:Bg)(f:FA):TE:=λd H Q=>∃F j e h b,d6 G F d j e H/\f j=Z (h,b)/\∀p i a c,ro e a->d6 G F d b a c->c p=Z (.b0 i)->a p=U->F.B p=U->sx d b p->b? G a h i->Q (.ref p) c
def PE.ee(h:PE X e t)(w:∀b H Q,d b H Q->t b H Q):PE X e d:=λa s b H Q I c=>h a s b H Q I (w _ _ _ c)
def PT.ee(h:PT X e t)(w:∀b H Q,d b H Q->t b H Q):PT X e d:=λa s b H Q I c=>h a s b H Q I (w _ _ _ c)
def PW.ee(h:PW X e t)(w:∀b H Q,d b H Q->t b H Q):PW X e d:=λf a s b H Q I c=>h f a s b H Q I (w _ _ _ c)
def PA.ee(h:PA X e t)(w:∀b H Q,d b H Q->t b H Q):PA X e d:=λpos a s b H Q I c=>h pos a s b H Q I (w _ _ _ c)
noncomputable def cC(d:D):FE:=λa=>Z (d,a)
noncomputable def cV(i:Nat):FE:=λa=>match a[i]? with
 |some (.q d)=>Z (d,a)
 |_=>U
noncomputable def c1(g:D->Option D) (f:FE):FE:=λb=>match f b with
 |some (d,a)=>match g d with
  |some x=>Z (x,a)
  |none=>U
 |none=>U
noncomputable def c2(g:D->D->Option D) (f c:FE):FE:=λd=>match f d with
 |some (x,a)=>match c a with
  |some (y,b)=>match g x y with
   |some z=>Z (z,b)
   |none=>U
  |none=>U
 |none=>U
def BL(h:c1 g f c=Z (z,b)):∃d,f c=Z (d,b)/\g d=Z z:=by
 unfold c1 at h;cases e:f c with
 |none=>rw[e]at h;cases h
 |some p=>
  obtain⟨d,i⟩:=p;rw[e]at h;cases a:g d with
  |none=>simp only[a]at h;cases h
  |some x=>simp only[a]at h;cases h;exact⟨d,J,a⟩
def BM(h:c2 g f i j=Z (z,d)):∃x y a,f j=Z (x,a)/\i a=Z (y,d)/\g x y=Z z:=by
 unfold c2 at h;cases e:f j with
 |none=>rw[e]at h;cases h
 |some p=>
  obtain⟨x,a⟩:=p;simp only[e]at h;cases b:i a with
  |none=>simp only[b]at h;cases h
  |some q=>
   obtain⟨y,l⟩:=q;simp only[b]at h;cases c:g x y with
   |none=>simp only[c]at h;cases h
   |some w=>simp only[c]at h;cases h;exact⟨x,y,a,J,b,c⟩
section
variable{X:Cx}{G:Bg}
def UK{i j pos}:PE X (.Constant (.int i) j pos) (tF G (cC (.int i))):=PE.ee Nh λf H Q h=>by obtain⟨F,c,b,d,a,R,e,k⟩:=h;cases e;exact k _ _ _ (ro.refl _) R (ui i)
def Yc{i j pos}:PE X (.Constant (.bool i) j pos) (tF G (cC (.I i))):=PE.ee XB λf H Q h=>by obtain⟨F,c,b,d,a,R,e,k⟩:=h;cases e;exact k _ _ _ (ro.refl _) R (ur i)
def UM{i j pos}:PE X (.Constant (.str i) j pos) (tF G (cC (.str i))):=PE.ee Ni λf H Q h=>by obtain⟨F,c,b,d,a,R,e,k⟩:=h;cases e;exact k _ _ _ (ro.refl _) R (u4 i)
def UN{j pos}:PE X (.Constant .none j pos) (tF G (cC .E)):=PE.ee TV λf H Q h=>by obtain⟨F,c,b,d,a,R,e,k⟩:=h;cases e;exact k _ _ _ (ro.refl _) R wB
set_option tactic.hygienic true
def QU(h:cV i b=Z (d,a)):b[i]?=Z (.q d)/\a=b:=by
 unfold cV at h;split at h
 .rename_i e;cases h;exact⟨e,J⟩
 .cases h
set_option tactic.hygienic false
def u5{a:Type}{o:Option (Option a)}{v:a}(h:o.join=Z v):o=Z (Z v):=by
 cases o with
 |none=>cases h
 |some u=>cases u with
  |none=>cases h
  |some w=>cases h;rfl
def J7(h:PE X e (zI i)):PE X e (tF G (cV i)):=PE.ee h λo H Q f=>by obtain⟨F,m,l,d,j,R,e,k⟩:=f;obtain⟨a,rfl⟩:=QU e;obtain⟨v,b,c⟩:=R.sl i _ a;exact⟨v,u5 b,k _ _ _ (ro.refl _) R c⟩
def QV(h:PE X e (tC v))(r:∀H,ef G H d v):PE X e (tF G (cC d)):=PE.ee h λj H Q a=>by obtain⟨F,i,c,f,b,R,e,k⟩:=a;cases e;exact k _ _ _ (ro.refl _) R (r _)
def ke(G:Bg)(r:R2)(g:D->D->Option D):Prop:=∀x y z b H v u (Q:VK),g x y=Z z->ro b H->ef G b x v->ef G b y u->(∀w,(∀a,ro b a->ef G a z w)->Q w H)->r v u H Q
def K6(C:ke G r g):∀h H Q,tF G (c2 g f A) h H Q->tOp r (tF G f) (tF G A) h H Q:=λh H Q B=>by obtain⟨F,O,l,d,c,R,e,k⟩:=B;obtain⟨x,y,b,q,t,z⟩:=BM e;refine⟨F,O,l,x,b,R,q,λv m o N p I=>⟨F,b,m,y,c,p,t,λu i a j R2 M=>?_⟩⟩;exact C x y d i a v u Q z R2.sub (ef.mono j _ _ I) M λw E=>k w i a (N.t j) R2 (E _ (ro.refl _))
def Yd(i:g? X (cj j) r)(h:ke G r g)(d:PE X a (tF G f))(e:PE X b (tF G c)):PE X (.BinOp a j b pos) (tF G (c2 g f c)):=PE.ee (KR i d e) (K6 h)
def UO(l:g? X (bh c) r)(j:ke G r g)(e:PE X a (tF G f))(h:PE X b (tF G d))(i:eJ c b=δ):PE X (.Compare a [c] [b] pos) (tF G (c2 g f d)):=PE.ee (Qy l e h i) (K6 j)
def Ye(i:IxR X r)(h:ke G r g)(d:PE X a (tF G f))(e:PE X b (tF G c))(j:K4 b):PE X (.Subscript a b pos) (tF G (c2 g f c)):=PE.ee (X2 i d e j) (K6 h)
def cT(f:FE):FT:=λc=>match f c with
 |some (.I b,a)=>Z (b,a)
 |_=>U
set_option tactic.hygienic true
def K7(h:cT f c=Z (b,a)):f c=Z (.I b,a):=by
 unfold cT at h;split at h
 .rename_i e;cases h;exact e
 .cases h
set_option tactic.hygienic false
def K8:∀b H Q,m5 G (cT f) b H Q->Nt (tF G f) b H Q:=λb H Q j=>by obtain⟨F,l,c,d,a,R,e,k⟩:=j;refine⟨F,l,c,_,a,R,K7 e,λv h m s i r=>?_⟩;exact⟨d,r,k _ _ s i⟩
def QW(u:g? X (bh h) r)(t:ke G r g)(m:PE X a (tF G f))(o:PE X b (tF G l))(q:eJ h b=δ):
  PT X (.Compare a [h] [b] pos) (m5 G (cT (c2 g f l))):=PT.ee (Qz u m o q) λi H Q p=>by
 obtain⟨F,w,j,d,c,R,e,k⟩:=K8 i H Q p;exact K6 t i H _ ⟨F,w,j,d,c,R,e,k⟩
def QX(h:PE X e (tF G f))(j:∀whole,isTrue e X.b' whole=(do let v<-whole;standAt e.pos;holding [v] (truthy v)):=by intro _;rfl):PT X e (m5 G (cT f)):=PT.ee (TX h j) λp H Q l=>by obtain⟨F,m,b,d,a,R,e,k⟩:=l;refine⟨F,m,b,_,a,R,K7 e,λv c o s i r=>?_⟩;exact⟨d,r,k _ _ s i⟩
def tT(f:FT):FT:=λc=>match f c with
 |some (b,a)=>Z (!b,a)
 |none=>U
def vw(f g:FT):FT:=λb=>match f b with
 |some (γ,a)=>g a
 |r=>r
def vX(f g:FT):FT:=λb=>match f b with
 |some (δ,a)=>g a
 |r=>r
def QY(h:PT X a (m5 G f)):PT X (.UnaryOp .Not a pos) (m5 G (tT f)):=PT.ee (T2 h) λu H Q o=>by
 obtain⟨F,i,j,d,q,R,e,k⟩:=o;unfold tT at e;cases c:f i with
 |none=>simp only[c]at e;cases e
 |some p=>obtain⟨b,r⟩:=p;simp only[c]at e;cases e;exact⟨F,i,j,b,_,R,c,λl t s m=>k _ _ s m⟩
def UP:∀m H Q,m5 G (vw f g) m H Q->XD (m5 G f) (m5 G g) m H Q:=λm H Q t=>by
 obtain⟨F,j,o,d,l,R,e,k⟩:=t;unfold vw at e;cases c:f j with
 |none=>simp only[c]at e;cases e
 |some p=>
  obtain⟨b,h⟩:=p;cases b with
  |true=>simp only[c]at e;exact⟨F,j,o,γ,h,R,c,λa q s i=>IL ⟨F,h,a,d,l,i,e,λw r u R2=>k _ _ (s.t u) R2⟩⟩
  |false=>simp only[c]at e;cases e;exact⟨F,j,o,δ,_,R,c,λa q s i=>IK (k _ _ s i)⟩
def Yf:∀m H Q,m5 G (vX f g) m H Q->tOr (m5 G f) (m5 G g) m H Q:=λm H Q t=>by
 obtain⟨F,j,o,d,l,R,e,k⟩:=t;unfold vX at e;cases c:f j with
 |none=>simp only[c]at e;cases e
 |some p=>
  obtain⟨b,h⟩:=p;cases b with
  |false=>simp only[c]at e;exact⟨F,j,o,δ,h,R,c,λa q s i=>IK ⟨F,h,a,d,l,i,e,λw r u R2=>k _ _ (s.t u) R2⟩⟩
  |true=>simp only[c]at e;cases e;exact⟨F,j,o,γ,_,R,c,λa q s i=>IL (k _ _ s i)⟩
def NT(h:PT X a (m5 G f)):PW X (.BoolOp .And [a] pos) (m5 G f):=Qp h
def QZ(h:PT X a (m5 G f)):PW X (.BoolOp .Or [a] pos) (m5 G f):=TY h
def Q1{e8:List Expr}(c:PT X a (m5 G f))(d:PW X (.BoolOp .And (b::e8) pos) (m5 G g)):PW X (.BoolOp .And (a::b::e8) pos) (m5 G (vw f g)):=PW.ee (TZ c d) UP
def NU{e8:List Expr}(c:PT X a (m5 G f))(d:PW X (.BoolOp .Or (b::e8) pos) (m5 G g)):PW X (.BoolOp .Or (a::b::e8) pos) (m5 G (vX f g)):=PW.ee (XE c d) Yf
def sT(f g:FE):FE:=λb=>match f b with
 |some (.I γ,a)=>g a
 |some (.I δ,a)=>Z (.I δ,a)
 |_=>U
def M?(f g:FE):FE:=λb=>match f b with
 |some (.I δ,a)=>g a
 |some (.I γ,a)=>Z (.I γ,a)
 |_=>U
def EY(f:FE):FE:=λc=>match f c with
 |some (.I b,a)=>Z (.I !b,a)
 |_=>U
def C'(c:FT)(f g:FE):FE:=λb=>match c b with
 |some (γ,a)=>f a
 |some (δ,a)=>g a
 |none=>U
def UQ{b}(h:PE X a (tF G f)):PE X (.BoolOp b [a] pos) (tF G f):=T3 h
def IR{f:FE}{ρ:aO}:(∃a,f ρ=Z (.I γ,a))\/(∃a,f ρ=Z (.I δ,a))\/(∀b a,f ρ≠Z (.I b,a)):=by
 by_cases c:∃a,f ρ=Z (.I γ,a)
 .exact .inl c
 by_cases d:∃a,f ρ=Z (.I δ,a)
 .exact .inr (.inl d)
 refine .inr (.inr λb a z=>?_);cases b with
 |true=>exact c ⟨a,z⟩
 |false=>exact d ⟨a,z⟩
set_option tactic.hygienic true
def Mx(h:∀b a,f ρ≠Z (.I b,a)):sT f g ρ=U:=by
 unfold sT;split
 .rename_i e;exact ar e (h _ _)
 .rename_i e;exact ar e (h _ _)
 .rfl
def NV(h:∀b a,f ρ≠Z (.I b,a)):M? f g ρ=U:=by
 unfold M?;split
 .rename_i e;exact ar e (h _ _)
 .rename_i e;exact ar e (h _ _)
 .rfl
set_option tactic.hygienic false
def UR{e8:List Expr}(u:PE X a (tF G f))(w:PE X (.BoolOp .And (b::e8) pos) (tF G g)):PE X (.BoolOp .And (a::b::e8) pos) (tF G (sT f g)):=PE.ee (T4 u w) λC H Q x=>by
 obtain⟨F,i,p,d,o,R,e,k⟩:=x;rcases IR (f:=f) (ρ:=i)with ⟨h,c⟩|⟨h,c⟩|c
 .have m:=by unfold sT at e;simp only[c]at e;exact e
  refine⟨F,i,p,_,h,R,c,λv q j s l r=>?_⟩;refine⟨γ,r,?_⟩;exact IL ⟨F,h,q,d,o,l,m,λv B t A R2 z=>k _ _ _ (s.t A) R2 z⟩
 .have m:=by unfold sT at e;simp only[c]at e;exact e
  cases m;refine⟨F,i,p,_,_,R,c,λv q j s l r=>?_⟩;have y:=r;refine⟨δ,y,?_⟩;exact IK (k _ _ _ s l (ur δ))
 .rw[Mx c]at e;cases e
def Yg{e8:List Expr}(u:PE X a (tF G f))(w:PE X (.BoolOp .Or (b::e8) pos) (tF G g)):PE X (.BoolOp .Or (a::b::e8) pos) (tF G (M? f g)):=PE.ee (XI u w) λB H Q x=>by
 obtain⟨F,i,p,d,o,R,e,k⟩:=x;rcases IR (f:=f) (ρ:=i)with ⟨h,c⟩|⟨h,c⟩|c
 .have m:=by unfold M? at e;simp only[c]at e;exact e
  cases m;refine⟨F,i,p,_,_,R,c,λv q j s l r=>?_⟩;refine⟨γ,r,?_⟩;exact IL (k _ _ _ s l (ur γ))
 .have m:=by unfold M? at e;simp only[c]at e;exact e
  refine⟨F,i,p,_,h,R,c,λv q j s l r=>?_⟩;refine⟨δ,r,?_⟩;exact IK ⟨F,h,q,d,o,l,m,λv A t z R2 y=>k _ _ _ (s.t z) R2 y⟩
 .rw[NV c]at e;cases e
set_option tactic.hygienic true
def US(l:PE X a (tF G f)):PE X (.UnaryOp .Not a pos) (tF G (EY f)):=PE.ee (T5 l) λu H Q m=>by
 obtain⟨F,o,c,d,p,R,e,k⟩:=m;unfold EY at e;split at e
 .rename_i b q j;cases e;refine⟨F,o,c,_,_,R,j,λv t h s i r=>?_⟩;exact⟨b,r,k _ _ _ s i (ur _)⟩
 .cases e
set_option tactic.hygienic false
def Yh(B:PT X c (m5 G h))(z:PE X a (tF G f))(A:PE X b (tF G g)):PE X (.IfExp c a b pos) (tF G (C' h f g)):=PE.ee (Nj B z A) λE H Q C=>by
 obtain⟨F,u,w,d,j,R,e,k⟩:=C;unfold C' at e;cases l:h u with
 |none=>simp only[l]at e;cases e
 |some p=>
  obtain⟨b,i⟩:=p;refine⟨F,u,w,b,i,R,l,λr x s t=>?_⟩;cases b with
  |true=>simp only[l]at e;exact IL ⟨F,i,r,d,j,t,e,λv y m q R2 o=>k _ _ _ (s.t q) R2 o⟩
  |false=>simp only[l]at e;exact IK ⟨F,i,r,d,j,t,e,λv y m q R2 o=>k _ _ _ (s.t q) R2 o⟩
noncomputable def rK:FA:=λa=>Z ([],a)
noncomputable def ax(f:FE) (g:FA):FA:=λe=>match f e with
 |some (d,a)=>match g a with
  |some (c,b)=>Z (d::c,b)
  |none=>U
 |none=>U
def J8(h:ax f g i=Z (j,c)):∃d r a,f i=Z (d,a)/\g a=Z (r,c)/\j=d::r:=by
 unfold ax at h;cases e:f i with
 |none=>rw[e]at h;cases h
 |some p=>
  obtain⟨x,a⟩:=p;simp only[e]at h;cases b:g a with
  |none=>simp only[b]at h;cases h
  |some q=>obtain⟨y,l⟩:=q;simp only[b]at h;cases h;exact⟨x,y,a,J,b,J⟩
def vG:PA X [] (vj G rK):=PA.ee wU λh H Q a=>by obtain⟨F,f,c,d,b,R,e,k⟩:=a;cases e;exact k _ _ _ (ro.refl _) R rW
def uu(t:PE X e (tF G f))(w:PA X b (vj G g))(y:aw (e::b) X.b'=(δ,eval e X.b')::aw b X.b':=by rfl):PA X (e::b) (vj G (ax f g)):=PA.ee (uh t w y) λE H Q u=>by obtain⟨F,A,i,d,c,R,e,k⟩:=u;obtain⟨x,r,a,p,q,rfl⟩:=J8 e;exact⟨F,A,i,x,a,R,p,λv j l s o z=>⟨F,a,j,r,c,o,q,λC B m h R2 rs=>k _ _ _ (s.t h) R2 (sd (ef.mono h _ _ z) rs)⟩⟩
def rN(g:FA):FE:=λc=>match g c with
 |some (b,a)=>if b.length<=1000 then Z (.ea b,a)else U
 |none=>U
def rB(g:FA):FA:=λc=>match g c with
 |some (b,a)=>if b.length<=1000 then Z (b,a)else U
 |none=>U
set_option tactic.hygienic true
def UT{q}(h:PA X l (vj G g)):PE X (.Tuple l q pos) (tF G (rN g)):=PE.ee (Ny h) λy H Q m=>by
 obtain⟨F,f,i,d,r,R,e,k⟩:=m;unfold rN at e;cases b:g f with
 |none=>simp only[b]at e;cases e
 |some p=>
  obtain⟨w,t⟩:=p;simp only[b]at e;split at e
  .rename_i o;cases e;refine⟨F,f,i,_,_,R,b,λx u j s a rs=>⟨by rw[<-q9 rs];exact uq o,λp c=>?_⟩⟩;exact k _ _ _ (s.t (rp (a.ff c) _)) (a.Bx c _) (As (fy.of rb) (b?.mono (rp (a.ff c) _) _ _ rs))
  .cases e
def Q2(h:PA X l (vj G g)):PE X (.List l pos) (G? G (rB g)):=PE.ee (JX h) λx H Q m=>by
 obtain⟨F,f,i,d,q,R,e,k⟩:=m;unfold rB at e;cases c:g f with
 |none=>simp only[c]at e;cases e
 |some p=>
  obtain⟨u,r⟩:=p;simp only[c]at e;split at e
  .rename_i o;cases e;refine⟨F,f,i,_,_,R,c,λw t j s a rs=>⟨by rw[<-q9 rs];exact uq o,λp b=>?_⟩⟩;exact k _ _ _ _ s (a.i1 b _) rb (a.ff b) (a.jj b) (a.apart b) rs
  .cases e
set_option tactic.hygienic false
def cL(g:FA):FE:=λc=>match g c with
 |some (b,a)=>Z (.b0 b,a)
 |none=>U
def Q3(h:cL g c=Z (d,b)):∃a,g c=Z (a,b)/\d=.b0 a:=by
 unfold cL at h;cases e:g c with
 |none=>simp only[e]at h;cases h
 |some p=>obtain⟨a,f⟩:=p;simp only[e]at h;cases h;exact⟨a,J,J⟩
def Yi:∀c H Q,tF G (cL g) c H Q->G? G g c H Q:=λc H Q q=>by obtain⟨F,t,f,d,b,R,e,k⟩:=q;obtain⟨l,m,rfl⟩:=Q3 e;refine⟨F,t,f,l,b,R,m,λp w u h s i r a o j rs=>?_⟩;exact k _ _ _ (s.t (rp a _)) (i.rz r a o j) (Au rb (b?.mono (rp a _) _ _ rs))
def UU(h:PE X e (G? G g)):PE X e (tF G (cL g)):=PE.ee h Yi
end
inductive K? where
 |nx (ρ:aO)|bk (ρ:aO)|ct (ρ:aO)
 |rt (d:D) (ρ:aO)
 |T (ds:aW) (ρ:aO)
abbrev FS:=aO->Option K?
def K9(G:Bg)(F:Fr)(f:Hp)(E:Ra):K?->Prop
 |.nx c=>∀b a e,ro f a->d6 G F b c a e->E.nx b e
 |.bk c=>∀b a e,ro f a->d6 G F b c a e->E.bk b e
 |.ct c=>∀b a e,ro f a->d6 G F b c a e->E.ct b e
 |.rt d c=>∀v b a e,ro f a->d6 G F b c a e->ef G a d v->E.rt v e
 |.T i c=>∀p h b a e,ro f a->d6 G F b c a e->e p=Z (.b0 h)->a p=U->F.B p=U->sx b c p->b? G a i h->E.rt (.ref p) e
def l?(G:Bg)(f:FS):TS:=λE c H=>∃F b a o,d6 G F c b a H/\f b=Z o/\K9 G F a E o/\(∀p,E.rt p=E.rt p)
def K9.J'(h:K9 G F i E o)(s:ro i j):K9 G F j E o:=by
 cases o with
 |nx f=>exact λb a c e R=>h b a c (s.t e) R
 |bk f=>exact λb a c e R=>h b a c (s.t e) R
 |ct f=>exact λb a c e R=>h b a c (s.t e) R
 |rt d f=>exact λv b a c e R=>h v b a c (s.t e) R
 |T m f=>exact λp l b a c e R=>h p l b a c (s.t e) R
def PS.ee(h:PS X e t)(w:∀E b H,d E b H->t E b H):PS X e d:=λa s b H D I c=>h a s b H D I (w _ _ _ c)
def oz.ee(h:oz X e t)(w:∀E b H,d E b H->t E b H):oz X e d:=λa s b H D I c=>h a s b H D I (w _ _ _ c)
def rG:FS:=λa=>Z (.nx a)
noncomputable def bt(f g:FS):FS:=λb=>match f b with
 |some (.nx a)=>g a
 |r=>r
section
variable{X:Cx}{G:Bg}
def UV(h:l? G rG E a H):E.nx a H:=by obtain⟨F,c,b,o,R,e,k,_⟩:=h;cases e;exact k _ _ _ (ro.refl _) R
def Q4:oz X [] (l? G rG):=oz.ee Qq λE a H h=>UV h
def NW{st:Stmt}{e8:List Stmt}(p:PS X st (l? G f))(q:oz X e8 (l? G g)):oz X (st::e8) (l? G (bt f g)):=oz.ee (EG p q) λE w H h=>by
 obtain⟨F,i,j,o,R,e,k,c⟩:=h;unfold bt at e;cases a:f i with
 |none=>simp only[a]at e;cases e
 |some r=>
  cases r with
  |nx b=>simp only[a]at e;exact⟨F,i,j,_,R,a,λt l u s m=>⟨F,b,l,o,m,e,k.J' s,c⟩,c⟩
  |bk b=>simp only[a]at e;cases e;exact⟨F,i,j,_,R,a,k,c⟩
  |ct b=>simp only[a]at e;cases e;exact⟨F,i,j,_,R,a,k,c⟩
  |rt d b=>simp only[a]at e;cases e;exact⟨F,i,j,_,R,a,k,c⟩
  |T d b=>simp only[a]at e;cases e;exact⟨F,i,j,_,R,a,k,c⟩
def Q5{st:Stmt}(a:PS X st (l? G f)):oz X [st] (l? G f):=Er a
noncomputable def rj(f:FE):FS:=λb=>match f b with
 |some (d,a)=>Z (.rt d a)
 |none=>U
noncomputable def sq(f:FA):FS:=λb=>match f b with
 |some (d,a)=>Z (.T d a)
 |none=>U
def rL{b:Type}{f:aO->Option (b×aO)}{ρ:aO}:f ρ=U\/∃d a,f ρ=Z (d,a):=by
 cases e:f ρ with
 |none=>exact .inl J
 |some p=>exact .inr ⟨p.1,p.2,J⟩
def Q6(h:PE X e (tF G f)):PS X (.Return (Z e) pos) (l? G (rj f)):=PS.ee (JL h) λE t H m=>by
 obtain⟨F,b,i,o,R,e,k,q⟩:=m;unfold rj at e;rcases rL (f:=f) (ρ:=b)with a|⟨d,c,a⟩<;>simp only[a]at e
 .cases e
 .cases e;exact⟨F,b,i,d,c,R,a,λv j p s l r=>k _ _ _ _ s l r⟩
def NX(h:PE X e (G? G f)):PS X (.Return (Z e) pos) (l? G (sq f)):=PS.ee (JL h) λE A H w=>by
 obtain⟨F,b,i,o,R,e,k,y⟩:=w;unfold sq at e;rcases rL (f:=f) (ρ:=b)with a|⟨d,c,a⟩<;>simp only[a]at e
 .cases e
 .cases e;exact⟨F,b,i,d,c,R,a,λp z j x s l m q r t u=>k _ _ _ _ _ s l m q r t u⟩
noncomputable def rq(f:FE):FS:=λb=>match f b with
 |some (_,a)=>Z (.nx a)
 |none=>U
def NY{pos:Pos}(h:PE X e (tF G f))(p:cY e U pos.line X.b'=pure δ:=by rfl):PS X (.Expr e pos) (l? G (rq f)):=PS.ee (Ho h p) λE u H m=>by
 obtain⟨F,b,i,o,R,e,k,t⟩:=m;unfold rq at e;rcases rL (f:=f) (ρ:=b)with a|⟨d,c,a⟩<;>simp only[a]at e
 .cases e
 .cases e;exact⟨F,b,i,d,c,R,a,λv j q s l r=>k _ _ _ s l⟩
noncomputable def fu(c:FT) (f g:FS):FS:=λb=>match c b with
 |some (γ,a)=>f a
 |some (δ,a)=>g a
 |none=>U
def UW(w:PT X c (m5 G h))(t:oz X a (l? G f))(u:oz X b (l? G g)):PS X (.If c a b pos) (l? G (fu h f g)):=PS.ee (XN w t u) λE z H x=>by
 obtain⟨F,m,r,o,R,e,k,q⟩:=x;unfold fu at e;rcases rL (f:=h) (ρ:=m)with l|⟨d,i,l⟩
 .simp only[l]at e;cases e
 .refine⟨F,m,r,d,i,R,l,λj y s p=>?_⟩;cases d with
  |true=>simp only[l]at e;exact IL ⟨F,i,j,o,p,e,k.J' s,q⟩
  |false=>simp only[l]at e;exact IK ⟨F,i,j,o,p,e,k.J' s,q⟩
abbrev FG:=D->aO->Option aO
def tFG(G:Bg)(n:Nat)(g:FG):TG:=λv f H Q=>∃F e c d b,d6 G F f e c H/\ef G c d v/\g d e=Z b/\∀a,a.drop n=f.drop n->d6 G F a b c H->Q a H
def NZ(G:Bg)(n:Nat)(g:aW->aO->Option aO):TGs:=λh f H Q=>∃F e c d b,d6 G F f e c H/\b? G c d h/\g d e=Z b/\∀a,a.drop n=f.drop n->d6 G F a b c H->Q a H
def PG.ee(h:PG X e t)(w:∀v b H Q,d v b H Q->t v b H Q):PG X e d:=λa s b H x u Q I r c=>h a s b H x u Q I r (w _ _ _ _ c)
def N?.ee(h:N? X e t)(w:∀v b H Q,d v b H Q->t v b H Q):N? X e d:=λa s b H x u Q I r c=>h a s b H x u Q I r (w _ _ _ _ c)
def gN(i:Nat):FG:=λd a=>Z (a.set i (.q d))
def IS{a:Type}{l:List a}{i n:Nat}{x:a}(h:i<n):(l.set i x).drop n=l.drop n:=by apply mJ;intro j;rw[dt,dt,b8,ak (by omega)]
def N0(n:Nat)(h:PG X c (wQ i))(b:i<n):PG X c (tFG G n (gN i)):=PG.ee h λv m H Q a=>by obtain⟨F,l,j,d,f,R,r,e,k⟩:=a;cases e;exact k _ (IS b) (R.setIm i r)
def zv:aW->aO->Option aO:=λa b=>match a with
 |[]=>Z b
 |_=>U
def rP(g:FG)(c:aW->aO->Option aO):aW->aO->Option aO:=λb e=>match b with
 |d::r=>match g d e with
  |some a=>c r a
  |none=>U
 |[]=>U
def Q7(h:N? X [] XO):N? X [] (NZ G n zv):=N?.ee h λv j H Q b=>by
 obtain⟨F,i,f,a,c,R,r,e,k⟩:=b;cases a with
 |nil=>cases e;unfold b? at r;exact⟨r,k _ J R⟩
 |cons d a=>cases e
def N1(h:N? X (e::p) (SX (tFG G n g) (NZ G n q))):N? X (e::p) (NZ G n (rP g q)):=N?.ee h λv B H Q t=>by
 obtain⟨F,l,j,c,i,R,r,e,k⟩:=t;cases c with
 |nil=>cases e
 |cons d c=>
  obtain⟨z,x,rfl,u,w⟩:=r;unfold rP at e;cases f:g d l with
  |none=>simp only[f]at e;cases e
  |some a=>simp only[f]at e;exact⟨z,x,J,F,l,j,d,a,R,u,f,λA s o=>⟨F,a,j,c,i,o,w,e,λm y b=>k _ (y.t s) b⟩⟩
def gT(b:aW->aO->Option aO)(n:Nat):FG:=λd c=>match d with
 |.ea a=>if a.length=n then b a c else U
 |_=>U
set_option tactic.hygienic true
def Q8(h:PG X (.Tuple j k pos) (T6 G.K m (NZ G n l))):PG X (.Tuple j k pos) (tFG G n (gT l m)):=PG.ee h λv w H Q p=>by
 obtain⟨F,u,f,d,b,R,r,e,k⟩:=p;cases d with
 |ea i=>
  unfold gT at e;simp only at e;split at e
  .rename_i q;obtain⟨a,t,rfl,o,c⟩:=r;exact⟨a,t,J,fy.mono R.sub o,by rw[<-q9 c];exact q,F,u,f,i,b,R,c,e,k⟩
  .cases e
 |_=>cases e
set_option tactic.hygienic false
def EZ(f:FE)(g:FG):FS:=λc=>match f c with
 |some (d,a)=>match g d a with
  |some b=>Z (.nx b)
  |none=>U
 |none=>U
def Q9{st:Stmt}(h:PS X st (BB (tF G f) (tFG G n g))):PS X st (l? G (EZ f g)):=PS.ee h λE x H q=>by
 obtain⟨F,j,m,o,R,e,k,w⟩:=q;unfold EZ at e;rcases rL (f:=f) (ρ:=j)with c|⟨d,a,c⟩<;>simp only[c]at e
 .cases e
 .cases i:g d a with
  |none=>simp only[i]at e;cases e
  |some l=>simp only[i]at e;cases e;exact⟨F,j,m,d,a,R,c,λv b u s p r=>⟨F,a,b,d,l,p,r,i,λt z R2=>k _ _ _ s R2⟩⟩
def rO(i:Nat)(f:FE):FS:=λb=>match f b with
 |some (d,a)=>Z (.nx (a.set i (.q d)))
 |none=>U
def La{st:Stmt}(h:PS X st (BB (tF G f) (wQ i))):PS X st (l? G (rO i f)):=PS.ee h λE u H p=>by
 obtain⟨F,b,j,o,R,e,k,t⟩:=p;unfold rO at e;rcases rL (f:=f) (ρ:=b)with a|⟨d,c,a⟩<;>simp only[a]at e
 .cases e
 .cases e;exact⟨F,b,j,d,c,R,a,λv l q s m r=>k _ _ _ s (m.setIm i r)⟩
def sZ(i:Nat)(f:FA):FS:=λb=>match f b with
 |some (d,a)=>Z (.nx (a.set i (.J d)))
 |none=>U
def IT{st:Stmt}(h:PS X st (BB (G? G f) (wQ i))):PS X st (l? G (sZ i f)):=PS.ee h λE B H x=>by
 obtain⟨F,b,j,o,R,e,k,z⟩:=x;unfold sZ at e;rcases rL (f:=f) (ρ:=b)with a|⟨d,c,a⟩<;>simp only[a]at e
 .cases e
 .cases e;exact⟨F,b,j,d,c,R,a,λp A l y s m q r t u w=>k _ _ _ s (m.setLs i q r t u w)⟩
def C?(n:Nat)(a:aW):aO:=a.map Sl.q++iP (n - a.length) .un
def e0(b n:Nat)(f:FS):aW->Option D:=λa=>if a.length=b then match f (C? n a)with
 |some (.rt d _)=>Z d
 |some (.T a _)=>Z (.b0 a)
 |some (.nx _)=>Z .E
 |_=>U
 else U
def pk(b n:Nat)(f:FS):aW->Option aW:=λa=>if a.length=b then match f (C? n a)with
 |some (.T a _)=>Z a
 |_=>U
 else U
def e?(G:Bg)(g:aW->Option D):Sp:=λh H Q z=>∃c f d,ro c H/\b? G c f h/\g f=Z d/\
 ∀v a e,ro c a->ro a e->ro H e->(∀b o,a b=Z o->c b=Z o\/H b=U)->ef G a d v->Q v e
def q0(G:Bg)(g:aW->Option aW):Sp:=λi H Q z=>∃e f d,ro e H/\b? G e f i/\g f=Z d/\
 ∀p h a c,ro e a->ro a c->ro H c->(∀b o,a b=Z o->e b=Z o\/H b=U)->H p=U->c p=Z (.b0 h)->a p=U->b? G a d h->Q (.ref p) c
def HG{n:Nat}{b:aW}{i:Nat}{s:Sl}(h:(C? n b)[i]?=Z s):s=.un\/∃d,b[i]?=Z d/\s=.q d:=by
 unfold C? at h;by_cases a:i<b.length
 .rw[eA (by simpa using a),bp,bb a]at h;cases h;exact .inr ⟨_,bb a,J⟩
 .rw[eh (by simpa using a),ib]at h;split at h
  .cases h;exact .inl J
  .cases h
def CD{N:aE}{a:bD}{i:Nat}{v:V}(h:a[i]?=Z v):((L2.start N a)[i]?).join=Z v:=by unfold L2.start;have b:=(bZ.1 h).1;rw[eA (by simpa using b),bp,h];rfl
def GF{N:aE}(s:ro H0 H)(r:b? G H0 ds vs)(p:vs.length<=N.length):d6 G ⟨H0,H,[]⟩ (L2.start N vs) (C? N.length ds) H0 H where
 sub:=s
 g0:=ro.refl _
 keep:=λb o e z=>e
 fr:=λb o e=>.inl e
 am:=λa h=>by cases h
 len:=by unfold L2.start C?;rw[au,au,ae,ae,cR,cR,q9 r]
 sl:=λi t e=>by
  rcases HG e with rfl|⟨d,c,rfl⟩
  .trivial
  .obtain⟨v,f,l⟩:=yh r c;exact⟨v,CD f,l⟩
 ap:=λi j t u a z e z m=>by rcases HG e with rfl|⟨d,_,rfl⟩<;>cases m
set_option tactic.hygienic true
def IU(h:e0 j n f b=Z d):b.length=j/\((∃a,f (C? n b)=Z (.rt d a))\/(∃c a,f (C? n b)=Z (.T c a)/\d=.b0 c)\/∃a,f (C? n b)=Z (.nx a)/\d=.E):=by
 unfold e0 at h;split at h
 .rename_i i;refine⟨i,?_⟩;split at h
  .rename_i e;cases h;exact .inl ⟨_,e⟩
  .rename_i e;cases h;exact .inr (.inl ⟨_,_,e,J⟩)
  .rename_i e;cases h;exact .inr (.inr ⟨_,e,J⟩)
  .cases h
 .cases h
def IV(h:pk c n f a=Z d):a.length=c/\∃i,f (C? n a)=Z (.T d i):=by
 unfold pk at h;split at h
 .rename_i b;refine⟨b,?_⟩;split at h
  .rename_i e;cases h;exact⟨_,e⟩
  .cases h
 .cases h
end
set_option tactic.hygienic false
def Rb{N:aE}(hN:I<=N.length)(h:e? G (e0 I N.length f) O H Q E):l? G f { nx:=λ_ c=>Q .E c,rt:=Q } (L2.start N O) H:=by
 obtain⟨l,P,d,s,r,e,k⟩:=h;obtain⟨C,A⟩:=IU e;clear e;have R:=GF s r (by rw[<-q9 r,C];exact hN);have fin:∀{j:St} {x:aO} {a c:Hp},d6 G ⟨l,H,[]⟩ j x a c->ro H c/\ro a c/\∀b o,a b=Z o->l b=Z o\/H b=U:=λi=>⟨λb o e=>i.keep b o e (by simp),i.sub,i.fr⟩;rcases A with ⟨y,e⟩|⟨S,y,e,rfl⟩|⟨y,e,rfl⟩
 .refine⟨_,_,l,_,R,e,λv j a c u i M=>?_,λ_=>J⟩;obtain⟨m,q,t⟩:=fin i;exact k v a c u q m t M
 .refine⟨_,_,l,_,R,e,λp T j a c u i F w B z rs=>?_,λ_=>J⟩;have R2:=i.rz F w B z;obtain⟨m,q,t⟩:=fin R2;exact k _ _ c (u.t (rp w _)) q m t (Au rb (b?.mono (rp w _) _ _ rs))
 .refine⟨_,_,l,_,R,e,λj a c u i=>?_,λ_=>J⟩;obtain⟨m,q,t⟩:=fin i;exact k _ a c u q m t wB
def Re{N:aE}(hN:u<=N.length)(h:q0 G (pk u N.length f) x H Q E):l? G f { nx:=λ_ a=>Q .E a,rt:=Q } (L2.start N x) H:=by obtain⟨j,B,d,s,r,e,k⟩:=h;obtain⟨q,C,e⟩:=IV e;have R:=GF s r (by rw[<-q9 r,q];exact hN);refine⟨_,_,j,_,R,e,λp y z c a w i t l m A rs=>?_,λ_=>J⟩;exact k p y c a w i.sub (λb o e=>i.keep b o e (by simp)) i.fr m t l rs
def Yj(c:∀a d,g a=Z d->a.length=f):∀b H Q E,e? G g b H Q E->b.length=f:=λb H Q E h=>by obtain⟨i,a,d,_,r,e,_⟩:=h;rw[<-q9 r];exact c _ _ e
def Yk(c:∀a d,g a=Z d->a.length=f):∀b H Q E,q0 G g b H Q E->b.length=f:=λb H Q E h=>by obtain⟨i,a,d,_,r,e,_⟩:=h;rw[<-q9 r];exact c _ _ e
def Rf:∀a d,e0 b n f a=Z d->a.length=b:=λz z h=>(IU h).1
def Rg:∀a d,pk b n f a=Z d->a.length=b:=λz z h=>(IV h).1
def CG{c:Type}(g:aW->Option c)(a:FA):aO->Option (c×aO):=λf=>match a f with
 |some (e,b)=>match g e with
  |some d=>Z (d,b)
  |none=>U
 |none=>U
abbrev qY(g:aW->Option D)(a:FA):FE:=CG g a
abbrev sQ(g:aW->Option aW)(a:FA):FA:=CG g a
def Bb{j:Type}{g:aW->Option j}{a:FA}{ρ c:aO}{d:j}(h:CG g a ρ=Z (d,c)):∃b,a ρ=Z (b,c)/\g b=Z d:=by
 unfold CG at h;rcases rL (f:=a) (ρ:=ρ)with e|⟨b,l,e⟩<;>simp only[e]at h
 .cases h
 .cases i:g b with
  |none=>simp only[i]at h;cases h
  |some x=>simp only[i]at h;cases h;exact⟨b,e,i⟩
section
variable{X:Cx}{G:Bg}
def Rh(hd:∀H,b? G H dds dvs):∀h H Q,tF G (qY (λb=>g (b++dds)) a) h H Q->EK (e? G g) dvs E (vj G a) h H Q:=λh H Q t=>by obtain⟨F,y,l,d,f,R,e,k⟩:=t;obtain⟨b,q,r⟩:=Bb e;refine⟨F,y,l,b,f,R,q,λz m o s i rs=>⟨m,b++dds,d,i.sub,sV rs (hd _),r,λv p c j w x fr u=>?_⟩⟩;exact k v p c (s.t j) (i.f5 x j w fr) u
def Rj(hd:∀H,b? G H dds dvs):∀i H Q,G? G (sQ (λc=>g (c++dds)) a) i H Q->EK (q0 G g) dvs E (vj G a) i H Q:=λi H Q x=>by obtain⟨F,I,m,d,h,R,e,k⟩:=x;obtain⟨c,t,u⟩:=Bb e;refine⟨F,I,m,c,h,R,t,λM o q s b rs=>⟨o,c++dds,d,b.sub,sV rs (hd _),u,λp C r f l A B fr j y w z=>?_⟩⟩;exact k p C r f (s.t l) (b.f5 B l A fr) y w (b.jj j) (b.apart j) z
end
section
variable{X:Cx}{G:Bg}
def Rk(hd:∀H,b? G H dds dvs)(h:PE X e (EK (e? G g) dvs E (vj G a))):PE X e (tF G (qY (λb=>g (b++dds)) a)):=PE.ee h (Rh hd)
def N2(hd:∀H,b? G H dds dvs)(h:PE X e (EK (q0 G g) dvs E (vj G a))):PE X e (G? G (sQ (λb=>g (b++dds)) a)):=PE.ee h (Rj hd)
def My(h:PE X e (EK (q0 G g) [] E F8)):PE X e (G? G (sQ g rK)):=PE.ee h λA H Q o=>by obtain⟨F,z,f,d,x,R,e,k⟩:=o;obtain⟨y,j,l⟩:=Bb e;cases j;exact⟨f,[],d,R.sub,rW,l,λp w i a c t u fr b q m r=>k p w i a c (R.f5 u c t fr) q m (R.jj b) (R.apart b) r⟩
def Mz:aE->aW->Str->Option D
 |n::b,d::a,f=>if n=f then Z d else Mz b a f
 |_,_,_=>U
theorem GH:∀{h:aE} {b:aW} {a:bD} {f:Str} {d:D},b? G H b a->Mz h b f=Z d->∃v,(h.zip a).lookup f=Z v/\ef G H d v
 |[],b,a,f,d,r,e=>by simp[Mz]at e
 |n::h,[],a,f,d,r,e=>by simp[Mz]at e
 |n::h,p::b,a,f,d,r,e=>by
  obtain⟨v,q,rfl,l,m⟩:=r;unfold Mz at e;by_cases c:n=f
  .rw[aj c]at e;cases e;subst c;exact⟨v,by simp[c5],l⟩
  .rw[ak c]at e;obtain⟨w,i,j⟩:=GH m e;refine⟨w,?_,j⟩;have o:=beq_eq_false_iff_ne.2 λz=>c z.symm;simp only[dO,c5,o];exact i
def ra(ok:Nat->Bool)(f:Str):D->Option D
 |.obj c b a=>if ok c=γ then Mz b a f else U
 |_=>U
set_option tactic.hygienic true
def N3(A:PE X e (tF G t))(j:∀c,ok c=γ->Ms X.K (G.ca c)/\xT X.K (G.ca c) f)(z:du e f X.b' (eval e X.b')=eval e X.b':=by rfl):PE X (.Attribute e f pos) (tF G (c1 (ra ok f) t)):=PE.ee (Up A z) λT H Q B=>by
 obtain⟨F,I,m,d,h,R,e,k⟩:=B;obtain⟨x,q,b⟩:=BL e;cases x with
 |obj c P N=>
  unfold ra at b;simp only at b;split at b
  .rename_i l;refine⟨F,I,m,_,h,R,q,λv M o s i r=>?_⟩;obtain⟨a,p,S,rfl,u,O,y⟩:=r;obtain⟨w,C,E⟩:=GH y b;exact⟨a,_,p,_,w,J,i.sub _ _ u,(j c l).1,(j c l).2,C,k _ _ _ s i E⟩
  .cases b
 |_=>cases b
set_option tactic.hygienic false
def MOk(X:Cx)(C:Addr)(m:Str)(d:Sp)(dvs:bD)(E:XK):Prop:=∃(k:Nat) (f:Addr) (b:bP) (c:aE) (a:List ab),Ms X.K C/\Meth X.K C m f/\vv X.prog X.w X.K X.mg X.b1 Dk k f b c d/\tR k X.A/\ki X.K b c a/\eg dvs a/\o? Dk X E
def se(g:Nat->Option (aW->Option D))(m:Str)(f:FE)(a:FA):FE:=λo=>match f o with
 |some (.obj c i j,b)=>match g c with
  |some h=>if i.contains m=γ then U else match a b with
   |some (l,e)=>match h (.obj c i j::l)with
    |some d=>Z (d,e)
    |none=>U
   |none=>U
  |none=>U
 |_=>U
set_option tactic.hygienic true
def E1(h:se g m f a ρ=Z (d,t)):
  ∃c e i b l j,f ρ=Z (.obj c e i,b)/\g c=Z l/\e.contains m=δ/\a b=Z (j,t)/\l (.obj c e i::j)=Z d:=by
 unfold se at h;split at h
 .rename_i c e i b u;cases o:g c with
  |none=>simp only[o]at h;cases h
  |some l=>
   simp only[o]at h;cases p:e.contains m with
   |true=>simp only[p,if_true]at h;cases h
   |false=>
    simp only[p,ir,if_false]at h;rcases rL (f:=a) (ρ:=b)with q|⟨j,w,q⟩<;>simp only[q]at h
    .cases h
    .cases r:l (.obj c e i::j)with
     |none=>simp only[r]at h;cases h
     |some x=>simp only[r]at h;cases h;exact⟨c,e,i,b,l,j,u,o,p,q,r⟩
 .cases h
set_option tactic.hygienic false
theorem yI:∀{a:aE} {b:bD},a.contains m=δ->(a.zip b).lookup m=U
 |[],b,h=>rfl
 |n::a,[],h=>rfl
 |n::a,x::b,h=>by rw[mB,jy]at h;simp only[dO,c5,h.1];exact yI h.2
def N4(T:Addr->Sp->Prop)(hT:∀C d,T C d->MOk X C m d dvs E)(W:PE X o ta)(R:PA X (e::i) t)
  (hst:aw (e::i) X.b'=(δ,eval e X.b')::aw i X.b':=by rfl) (hpl:(bC pos (aw i X.b')).any (·.1)=δ:=by rfl)
  (w:eval (.Call (.Attribute o m apos) (e::i) [] pos) X.b'=(do
   let N<-eval o X.b'
   standAt apos.atName
   let (f,first)<-holding [N] (getMethod N m pl)
   callWith pos f first (bC pos (aw (e::i) X.b')) (backToKw pos (cW [] X.b'))):=by rfl):
  PE X (.Call (.Attribute o m apos) (e::i) [] pos) (λj H Q=>ta j H λx p=>∃a C B fs d,x=.ref a/\p a=Z (.ll C B fs)/\T C d/\fs.lookup m=U/\t j p λvs y=>d (x::(vs++dvs)) y Q E):=by
 intro b s j H Q I h;refine ng (fg (W b s j H _ I h) λu s1 zz=>?_) w;obtain⟨x,p,z,rx,a,C,B,fs,d,P,O,w,l,q⟩:=zz;obtain⟨k,f,fd,ps,ds,c,M,F,Y,S,hd,hx⟩:=hT C d w;subst P;obtain rfl:u=Value.ref a:=rx;refine EJ z O c M l ?_;refine kj I.ok.B?.kin M.kp (fg (R pos b s1 j p _ z q) λus s2 ⟨vs,y,A,r,q2⟩=>⟨A.nq,?_⟩) hst hpl;exact Ht (vs:=.ref a::vs) F Y S hd hx A (.cons J r) q2
def GK(T:Addr->Sp->Prop)(hT:∀C b,T C b->MOk X C m b dvs E)(B:PE X o P)
  (j:eval (.Call (.Attribute o m apos) [] [] pos) X.b'=(do
   let w<-eval o X.b'
   standAt apos.atName
   let (f,first)<-holding [w] (getMethod w m pl)
   callWith pos f first (bC pos (aw [] X.b')) (backToKw pos (cW [] X.b'))):=by rfl):
  PE X (.Call (.Attribute o m apos) [] [] pos) (λp H Q=>P p H λx e=>∃a C r fs b,x=.ref a/\e a=Z (.ll C r fs)/\T C b/\fs.lookup m=U/\b (x::dvs) e Q E):=by
 intro d s p H Q I h;refine ng (fg (B d s p H _ I h) λu Y zz=>?_) j;obtain⟨x,e,i,O,a,C,r,fs,b,z,y,j,l,q⟩:=zz;obtain⟨k,f,S,W,R,c,t,F,M,A,hd,N⟩:=hT C b j;subst z;obtain rfl:u=Value.ref a:=O;refine EJ i y c t l ?_;exact j4 i.nq t.kp (Ht (vs:=[.ref a]) F M A hd N i (.cons J .nil) q)
def MT(G:Bg)(g:Nat->Option (aW->Option D)):Addr->Sp->Prop:=λC a=>∃c h,g c=Z h/\C=G.ca c/\a=e? G h
def Rl(h:PE X (.Call (.Attribute o m apos) (e::es) [] pos) (λz H Q=>tF G f z H λx j=>∃b C u fs I,x=.ref b/\j b=Z (.ll C u fs)/\MT G g C I/\fs.lookup m=U/\vj G a z j λvs p=>I (x::(vs++[])) p Q E)):
  PE X (.Call (.Attribute o m apos) (e::es) [] pos) (tF G (se g m f a)):=PE.ee h λz H Q l=>by
 obtain⟨F,ρ,N,d,y,R,e,k⟩:=l;obtain⟨c,ns,ds,i,l,w,S,T,W,Y,e5⟩:=E1 e;refine⟨F,ρ,N,_,i,R,S,λv j O s A r=>?_⟩;have r0:=r;obtain⟨b,u,xs,rfl,h1,h2,h3⟩:=r;refine⟨b,_,u,_,_,J,A.sub _ _ h1,⟨c,l,T,J,J⟩,yI W,F,i,j,w,y,A,Y,λys p q B R2 rs=>?_⟩;show e? G l (V.ref b::(ys++[])) q Q E;rw[bI];exact⟨p,_,d,R2.sub,sd (ef.mono B _ _ r0) rs,e5,λv P t M t2 t3 fr rv=>k v P t (s.t (B.t M)) (R2.f5 t3 M t2 fr) rv⟩
def N5(h:PE X (.Call (.Attribute o m apos) [] [] pos) (λu H Q=>tF G f u H λx a=>∃b C l fs q,x=.ref b/\a b=Z (.ll C l fs)/\MT G g C q/\fs.lookup m=U/\q (x::[]) a Q E)):
  PE X (.Call (.Attribute o m apos) [] [] pos) (tF G (se g m f rK)):=PE.ee h λu H Q p=>by
 obtain⟨F,ρ,w,d,ρ',R,e,k⟩:=p;obtain⟨c,ns,ds,ρ1,p,O,A,B,I,M,N⟩:=E1 e;cases M;refine⟨F,ρ,w,_,_,R,A,λv a y s j r=>?_⟩;have S:=r;obtain⟨b,l,xs,rfl,P,h2,h3⟩:=r;refine⟨b,_,l,_,_,J,j.sub _ _ P,⟨c,p,B,J,J⟩,yI I,?_⟩;exact⟨a,_,d,j.sub,sd S rW,N,λv z i t W Y fr T=>k v z i (s.t t) (j.f5 Y t W fr) T⟩
def spI(G:Bg)(c:Nat)(g:aW->Option (aE×aW)):Sp:=λr H Q z=>∃(p q:Addr) (m:bD) (d:Hp) (j:aW) (h:aE) (l:aW),r=.ref p::m/\H p=Z (.ll (G.ca c) q [])/\d p=U/\ro d H/\b? G d j m/\g j=Z (h,l)/\
 ∀i f a e,ro d a->ro a e->(∀b o,H b=Z o->b≠p->e b=Z o)->(∀b o,a b=Z o->d b=Z o\/H b=U)->a p=U->e p=Z (.ll (G.ca c) f (h.zip i))->h.length=i.length->b? G a l i->Q .E e
def rJ(c:Nat)(g:aW->Option (aE×aW))(a:FA):FE:=λh=>match a h with
 |some (d,b)=>match g d with
  |some (f,e)=>Z (.obj c f e,b)
  |none=>U
 |none=>U
def Rm(hd:∀H,b? G H dds dvs)(h:PE X e (SZ (G.ca c) (spI G c g) dvs E (vj G a))):PE X e (tF G (rJ c (λm=>g (m++dds)) a)):=PE.ee h λσ H Q hh=>by
 obtain⟨F,N,T,d,O,R,e,k⟩:=hh;unfold rJ at e;rcases rL (f:=a) (ρ:=N)with y|⟨m,ρ1,y⟩<;>simp only[y]at e
 .cases e
 .cases A:g (m++dds)with
  |none=>simp only[A]at e;cases e
  |some q=>
   obtain⟨ns,es⟩:=q;simp only[A]at e;cases e;refine⟨F,N,T,m,O,R,y,λxs P j s l rs x r p hdx ne=>?_⟩;have I:(e3 j r (.gi x)) x=U:=by rw[rg (λz=>ne z.symm)];exact p
   have M:ro j (e3 (e3 j r (.gi x)) x (.ll (G.ca c) r [])):=(rp hdx _).t (rp I _);refine⟨x,r,_,P,m++dds,ns,es,J,rb,l.ff p,l.sub.t M,sV rs (hd _),A,λys w W Y S t2 t3 fr C hp hl ry=>⟨J,?_⟩⟩;have t4:=λb o e=>t3 b o (M b o e) (uo e p);have B:∀b o,W b=Z o->P b=Z o\/j b=U:=λb o e=>by
    rcases fr b o e with q|q
    .exact .inl q
    .cases z:j b with
     |none=>exact .inr J
     |some u=>rw[M b u z]at q;cases q
   have R2:=l.f5 t4 S t2 B;have hb:=l.jj p;have R3:=R2.rz hp C hb (λi t ei to z=>l.apart p i t ei to z);refine k _ _ _ (s.t (S.t (rp C _))) R3 ?_;exact⟨x,w,ys,J,rb,hl,b?.mono (rp C _) _ _ ry⟩
def rY(h:Nat)(i:Nat)(f:Str)(j:FE):FS:=λl=>match j l with
 |some (d,a)=>match a[i]? with
  |some (.ob c b e)=>if c=h then if b.contains f=γ then U else if e.length=b.length then if b.length<900 then Z (.nx (a.set i (.ob c (b++[f]) (e++[d]))))else U else U else U
  |_=>U
 |none=>U
theorem IW:∀{a:aE} {b:bD},a.contains f=δ->a.length=b.length->ye f v (a.zip b)=(a++[f]).zip (b++[v])
 |[],[],h,l=>rfl
 |[],x::b,h,l=>by cases l
 |n::a,[],h,l=>by cases l
 |n::a,x::b,h,l=>by
  rw[mB,jy]at h;have c:¬n=f:=λz=>by rw[z]at h;simp at h
  have d:=IW (v:=v) h.2 (by simpa using l);show ye f v ((n,x)::a.zip b)=_;rw[show ye f v ((n,x)::a.zip b)=(if n=f then (n,v)::a.zip b else (n,x)::ye f v (a.zip b)) from J,ak c,d];rfl
set_option tactic.hygienic true
def Ro{st:Stmt}(h:PS X st (XY X.K (zI i) (tF G x) f))(y:Ms X.K (G.ca p)/\xT X.K (G.ca p) f):PS X st (l? G (rY p i f x)):=PS.ee h λE σ H M=>by
 obtain⟨F,j,z,o,R,e,k,Y⟩:=M;unfold rY at e;rcases rL (f:=x) (ρ:=j)with b|⟨d,l,b⟩<;>simp only[b]at e
 .cases e
 .split at e
  .rename_i c N S t;split at e
   .rename_i hcc;subst hcc;split at e
    .cases e
    rename_i hnc;split at e
    .rename_i W;split at e
     .rename_i T;cases e;refine⟨F,j,z,d,l,R,b,λv Q A s m r=>?_⟩;obtain⟨a,q,O,u,B,C,e6,w,I⟩:=m.sl i _ t;refine⟨_,u5 u,a,_,q,_,J,B,y.1,y.2,by rw[fG];omega,?_⟩;have hnf:N.contains f=δ:=by simpa using hnc
      rw[IW hnf w];refine k _ _ _ s (m.mut t J u (λP hH=>?_) J);exact⟨a,q,O++[v],J,hH,C,e6,by rw[au,au,w];rfl,sV I (sd r rW)⟩
     .cases e
    .cases e
   .cases e
  .cases e
set_option tactic.hygienic false
def stI(c n:Nat)(a:aW):aO:=.ob c [] []::C? (n - 1) a
def tH(c h n:Nat)(f:FS):aW->Option (aE×aW):=λa=>if a.length=h then match f (stI c n a)with
 |some (.nx i)=>match (i:aO)[0]? with
  |some (Sl.ob e d b)=>if e=c then if d.length=b.length then Z (d,b)else U else U
  |_=>U
 |_=>U
 else U
set_option tactic.hygienic true
def E2(h:tH c m n f b=Z q):b.length=m/\∃a,f (stI c n b)=Z (.nx a)/\a[0]?=Z (.ob c q.1 q.2)/\q.1.length=q.2.length:=by
 unfold tH at h;split at h
 .rename_i l;refine⟨l,?_⟩;split at h
  .rename_i a e;split at h
   .rename_i o r p d;split at h
    .rename_i j;split at h
     .rename_i i;subst j;cases h;exact⟨a,e,d,i⟩
     .cases h
    .cases h
   .cases h
  .cases h
 .cases h
set_option tactic.hygienic false
def Lb{N:aE}(hN:P+1<=N.length)(h:spI G c (tH c P N.length f) vs H Q E):l? G f { nx:=λ_ H'=>Q .E H',rt:=Q } (L2.start N vs) H:=by
 obtain⟨p,dx,us,H0,ds,ns,es,rfl,A,O,s,r,e,k⟩:=h;obtain⟨hl,ρ,l,x,z⟩:=E2 e;have gets:∀{i:Nat} {t:Sl},(stI c N.length ds)[i]?=Z t->(i=0/\t=.ob c [] [])\/t=.un\/∃(j:Nat) (d:D),i=j+1/\ds[j]?=Z d/\t=.q d:=λ{i t} e=>by
  cases i with
  |zero=>cases e;exact .inl ⟨J,J⟩
  |succ j=>
   have F:=e;rcases HG F with rfl|⟨d,l,rfl⟩
   .exact .inr (.inl J)
   .exact .inr (.inr ⟨j,d,J,l,J⟩)
 have R:d6 G ⟨H0,H,[p]⟩ (L2.start N (.ref p::us)) (stI c N.length ds) H0 H:={
  sub:=s
  g0:=ro.refl _
  keep:=λb o e _=>e
  fr:=λb o e=>.inl e
  am:=λa ha=>by
   have y:=by simpa using ha
   subst y;exact⟨_,A⟩
  len:=by unfold L2.start stI C?;simp only[au,ae,cR,aF];rw[<-q9 r,jH,Nat.sub_sub,Nat.add_comm 1]
  sl:=λi t e=>by
   rcases gets e with ⟨rfl,rfl⟩|rfl|⟨j,d,rfl,l,rfl⟩
   .exact⟨p,dx,[],CD J,A,O,by simp,J,rW⟩
   .trivial
   .obtain⟨v,x,z⟩:=yh r l;exact⟨v,CD (by simpa using x),z⟩
  ap:=λi j t u a hij I M B C=>by
   rcases gets I with ⟨rfl,rfl⟩|rfl|⟨_,_,_,_,rfl⟩
   .rcases gets M with ⟨rfl,rfl⟩|rfl|⟨_,_,_,_,rfl⟩
    .exact ar J hij
    .cases C
    .cases C
   .cases B
   .cases B }
 refine⟨_,_,H0,_,R,l,λσ' q H' s' m=>?_,λ_=>J⟩;obtain⟨a,w,ys,q1,S,T,W,Y,q6⟩:=m.sl 0 _ x;have y:=by simpa using W
 subst y;exact k ys w q H' s' m.sub (λb o e n=>m.keep b o e (by simpa using n)) m.fr T S Y q6
end
def Sl.L:Sl->Option aW
 |.J a=>Z a
 |.pm a=>Z a
 |_=>U
def Sl.putL:Sl->aW->Sl
 |.pm _,a=>.pm a
 |_,a=>.J a
def Sl.vl{s:Sl}(h:s.L=Z a):s.gi=γ:=by cases s<;>first|rfl|cases h
def Sl.putL_L{s:Sl}:(s.putL a).L=Z a:=by cases s<;>rfl
section
variable{G:Bg}{F:Fr}{σ:St}{ρ:aO}{H0 H:Hp}
theorem Ba.b0{o:Option V}{s:Sl}{ds:aW}(h:Ba G F H0 H o s)(e:s.L=Z ds):∃a xs,o=Z (.ref a)/\H a=Z (.b0 xs)/\H0 a=U/\b? G H0 ds xs:=by
 cases s with
 |J b=>cases e;obtain⟨a,xs,c,d,f,j,i⟩:=h;exact⟨a,xs,c,d,f,i⟩
 |pm b=>cases e;obtain⟨a,xs,c,d,f,j,i⟩:=h;exact⟨a,xs,c,d,f,i⟩
 |_=>cases e
def d6.mutL(R:d6 G F σ ρ H0 H)(m:ρ[i]?=Z s)(o:s.L=Z w)(l:(σ[i]?).join=Z (.ref a))(r:b? G H0 d c):
  d6 G F σ (ρ.set i (s.putL d)) H0 (e3 H a (.b0 c)):=by
 have ok:=R.sl i s m;rw[l]at ok;refine R.mut m (Sl.vl o) l (λu hH=>?_) (Sl.vl Sl.putL_L);cases s with
 |J e=>obtain⟨b,t,f,p,h,j,q⟩:=ok;cases f;exact⟨a,c,J,hH,h,j,r⟩
 |pm e=>obtain⟨b,t,f,p,h,j,q⟩:=ok;cases f;exact⟨a,c,J,hH,h,j,r⟩
 |_=>cases o
end
def uv(ρ:aO)(i:Nat):Option aW:=match ρ[i]? with
 |some s=>s.L
 |none=>U
def wK(h:uv ρ i=Z a):∃s,ρ[i]?=Z s/\s.L=Z a:=by
 unfold uv at h;cases e:ρ[i]? with
 |none=>rw[e]at h;cases h
 |some s=>rw[e]at h;exact⟨s,J,h⟩
def putAt(a:aO)(i:Nat)(b:aW):aO:=match a[i]? with
 |some s=>a.set i (s.putL b)
 |none=>a
def uP(i:Nat)(f:FE):FE:=λc=>match uv c i with
 |some _=>match f c with
  |some (d,a)=>match uv a i with
   |some b=>if b.length<1000 then Z (.E,putAt a i (b++[d]))else U
   |none=>U
  |none=>U
 |none=>U
section
variable{X:Cx}{G:Bg}
def vM(R:d6 G F m ρ e H)(h:uv ρ i=Z o):∃a d,m[i]?=Z (Z (.ref a))/\H a=Z (.b0 d)/\b? G e o d/\
  (∀b c,b? G e b c->d6 G F m (putAt ρ i b) e (e3 H a (.b0 c))):=by
 obtain⟨s,f,j⟩:=wK h;obtain⟨a,d,l,p,q,e6⟩:=(R.sl i s f).b0 j;refine⟨a,d,u5 l,p,e6,λb c r=>?_⟩;unfold putAt;rw[f];exact R.mutL f j l r
set_option tactic.hygienic true
def MA(h:PE X e (tBM G.K "list" HC (zI i) (vj G (ax f rK)))):PE X e (tF G (uP i f)):=PE.ee h λσ H Q z=>by
 obtain⟨F,c,t,d,N,R,e,k⟩:=z;unfold uP at e;cases j:uv c i with
 |none=>simp only[j]at e;cases e
 |some y=>
  simp only[j]at e;rcases rL (f:=f) (ρ:=c)with l|⟨x,b,l⟩<;>simp only[l]at e
  .cases e
  .cases m:uv b i with
   |none=>simp only[m]at e;cases e
   |some S=>
    simp only[m]at e;split at e
    .rename_i T;cases e;obtain⟨a,M,p,C,Y,_⟩:=vM R j;refine⟨.ref a,p,.inl ⟨J,M,fx.of C⟩,F,c,t,[x],b,R,by unfold ax;rw[l];rfl,λys O u s w rs=>?_⟩;obtain⟨v,W,rfl,B,A⟩:=rs;subst A;obtain⟨P,o,q,E,r,I⟩:=vM w m;rw[p]at q;cases q;exact⟨a,o,v,J,J,E,by rw[<-q9 r];exact yf (by omega),k _ _ _ s (I _ _ (sV r (sd B rW))) wB⟩
    .cases e
set_option tactic.hygienic false
def yj(i:Nat)(f:FA):FE:=λd=>match uv d i with
 |some _=>match f d with
  |some (c,a)=>match uv a i with
   |some b=>if b.length+c.length<=1000 then Z (.E,putAt a i (b++c))else U
   |none=>U
  |none=>U
 |none=>U
set_option tactic.hygienic true
def MB(h:PE X e (tBM G.K "list" K5 (zI i) (BD (G? G f) F8))):PE X e (tF G (yj i f)):=PE.ee h λσ H Q A=>by
 obtain⟨F,c,u,d,P,R,e,k⟩:=A;unfold yj at e;cases j:uv c i with
 |none=>simp only[j]at e;cases e
 |some z=>
  simp only[j]at e;rcases rL (f:=f) (ρ:=c)with l|⟨x,b,l⟩<;>simp only[l]at e
  .cases e
  .cases m:uv b i with
   |none=>simp only[m]at e;cases e
   |some Y=>
    simp only[m]at e;split at e
    .rename_i B;cases e;obtain⟨a,N,q,E,s3,_⟩:=vM R j;refine⟨.ref a,q,.inl ⟨J,N,fx.of E⟩,F,c,u,x,b,R,l,λp O S w s y C h0 hb W rs=>?_⟩;obtain⟨T,o,r,I,t,M⟩:=vM y m;rw[q]at r;cases r;refine⟨a,p,o,O,J,J,I,C,?_,k _ _ _ s (M _ _ (sV t rs)) wB⟩;rw[<-q9 t,<- q9 rs];exact uq B
    .cases e
set_option tactic.hygienic false
def Z4(i:Nat):FE:=λa=>match uv a i with
 |some (d::b)=>Z (d,putAt a i b)
 |_=>U
def E3(r:b? G b a c)(h:E? a i=Z d):∃v,E? c i=Z v/\ef G b d v:=by
 unfold E? at h ⊢;rw[<-q9 r];cases e:ixN a.length i with
 |none=>rw[e]at h;cases h
 |some j=>rw[e]at h;exact yh r h
def vu(i:Nat):FE:=λb=>match b[i]? with
 |some (.J a)=>Z (.b0 a,b.set i (.q (.b0 a)))
 |some (.dk c a)=>Z (.M c a,b.set i (.q (.M c a)))
 |some (.q d)=>Z (d,b)
 |_=>U
theorem d6.toIm(R:d6 G F σ ρ H0 H)(hi:ρ[i]?=Z s)(hs:(σ[i]?).join=Z (.ref p))(so:s.gi=γ)(E:H p=Z o)(l:H0 p=U)(f:F.B p=U)(r:ef G (e3 H0 p o) d (.ref p)):
  d6 G F σ (ρ.set i (.q d)) (e3 H0 p o) H where
 sub:=λb u e=>by
  by_cases f:b=p
  .subst f;rw[rb]at e;cases e;exact E
  .rw[rg f]at e;exact R.sub _ _ e
 g0:=R.g0.t (rp l o)
 keep:=R.keep
 fr:=λb u e=>by
  by_cases c:b=p
  .subst c;exact .inr f
  .rw[rg c]at e;exact R.fr _ _ e
 am:=R.am
 len:=by rw[dW];exact R.len
 sl:=λj t e=>by
  rw[b8]at e;by_cases h:i=j
  .subst h;rw[aj J]at e;split at e
   .cases e;exact⟨_,hs,r⟩
   .cases e
  .rw[ak h]at e;refine(R.sl j t e).f5 (rp l o) (λa u _ _ q=>q) λa u z to q I=>?_;rw[rg (λy=>by subst y;exact R.ap j i t s a (λy=>h y.symm) e hi to so z hs)];exact I
 ap:=λj k t u b hjk A C w tk M vk=>by
  have q?:∀{m:Nat} {x:Sl},(ρ.set i (.q d))[m]?=Z x->x.gi=γ->ρ[m]?=Z x:=λ{m x} e N=>by
   rw[b8]at e;by_cases h:i=m
   .subst h;rw[aj J]at e;split at e
    .cases e;cases N
    .cases e
   .rw[ak h]at e;exact e
  exact R.ap j k t u b hjk (q? A w) (q? C tk) w tk M vk
theorem d6.toImD(R:d6 G F σ ρ H0 H)(hi:ρ[i]?=Z s)(hs:(σ[i]?).join=Z (.ref p))(so:s.gi=γ)(l:H0 p=U)(f:F.B p=U)(r:ef G (e3 H0 p o) d (.ref p)):
  d6 G F σ (ρ.set i (.q d)) (e3 H0 p o) (e3 H p o) where
 sub:=λb u e=>by
  by_cases f:b=p
  .subst f;rw[rb]at e ⊢;exact e
  .rw[rg f]at e ⊢;exact R.sub _ _ e
 g0:=R.g0.t (rp l o)
 keep:=λb u e n=>by rw[rg (λz=>by subst z;rw[f]at e;cases e)];exact R.keep b u e n
 fr:=λb u e=>by
  by_cases c:b=p
  .subst c;exact .inr f
  .rw[rg c]at e;exact R.fr _ _ e
 am:=λb hm=>by
  by_cases c:b=p
  .subst c;exact⟨o,rb⟩
  .rw[rg c];exact R.am b hm
 len:=by rw[dW];exact R.len
 sl:=λj t e=>by
  rw[b8]at e;by_cases h:i=j
  .subst h;rw[aj J]at e;split at e
   .cases e;exact⟨_,hs,r⟩
   .cases e
  .rw[ak h]at e;refine(R.sl j t e).f5 (rp l o) (λa u z to q=>?_) λa u z to q E=>?_
   .rw[rg (λy=>by subst y;exact R.ap j i t s a (λy=>h y.symm) e hi to so z hs)];exact q
   .rw[rg (λy=>by subst y;exact R.ap j i t s a (λy=>h y.symm) e hi to so z hs)];exact E
 ap:=λj k t u b hjk A C w tk I vk=>by
  have q?:∀{m:Nat} {x:Sl},(ρ.set i (.q d))[m]?=Z x->x.gi=γ->ρ[m]?=Z x:=λ{m x} e M=>by
   rw[b8]at e;by_cases h:i=m
   .subst h;rw[aj J]at e;split at e
    .cases e;cases M
    .cases e
   .rw[ak h]at e;exact e
  exact R.ap j k t u b hjk (q? A w) (q? C tk) w tk I vk
set_option tactic.hygienic true
def Yl(h:PE X e (zI i)):PE X e (tF G (vu i)):=PE.ee (PE.ghost h) λC H Q y=>by
 obtain⟨F,B,t,d,z,R,e,k⟩:=y;unfold vu at e;split at e
 .rename_i q b;cases e;obtain⟨a,p,f,j,c,l,m⟩:=R.sl i _ b;have rr:=Au rb (b?.mono (rp c _) _ _ m);exact⟨_,u5 f,.inl (k _ _ _ (rp c _) (R.toIm b f J j c l rr) rr)⟩
 .rename_i r q b;cases e;obtain⟨a,p,f,j,c,l,m,x⟩:=R.sl i _ b;refine⟨_,u5 f,.inr ⟨a,_,j,λo=>?_⟩⟩;have rr:ef G (e3 t a (.n' o (.dK (r.zip p)))) (.M r q) (.ref a):=by unfold ef;exact⟨a,o,p,J,rb,m,b?.mono (rp c _) _ _ x⟩
  exact k _ _ _ (rp c _) (R.toImD b f J c l rr) rr
 .rename_i A b;cases e;obtain⟨v,u,w⟩:=R.sl i _ b;exact⟨v,u5 u,.inl (k _ _ _ (ro.refl _) R w)⟩
 .cases e
set_option tactic.hygienic false
def El(i:Nat):FA:=λa=>match a[i]? with
 |some (.J b)=>Z (b,a.set i .un)
 |_=>U
set_option tactic.hygienic true
def Rq(h:PE X e (zI i)):PE X e (G? G (El i)):=PE.ee h λσ H Q C=>by
 obtain⟨F,ρ,H0,d,ρ',R,e,k⟩:=C;unfold El at e;split at e
 .rename_i ds l;cases e;obtain⟨a,xs,o,w,y,A,B⟩:=R.sl i _ l;have q?:∀{m:Nat} {x:Sl},(ρ.set i .un)[m]?=Z x->x.gi=γ->m≠i/\ρ[m]?=Z x:=λ{m x} e M=>by
   rw[b8]at e;by_cases h:i=m
   .subst h;rw[aj J]at e;split at e
    .cases e;cases M
    .cases e
   .rw[ak h]at e;exact⟨λz=>h z.symm,e⟩
  have q:d6 G F σ (ρ.set i .un) H0 H:={
   sub:=R.sub,g0:=R.g0,keep:=R.keep,fr:=R.fr,am:=R.am
   len:=by rw[dW];exact R.len
   sl:=λj t e=>by
    rw[b8]at e;by_cases h:i=j
    .subst h;rw[aj J]at e;split at e
     .cases e;trivial
     .cases e
    .rw[ak h]at e;exact R.sl j t e
   ap:=λj k t u b hjk c r p tk I vk=>R.ap j k t u b hjk (q? c p).2 (q? r tk).2 p tk I vk }
  refine⟨_,u5 o,k a xs _ _ (ro.refl _) q w y A (λj t c to z=>?_) B⟩;obtain⟨E,f⟩:=q? c to;exact R.ap j i t _ a E f l to J z o
 .cases e
end
set_option tactic.hygienic false
def stM(n:Nat)(b a:aW):aO:=.pm b::C? (n - 1) a
def S8(b:aO):Option aW:=match b with
 |.pm a::_=>Z a
 |_=>U
def fnM(h n:Nat)(f:FS):aW->aW->Option (D×aW):=λe c=>if c.length=h then match f (stM n e c)with
 |some (.rt d b)=>match S8 b with
  |some a=>Z (d,a)
  |none=>U
 |some (.T i b)=>match S8 b with
  |some a=>Z (.b0 i,a)
  |none=>U
 |_=>U
 else U
section
variable{X:Cx}{G:Bg}
def Z5(g:aW->aW->Option (D×aW))(i:Nat)(a:FA):FE:=λe=>match uv e i with
 |some _=>match a e with
  |some (f,b)=>match uv b i with
   |some h=>match g h f with
    |some (d,c)=>Z (d,putAt b i c)
    |none=>U
   |none=>U
  |none=>U
 |none=>U
def Walk(G:Bg)(h:It)(j:aW)(l:Hp):Prop:=∀(i:Nat) (e a:Hp),ro l e->ro e a->
 (∀d,j[i]?=Z d->h.go i a/\∀x c,h.yld i a x c->∃f,ro e f/\ro f c/\ro a c/\(∀b o,f b=Z o->e b=Z o\/a b=U)/\ef G f d x)/\(i=j.length->h.stop i a)
def Z8(G:Bg)(f:FA):TI:=λj H R=>∃F i e h b,d6 G F j i e H/\f i=Z (h,b)/\∀c a d,ro e a->d6 G F j b a d->Walk G c h a->R c d
def PI.ee(h:PI X f e t)(w:∀b H R,d b H R->t b H R):PI X f e d:=λa s b H R I c=>h a s b H R I (w _ _ _ c)
def E4(h:fx G.K j a c)(r:b? G j w c):Walk G (Itl G.K a) w j:=λi q t s p=>by have f:=(s.t p).seq h;refine⟨λd e=>?_,λC=>⟨c,f,by rw[<-q9 r,C];exact aK _⟩⟩;obtain⟨v,l,z⟩:=yh r e;refine⟨⟨c,v,f,l⟩,λx u y=>?_⟩;obtain⟨A,B⟩:=y;have m:=B c f;rw[l]at m;cases m;subst A;exact⟨q,ro.refl _,p,ro.refl _,λb o e=>.inl e,ef.mono s _ _ z⟩
def N6(h:fy G.K j a c)(r:b? G j w c):Walk G (Itt G.K a) w j:=λi q t s p=>by have f:=fy.mono (s.t p) h;refine⟨λd e=>?_,λC=>⟨c,f,by rw[<-q9 r,C];exact aK _⟩⟩;obtain⟨v,l,z⟩:=yh r e;refine⟨⟨c,v,f,l⟩,λx u y=>?_⟩;obtain⟨A,B⟩:=y;have m:=B c f;rw[l]at m;cases m;subst A;exact⟨q,ro.refl _,p,ro.refl _,λb o e=>.inl e,ef.mono s _ _ z⟩
def iL(f:FE):FA:=λc=>match f c with
 |some (.b0 b,a)=>Z (b,a)
 |some (.O b,a)=>Z (b,a)
 |_=>U
def iT(f:FE):FA:=λc=>match f c with
 |some (.ea b,a)=>Z (b,a)
 |_=>U
set_option tactic.hygienic true
def IY(h:PI X w e (KQ G.K (tF G f))):PI X w e (Z8 G (iL f)):=PI.ee h λz H R u=>by
 obtain⟨F,q,p,y,x,R,e,k⟩:=u;unfold iL at e;split at e
 .rename_i i o j;cases e;refine⟨F,q,p,_,_,R,j,λv t d s b r=>?_⟩;obtain⟨a,m,rfl,c,l⟩:=r;exact⟨a,J,⟨m,b.sub.seq (fx.of c)⟩,k _ _ _ s b (E4 (fx.of c) l)⟩
 .rename_i i o j;cases e;refine⟨F,q,p,_,_,R,j,λv t d s b r=>?_⟩;obtain⟨a,m,rfl,c,l⟩:=r;exact⟨a,J,⟨m,b.sub.seq c⟩,k _ _ _ s b (E4 c l)⟩
 .cases e
def Rt(h:PI X p e (Ua G.K (tF G f))):PI X p e (Z8 G (iT f)):=PI.ee h λz H R m=>by
 obtain⟨F,t,d,y,u,R,e,k⟩:=m;unfold iT at e;split at e
 .rename_i j w l;cases e;refine⟨F,t,d,_,_,R,l,λv x i s b r=>?_⟩;obtain⟨a,q,rfl,c,o⟩:=r;exact⟨a,J,⟨q,fy.mono b.sub c⟩,k _ _ _ s b (N6 c o)⟩
 .cases e
set_option tactic.hygienic false
def IZ(lo:Int)(n:Nat):aW:=(av n).map λ(i:Nat)=>D.int (lo+(i:Int))
def N7{lo:Int}:Walk G (Itr lo n) (IZ lo n) p:=λi c f s m=>by
 refine⟨λd e=>?_,λl=>by show n<=i;rw[l];simp[IZ]⟩;unfold IZ at e;rw[bp]at e;by_cases a:i<n
 .rw[jB a]at e;cases e;refine⟨a,λx h y=>?_⟩;obtain⟨j,rfl⟩:=y;subst j;exact⟨c,ro.refl _,m,ro.refl _,λb o e=>.inl e,ui _⟩
 .rw[gb (by simpa using a)]at e;cases e
def D?(f:FE):FA:=λb=>match f b with
 |some (.int n,a)=>if -1000000<=n/\n<=1000000 then Z (IZ 0 n.toNat,a)else U
 |_=>U
set_option tactic.hygienic true
def J9(h:PI X m e (SY (vj G (ax f rK)))):PI X m e (Z8 G (D? f)):=PI.ee h λy H R i=>by
 obtain⟨F,o,a,t,p,R,e,k⟩:=i;unfold D? at e;split at e
 .rename_i n q d;split at e
  .rename_i u;cases e;refine⟨F,o,a,[.int n],_,R,by unfold ax;rw[d];rfl,λx r b s c rs=>?_⟩;obtain⟨v,w,rfl,l,j⟩:=rs;subst j l;exact⟨n,J,by omega,by omega,k _ _ _ s c N7⟩
  .cases e
 .cases e
set_option tactic.hygienic false
def i2(g:FG)(b:FS):aW->FS
 |[],c=>Z (.nx c)
 |d::r,c=>match g d c with
  |none=>U
  |some e=>match b e with
   |some (.nx a)=>i2 g b r a
   |some (.ct a)=>i2 g b r a
   |some (.bk a)=>Z (.nx a)
   |some (.rt d a)=>Z (.rt d a)
   |some (.T d a)=>Z (.T d a)
   |none=>U
def uH(s:FA)(g:FG)(b:FS):FS:=λd=>match s d with
 |some (c,a)=>i2 g b c a
 |none=>U
def Ru{st:Stmt}(h:PS X st (Qt (Z8 G s) (tFG G n g) (l? G b))):PS X st (l? G (uH s g b)):=PS.ee h λE σ H hh=>by
 obtain⟨F,W,H0,o,R,e,k,k2⟩:=hh;unfold uH at e;rcases rL (f:=s) (ρ:=W)with P|⟨l,C,P⟩<;>simp only[P]at e
 .cases e
 .refine⟨F,W,H0,l,C,R,P,λA' N H1' s1 R1 wk=>?_⟩;refine⟨λi m σ H=>m=l.length - i/\i<=l.length/\∃c r,ro N r/\d6 G F σ c r H/\i2 g b (l.drop i) c=Z o,⟨_,J,cb _,C,N,ro.refl _,R1,e⟩,?_⟩;rintro i m σi B ⟨rfl,hi,c,r,A,I,a⟩;by_cases hlt:i<l.length
  .have ed:=hZ hlt;rw[ed]at a;unfold i2 at a;obtain⟨go,yl⟩:=(wk i r B A I.sub).1 l[i] (bb hlt);refine .inr ⟨go,λp z=>∃c r,ro N r/\d6 G F p c r z/\i2 g b (l.drop (i+1)) c=Z o,λp z q=>⟨l.length - (i+1),by omega,J,hlt,q⟩,λx z y=>?_⟩;obtain⟨Y,M,t2,t3,t4,t5⟩:=yl x z y;have R2:=I.f5 t3 M t2 t4;cases Q:g l[i] c with
   |none=>simp only[Q]at a;cases a
   |some w=>
    simp only[Q]at a;refine⟨F,c,Y,_,w,R2,t5,Q,λσ3 _ R3=>?_⟩;have S:=k.J' (s1.t (A.t M));cases u:b w with
    |none=>simp only[u]at a;cases a
    |some q=>
     refine⟨F,w,Y,q,R3,u,?_,λ_=>J⟩;cases q with
     |nx j=>simp only[u]at a;exact λp t z T O=>⟨j,t,A.t (M.t T),O,a⟩
     |ct j=>simp only[u]at a;exact λp t z T O=>⟨j,t,A.t (M.t T),O,a⟩
     |bk j=>simp only[u]at a;cases a;exact S
     |rt d j=>simp only[u]at a;cases a;exact S
     |T d j=>simp only[u]at a;cases a;exact S
  .have ez:l.drop i=[]:=lE (by omega);rw[ez]at a;cases a;exact .inl ⟨(wk i r B A I.sub).2 (by omega),k _ _ _ (s1.t A) I⟩
end
def Sl.er:Sl->Sl
 |.q d=>.q d
 |.J a=>.pm a
 |.pm a=>.pm a
 |_=>.un
def Em(k:Nat)(er:List Nat)(ρ:aO):aO:=iP k .un++er.map λj=>((ρ[j]?).getD .un).er
def vx:List Nat->aO->aO->Option aO
 |[],_,a=>Z a
 |j::er,t::b,a=>match uv a j with
  |some _=>match t with
   |.pm c=>vx er b (putAt a j c)
   |_=>U
  |none=>vx er b a
 |_::_,[],_=>U
def AK(k:Nat)(er:List Nat)(g:FG)(ft:FT)(f:FE):aW->aO->Option (aW×aO)
 |[],c=>Z ([],c)
 |d::r,c=>match g d (Em k er c)with
  |none=>U
  |some h=>match ft h with
   |some (γ,b)=>match f b with
    |some (x,i)=>match vx er (i.drop k) c with
     |some a=>match AK k er g ft f r a with
      |some (j,e)=>Z (x::j,e)
      |none=>U
     |none=>U
    |none=>U
   |some (δ,b)=>match vx er (b.drop k) c with
    |some a=>AK k er g ft f r a
    |none=>U
   |none=>U
def rh(k:Nat)(er:List Nat)(s:FA)(g:FG)(ft:FT)(fe:FE):FA:=λc=>match s c with
 |some (b,a)=>if b.length<=1000 then AK k er g ft fe b a else U
 |none=>U
def sf:FT:=λa=>Z (γ,a)
theorem yJ:∀{er:List Nat} {B f b:aO},vx er B f=Z b->b.length=f.length/\
  (∀(j:Nat) (c:Sl),b[j]?=Z c->∃s,f[j]?=Z s/\((c=s/\(s.L≠U->j∉er))\/∃(m:Nat) (i a:aW),er[m]?=Z j/\B[m]?=Z (Sl.pm i)/\s.L=Z a/\c=s.putL i))
 |[],B,f,b,h=>by cases h;exact⟨J,λj c e=>⟨c,e,.inl ⟨J,λk z=>by cases z⟩⟩⟩
 |G::er,[],f,b,h=>by cases h
 |G::er,t::B,f,b,h=>by
  unfold vx at h;cases l:uv f G with
  |none=>
   simp only[l]at h;obtain⟨C,E⟩:=yJ h;refine⟨C,λj c e=>?_⟩;obtain⟨s,r,q⟩:=E j c e;refine⟨s,r,?_⟩;rcases q with ⟨rfl,q⟩|⟨m,i,a,u,w,A,x⟩
   .refine .inl ⟨J,λz y=>?_⟩;rcases aN.1 y with y|y
    .subst y;unfold uv at l;rw[r]at l;exact z l
    .exact q z y
   .exact .inr ⟨m+1,i,a,u,w,A,x⟩
  |some p=>
   simp only[l]at h;cases t with
   |pm i=>
    simp only at h;obtain⟨I,r,H⟩:=wK l;unfold putAt at h;rw[r]at h;simp only at h;obtain⟨C,E⟩:=yJ h;refine⟨by rw[C,dW],λj c e=>?_⟩;obtain⟨s,o,q⟩:=E j c e;by_cases F:G=j
    .subst F;rw[b8,aj J]at o;split at o
     .cases o;refine⟨I,r,.inr ?_⟩;rcases q with ⟨rfl,q⟩|⟨m,d,a,u,w,A,x⟩
      .exact⟨0,i,p,J,J,H,J⟩
      .refine⟨m+1,d,p,u,w,H,?_⟩;rw[x];cases I<;>rfl
     .cases o
    .rw[b8,ak F]at o;refine⟨s,o,?_⟩;rcases q with ⟨rfl,q⟩|⟨m,d,a,u,w,A,x⟩
     .refine .inl ⟨J,λz y=>?_⟩;rcases aN.1 y with y|y
      .exact F y.symm
      .exact q z y
     .exact .inr ⟨m+1,d,a,u,w,A,x⟩
   |_=>cases h
def Gd(er:List Nat)(b:St)(ρ:aO):List Addr:=er.filterMap λj=>match uv ρ j,(b[j]?).join with
 |some _,Z (.ref a)=>Z a
 |_,_=>U
set_option tactic.hygienic true
def zL:a∈Gd er i h ↔ ∃j∈er,(∃b,uv h j=Z b)/\(i[j]?).join=Z (.ref a):=by
 unfold Gd;rw[ik];constructor
 .rintro⟨j,f,e⟩;refine⟨j,f,?_⟩;split at e
  .rename_i b l c d;cases e;exact⟨⟨b,c⟩,d⟩
  .cases e
 .rintro⟨j,f,⟨b,c⟩,d⟩;refine⟨j,f,?_⟩;rw[c,d]
section
variable{X:Cx}{G:Bg}{F:Fr}{σ:St}{ρ:aO}{H0 H:Hp}
set_option tactic.hygienic false
def E5(h:(Em k er ρ)[i]?=Z s):s=.un\/∃m j,i=k+m/\er[m]?=Z j/\s=((ρ[j]?).getD .un).er:=by
 unfold Em at h;by_cases a:i<k
 .rw[eA (by simpa using a),ib,aj a]at h;cases h;exact .inl J
 .rw[eh (by simpa using mW a),cR,bp]at h;cases e:er[i - k]? with
  |none=>rw[e]at h;cases h
  |some j=>rw[e]at h;cases h;exact .inr ⟨i - k,j,by omega,e,J⟩
def BN(h:er[m]?=Z j):((u0 k er σ)[k+m]?).join=(σ[j]?).join:=by unfold u0;rw[eh (by simp),cR,show k+m - k=m by omega,bp,h];rfl
theorem d6.er(R:d6 G F σ ρ H0 H)(k:Nat)(er:List Nat)(nd:er.Nodup):d6 G ⟨H0,H,Gd er σ ρ⟩ (u0 k er σ) (Em k er ρ) H0 H where
 sub:=R.sub
 g0:=ro.refl _
 keep:=λb o e _=>e
 fr:=λb o e=>.inl e
 am:=λa ha=>by obtain⟨j,x,⟨ds,l⟩,r⟩:=zL.1 ha;obtain⟨s,E,I⟩:=wK l;obtain⟨Q,xs,f,p,_⟩:=(R.sl j s E).b0 I;rw[r]at f;cases f;exact⟨_,p⟩
 len:=by unfold u0 Em;rw[au,au,cR,cR,ae,ae]
 sl:=λi s e=>by
  rcases E5 e with rfl|⟨m,j,rfl,l,rfl⟩
  .trivial
  .rw[BN l];cases r:ρ[j]? with
   |none=>trivial
   |some s=>
    have ok:=R.sl j s r;have mem:∀{a:Addr} {ds:aW},s.L=Z ds->(σ[j]?).join=Z (.ref a)->a∈Gd er σ ρ:=λf p=>zL.2 ⟨j,bU l,⟨_,by unfold uv;rw[r];exact f⟩,p⟩;cases s with
    |un=>trivial
    |q d=>exact ok
    |J ds=>obtain⟨a,xs,f,p,u,M,w⟩:=ok;exact⟨a,xs,f,p,u,mem J f,w⟩
    |pm ds=>obtain⟨a,xs,f,p,u,M,w⟩:=ok;exact⟨a,xs,f,p,u,mem J f,w⟩
    |dk ks ds=>trivial
    |ob c ns ds=>trivial
 ap:=λi S s t a hii e C so to v B=>by
  rcases E5 e with rfl|⟨m,j,rfl,l,rfl⟩
  .cases so
  rcases E5 C with rfl|⟨T,A,rfl,q,rfl⟩
  .cases to
  rw[BN l]at v;rw[BN q]at B;have gi:∀{j:Nat},(((ρ[j]?).getD Sl.un).er).gi=γ->∃s,ρ[j]?=Z s/\s.gi=γ:=λ{j} h=>by
   cases z:ρ[j]? with
   |none=>rw[z]at h;cases h
   |some s=>rw[z]at h;refine⟨s,J,?_⟩;cases s<;>first|rfl|cases h
  obtain⟨s,z,P⟩:=gi so;obtain⟨N,O,y⟩:=gi to;by_cases x:j=A
  .subst x;have:=(List.getElem?_inj (bZ.1 l).1 nd).1 (l.t q.symm);exact hii (by rw[this])
  .exact R.ap j A s N a x z O P y v B
theorem d6.uncap(R:d6 G F σ ρ H0 H){k:Nat}{er:List Nat}{f:St}{C ρ':aO}{H1 p:Hp}(c:d6 G ⟨H0,H,Gd er σ ρ⟩ f C H1 p)(hd:f.drop k=(u0 k er σ).drop k)(hu:vx er (C.drop k) ρ=Z ρ'):d6 G F σ ρ' H1 p:=by
 obtain⟨hl,hc⟩:=yJ hu;have I:∀{m j:Nat},er[m]?=Z j->(f[k+m]?).join=(σ[j]?).join:=λ{m j} e=>by
  have q:(f.drop k)[m]?=((u0 k er σ).drop k)[m]?:=by rw[hd]
  rw[dt,dt]at q;rw[q];exact BN e
 have nA:∀{j:Nat} {s:Sl} {a:Addr},ρ[j]?=Z s->s.gi=γ->(σ[j]?).join=Z (.ref a)->(s.L≠U->j∉er)->a∉Gd er σ ρ:=λ{j s a} e so z hn ha=>by
  obtain⟨i,hi,⟨ds,d⟩,O⟩:=zL.1 ha;obtain⟨t,r,E⟩:=wK d;by_cases hij:i=j
  .subst hij;rw[e]at r;cases r;exact hn (by rw[E];simp) hi
  .exact R.ap i j t s a hij r e (Sl.vl E) so O z
 have hA:∀a∈Gd er σ ρ,F.B a=U\/a∈F.A:=λa ha=>by obtain⟨i,hi,⟨ds,d⟩,O⟩:=zL.1 ha;obtain⟨t,r,E⟩:=wK d;obtain⟨a',u,h,P,Q,h4⟩:=(R.sl i t r).at (Sl.vl E);rw[O]at h;cases h;exact h4
 have own':∀{j:Nat} {l:Sl},ρ'[j]?=Z l->l.gi=γ->∃s,ρ[j]?=Z s/\s.gi=γ:=λ{j l} e so=>by
  obtain⟨s,d,q⟩:=hc j l e;rcases q with ⟨rfl,q⟩|⟨m,ds,M,q1,S,T,q4⟩
  .exact⟨l,d,so⟩
  .exact⟨s,d,Sl.vl T⟩
 exact {
  sub:=c.sub
  g0:=R.g0.t c.g0
  keep:=λb o e n=>by
   refine c.keep b o (R.keep b o e n) λha=>?_;rcases hA b ha with q|q
   .rw[q]at e;cases e
   .exact n q
  fr:=λb o e=>by
   rcases c.fr b o e with q|q
   .exact R.fr b o q
   .exact .inr (R.jj q)
  am:=λa ha=>by
   obtain⟨o,q⟩:=R.am a ha;by_cases z:a∈Gd er σ ρ
   .exact c.am a z
   .exact⟨o,c.keep a o q z⟩
  len:=by rw[hl];exact R.len
  sl:=λj l e=>by
   obtain⟨s,d,q⟩:=hc j l e;rcases q with ⟨rfl,q⟩|⟨m,ds,M,q1,S,T,q4⟩
   .refine(R.sl j l d).f5 c.g0 (λa u z so y=>c.keep a u y (nA d so z q)) λa u z so y y0=>?_;cases w:H1 a with
    |none=>rfl
    |some o=>
     rcases c.fr a o w with x|x
     .have W:H0 a=Z o:=x;rw[W]at y0;cases y0
     .have W:H a=U:=x;rw[W]at y;cases y
   .rw[dt]at S;obtain⟨a,xs,h,P,Q,h4,h5⟩:=c.sl _ _ S;rw[I q1]at h;have ok:=R.sl j s d;subst q4;cases s with
    |J N=>obtain⟨a',Y,g1,g2,g3,g4,g5⟩:=ok;rw[h]at g1;cases g1;exact⟨a,xs,h,P,Q,g4,h5⟩
    |pm N=>obtain⟨a',Y,g1,g2,g3,g4,g5⟩:=ok;rw[h]at g1;cases g1;exact⟨a,xs,h,P,Q,g4,h5⟩
    |_=>cases T
  ap:=λi j s t a hij ei ej so to v v'=>by
   obtain⟨s0,z,zo⟩:=own' ei so;obtain⟨t0,y,yo⟩:=own' ej to;exact R.ap i j s0 t0 a hij z y zo yo v v' }
def zM{k:Nat}(h:sx σ ρ p)(f:vx er u ρ=Z a):sx σ a p:=λi c e so=>by
 obtain⟨s,b,q⟩:=(yJ f).2 i c e;rcases q with ⟨rfl,q⟩|⟨m,l,d,o,r,j,t⟩
 .exact h i c b so
 .exact h i s b (Sl.vl j)
inductive CI(G:Bg) (F:Fr) (σ:St) (H1:Hp) (p:Addr) (k:Nat) (er:List Nat) (g:FG) (ft:FT) (fe:FE) (ds es:aW) (ρ':aO) (i m:Nat) (acc:bD) (H2:Hp):Prop
 |mk (ρi:aO) (Hi:Hp) (dn e8:aW):m=ds.length - i->i<=ds.length->ro H1 Hi->d6 G F σ ρi Hi H2->H2 p=Z (.b0 acc)->Hi p=U->sx σ ρi p->b? G Hi dn acc->dn.length<=i->AK k er g ft fe (ds.drop i) ρi=Z (e8,ρ')->es=dn++e8->CI G F σ H1 p k er g ft fe ds es ρ' i m acc H2
set_option tactic.hygienic true
def HI{er:List Nat}(nd:er.Nodup):∀σ H Q,G? G (rh k er s g ft fe) σ H Q->Dr (Z8 G s) (tFG G k g) (m5 G ft) (tF G fe) k er σ H Q:=λσ H Q hh=>by
 obtain⟨F,ρ,H0,es,ρ',R,e,kk⟩:=hh;unfold rh at e;rcases rL (f:=s) (ρ:=ρ)with e1|⟨d,ρ1,e1⟩<;>simp only[e1]at e
 .cases e
 .split at e
  .rename_i hlen;refine⟨F,ρ,H0,d,ρ1,R,e1,λA' H1 H1' s1 O wk p S=>?_⟩;refine⟨CI G F σ H1 p k er g ft fe d es ρ',
    ⟨_,ρ1,H1,[],es,J,cb _,ro.refl _,O.i1 S _,rb,O.ff S,O.apart S,rW,aK _,e,J⟩,?_⟩
   rintro i m acc H2 ⟨c,Hi,dn,e8,rfl,hi,Y,Ri,C,T,apt,rs,hdn,a,rfl⟩;by_cases hlt:i<d.length
   .have ed:=hZ hlt;rw[ed]at a;unfold AK at a;obtain⟨go,yl⟩:=(wk i Hi H2 Y Ri.sub).1 d[i] (bb hlt);refine .inr ⟨go,λx H3 y=>?_⟩;obtain⟨I,t1,t2,t3,t4,t5⟩:=yl x H3 y;have R2:=Ri.f5 t3 t1 t2 t4;have W:=t3 _ _ C;have hpj:I p=U:=by
     cases w:I p with
     |none=>rfl
     |some o=>
      rcases t4 p o w with z|z
      .rw[T]at z;cases z
      .rw[C]at z;cases z
    have RC:=R2.er k er nd;have npA:p∉Gd er σ c:=λz=>by obtain⟨j,_,⟨ds',q1⟩,q2⟩:=zL.1 z;obtain⟨t,q3,q4⟩:=wK q1;exact apt j t q3 (Sl.vl q4) q2
    cases e2:g d[i] (Em k er c)with
    |none=>simp only[e2]at a;cases a
    |some E=>
     simp only[e2]at a;refine⟨_,_,I,d[i],E,RC,t5,e2,λσ4 B R4=>⟨B,?_⟩⟩;rcases rL (f:=ft) (ρ:=E)with P|⟨b,l,P⟩
     .simp only[P]at a;cases a
     .refine⟨_,E,I,b,l,R4,P,λH5 H5' s5 R5=>?_⟩;have keepP:∀{σ':St} {ρ'':aO} {Ha N:Hp},d6 G ⟨I,H3,Gd er σ c⟩ σ' ρ'' Ha N->N p=Z (.b0 acc)/\Ha p=U:=λRz=>by
       refine⟨Rz.keep p _ W npA,?_⟩;refine Option.eq_none_iff_forall_ne_some.2 λo M=>?_;rcases Rz.fr p o M with z|z
       .have z':I p=Z o:=z;rw[hpj]at z';cases z'
       .have z':H3 p=U:=z;rw[W]at z';cases z'
      cases b with
      |false=>
       simp only[P]at a;refine IK ?_;cases h:vx er (l.drop k) c with
       |none=>simp only[h]at a;cases a
       |some r=>simp only[h]at a;obtain⟨w1,M⟩:=keepP R5;exact⟨d.length - (i+1),by omega,r,H5,dn,e8,J,hlt,Y.t (t1.t s5),R2.uncap R5 B h,w1,M,zM (k:=k) apt h,b?.mono (t1.t s5) _ _ rs,by omega,a,J⟩
      |true=>
       simp only[P]at a;refine IL ?_;rcases rL (f:=fe) (ρ:=l)with e5|⟨x5,ρ5,e5⟩
       .simp only[e5]at a;cases a
       .simp only[e5]at a;refine⟨_,l,H5,x5,ρ5,R5,e5,λv H6 H6' s6 R6 rv=>?_⟩;obtain⟨w1,M⟩:=keepP R6;cases h:vx er (ρ5.drop k) c with
        |none=>simp only[h]at a;cases a
        |some r=>
         simp only[h]at a;cases e6:AK k er g ft fe (d.drop (i+1)) r with
         |none=>simp only[e6]at a;cases a
         |some q=>
          obtain⟨rest',ρz⟩:=q;simp only[e6]at a;cases a;have A:=R2.uncap R6 B h;have lacc:=(q9 rs).symm;refine⟨acc,w1,yf (by omega),d.length - (i+1),by omega,r,H6,dn++[x5],rest',J,hlt,Y.t (t1.t (s5.t s6)),?_,rb,M,zM (k:=k) apt h,sV (b?.mono (t1.t (s5.t s6)) _ _ rs) (sd rv rW),by rw[au,c3];omega,e6,by rw[bO];rfl⟩;exact {
           sub:=λb o e=>by rw[rg (λz=>by rw[z,M]at e;cases e)];exact A.sub b o e
           g0:=A.g0
           keep:=λb o e n=>by rw[rg (λz=>by subst z;rw[O.jj S]at e;cases e)];exact A.keep b o e n
           fr:=A.fr
           am:=λb hb=>by
            by_cases z:b=p
            .subst z;exact⟨_,rb⟩
            .rw[rg z];exact A.am b hb
           len:=A.len
           sl:=λj t ej=>(A.sl j t ej).f5 (ro.refl _) (λb u z to q=>by rw[rg (λy=>zM (k:=k) apt h j t ej to (by rw[z,y]))];exact q) λb u _ _ _ q=>q
           ap:=A.ap }
   .have ez:d.drop i=[]:=lE (by omega);rw[ez]at a;cases a;rw[bI]at kk;exact .inl ⟨(wk i Hi H2 Y Ri.sub).2 (by omega),kk p acc Hi H2 (s1.t Y) Ri C T (O.jj S) apt rs⟩
  .cases e
set_option tactic.hygienic false
def N8{er:List Nat}(c:er.Nodup)(h:PE X e (Dr (Z8 G s) (tFG G k g) (m5 G b) (tF G a) k er)):PE X e (G? G (rh k er s g b a)):=PE.ee h (HI c)
def N9:PIf X [] (m5 G sf):=λa s σ H Q I h=>by obtain⟨F,ρ,H0,b,c,R,e,k⟩:=h;cases e;exact QP a s σ H Q I (k _ _ (ro.refl _) R)
end
def uw:D->Bool
 |.E=>γ|.I _=>γ|.int _=>γ|.str _=>γ|_=>δ
def vD:D->V
 |.E=>.E|.I b=>.I b|.int i=>.int i|.str x=>.str x|_=>.E
section
variable{X:Cx}{G:Bg}{H:Hp}
def vN{d:D}{v:V}(h:ef G H d v)(f:uw d=γ):v=vD d:=by cases d<;>first|(unfold ef at h;exact h)|cases f
def BO{d:D}(f:uw d=γ):∀H,ef G H d (vD d):=λH=>by cases d<;>first|(unfold ef;rfl)|cases f
theorem CH:∀{a:aW} {b:bD},b? G H a b->a.all uw=γ->b=a.map vD
 |[],b,h,f=>by unfold b? at h;exact h
 |d::a,b,h,f=>by obtain⟨v,r,rfl,c,e⟩:=h;rw[fK,aT]at f;rw[aR,vN c f.1,CH e f.2]
def I0{d:D}(f:uw d=γ):AI (vD d)=γ:=by cases d<;>first|rfl|cases f
theorem GL:∀{a:aW},a.all uw=γ->(a.map vD).all AI=γ
 |[],_=>rfl
 |d::a,f=>by rw[fK,aT]at f;rw[aR,fK,I0 f.1,GL f.2];rfl
def g?.or{f:ab->ab->Sem ab}{r b:R2}(h:g? X f r)(i:g? X f b):g? X f (λx y H Q=>r x y H Q\/b x y H Q):=λa s e H x y v u Q I c d q=>q.elim (h a s e H x y v u Q I c d) (i a s e H x y v u Q I c d)
def ke.or{r d:R2}{g c:D->D->Option D}(h:ke G r g)(j:ke G d c):ke G (λx y H Q=>r x y H Q\/d x y H Q) (λx y=>match g x y with|some z=>Z z|none=>c x y):=λx y z b H v u Q e s f i k=>by
 cases a:g x y with
 |some w=>simp only[a]at e;cases e;exact .inl (h x y _ b H v u Q a s f i k)
 |none=>simp only[a]at e;exact .inr (j x y z b H v u Q e s f i k)
def dI(C:Int->Int->Bool)(g:Int->Int->D):D->D->Option D
 |.int a,.int b=>if C a b=γ then Z (g a b)else U
 |_,_=>U
set_option tactic.hygienic true
def Ja{C:Int->Int->Bool}{d:Int->Int->Prop}{g:Int->Int->D}{f:Int->Int->V}(hC:∀a b,C a b=γ->d a b)(h:∀a b,uw (g a b)=γ/\vD (g a b)=f a b):ke G (rI d f) (dI C g):=λx y z m H v u Q e s j l k=>by
 unfold dI at e;split at e
 .rename_i a b;split at e
  .rename_i i;cases e;exact⟨a,b,j,l,hC _ _ i,by rw[<-(h a b).2];exact k _ λc w=>BO (h a b).1 c⟩
  .cases e
 .cases e
def Bc{g:Int->Int->D}{d:Int->Int->V}(f:∀a b,uw (g a b)=γ/\vD (g a b)=d a b):ke G (K' d) (dI (λw w=>γ) g):=λx y z j H v u Q e s h i k=>by
 unfold dI at e;split at e
 .rename_i a b;split at e
  .cases e;exact⟨a,b,h,i,by rw[<-(f a b).2];exact k _ λc w=>BO (f a b).1 c⟩
  .cases e
 .cases e
set_option tactic.hygienic false
def sC:=dI (λz z=>γ) λa b=>.int (a+b)
def E6:=dI (λz z=>γ) λa b=>.int (a - b)
def Bd(a:Int):Bool:=decide (-(2 ^ 64)<a)&&decide (a<2 ^ 64)
def vO:=dI (λa b=>Bd a||Bd b) λa b=>.int (a * b)
def rM:=dI (λz b=>decide (0<b)) λa b=>.int (a % b)
def sF:=dI (λz b=>decide (0<b)&&decide (b<1073741824)) λa b=>.int (a / b)
def Oa:=dI (λa b=>decide (0<=b)&&decide (b<=1000000)&&decide (a.natAbs<2 ^ 64)) λa b=>.int (a ^ b.toNat)
def Ka:=dI (λz z=>γ) λa b=>.I (decide (a<b))
def vY:=dI (λz z=>γ) λa b=>.I (decide (a<=b))
def MC:=dI (λz z=>γ) λa b=>.I (decide (b<a))
def UX:=dI (λz z=>γ) λa b=>.I (decide (b<=a))
def UY:ke G (K' λi j=>.int (i+j)) sC:=Bc λz z=>⟨J,J⟩
def UZ:ke G (K' λi j=>.int (i - j)) E6:=Bc λz z=>⟨J,J⟩
def U0:ke G (rI Qv λi j=>.int (i * j)) vO:=Ja (λa b h=>by
 unfold Bd at h;simp only[iI,aT,bR]at h;exact h) λz z=>⟨J,J⟩
def U1:ke G (rI (λz j=>0<j) λi j=>.int (i % j)) rM:=Ja (λa b h=>by simpa using h) λz z=>⟨J,J⟩
def U2:ke G (rI Ue λi j=>.int (i / j)) sF:=Ja (λa b h=>by unfold Ue;simpa using h) λz z=>⟨J,J⟩
def U3:ke G (rI XQ λi j=>.int (i ^ j.toNat)) Oa:=Ja (λa b h=>by
 simp only[aT,bR]at h;exact⟨h.1.1,h.1.2,h.2⟩) λz z=>⟨J,J⟩
def Ym:ke G (K' λi j=>.I (decide (i<j))) Ka:=Bc λz z=>⟨J,J⟩
def Yn:ke G (K' λi j=>.I (decide (i<=j))) vY:=Bc λz z=>⟨J,J⟩
def Yo:ke G (K' λi j=>.I (decide (j<i))) MC:=Bc λz z=>⟨J,J⟩
def Yp:ke G (K' λi j=>.I (decide (j<=i))) UX:=Bc λz z=>⟨J,J⟩
def AL:D->D->Option D
 |.str a,.str b=>if a.length+b.length<=100000 then Z (.str (a++b))else U
 |_,_=>U
def E7{n:Nat}(h:n<=100000):n<=aB:=bf h (by rw[cw];decide)
set_option tactic.hygienic true
def Rv:ke G (λx y H Q=>∃i j,x=.str i/\y=.str j/\i.length+j.length<=aB/\Q (.str (i++j)) H) AL:=λx y z h H v u Q e s d f k=>by
 unfold AL at e;split at e
 .rename_i a b;split at e
  .rename_i c;cases e;exact⟨a,b,d,f,E7 c,k _ λw w=>u4 _⟩
  .cases e
 .cases e
set_option tactic.hygienic false
def Ob:D->D->Option D
 |.str a,.str b=>Z (.I (!decide (b.cps.toList<a.cps.toList)))
 |_,_=>U
set_option tactic.hygienic true
def U4:ke G (λx y H Q=>∃i j,x=.str i/\y=.str j/\Q (.I (!decide (j.cps.toList<i.cps.toList))) H) Ob:=λx y z f H v u Q e s c d k=>by
 unfold Ob at e;split at e
 .rename_i a b;cases e;exact⟨a,b,c,d,k _ λw w=>ur _⟩
 .cases e
set_option tactic.hygienic false
def D.isN:D->Bool
 |.E=>γ
 |_=>δ
def yK:D->D->Option D
 |x,.E=>Z (.I x.isN)
 |_,_=>U
def yk:D->D->Option D
 |x,.E=>Z (.I (!x.isN))
 |_,_=>U
def Lc{d:D}{v:V}(h:ef G H d v):decide (v=.E)=d.isN:=by
 cases d<;>unfold ef at h
 .subst h;rfl
 .subst h;rfl
 .subst h;rfl
 .subst h;rfl
 .obtain⟨a,b,rfl,_⟩:=h;rfl
 .obtain⟨a,b,rfl,_⟩:=h;rfl
 .obtain⟨a,b,rfl,_⟩:=h;rfl
 .obtain⟨a,c,b,rfl,_⟩:=h;rfl
 .obtain⟨a,e,b,rfl,_⟩:=h;rfl
 .obtain⟨a,b,rfl,_⟩:=h;rfl
def U5:ke G (λx y H Q=>y=.E/\Q (.I (decide (x=.E))) H) yK:=λx y z c H v u Q e s b a k=>by
 unfold yK at e;split at e
 .cases e;unfold ef at a;refine⟨a,?_⟩;rw[Lc b];exact k _ λw w=>ur _
 .cases e
def Rx:ke G (λx y H Q=>y=.E/\Q (.I (!decide (x=.E))) H) yk:=λx y z c H v u Q e s b a k=>by
 unfold yk at e;split at e
 .cases e;unfold ef at a;refine⟨a,?_⟩;rw[Lc b];exact k _ λw w=>ur _
 .cases e
def Zo:D->D->Option D
 |.I a,.I b=>Z (.I (a != b))
 |_,_=>U
mutual
def z3:D->Option L3.Dq
 |.E=>Z .E
 |.I b=>Z (.I b)
 |.int i=>Z (.int i)
 |.str x=>Z (.str x)
 |.ea a=>match CJ a with
  |some l=>Z (.ea l)
  |none=>U
 |.b0 a=>match CJ a with
  |some l=>Z (.b0 l)
  |none=>U
 |.O _=>U
 |.obj _ _ _=>U
 |.M _ _=>U
 |.R _ _=>U
def CJ:aW->Option (List L3.Dq)
 |[]=>Z []
 |d::a=>match z3 d with
  |some x=>match CJ a with
   |some l=>Z (x::l)
   |none=>U
  |none=>U
end
mutual
theorem HJ:∀(d:D) (v:V) (x:L3.Dq),ef G H d v->z3 d=Z x->L3.ef G.K H x v
 |.E,v,x,h,e=>by unfold z3 at e;cases e;unfold ef at h;unfold L3.ef;exact h
 |.I b,v,x,h,e=>by unfold z3 at e;cases e;unfold ef at h;unfold L3.ef;exact h
 |.int b,v,x,h,e=>by unfold z3 at e;cases e;unfold ef at h;unfold L3.ef;exact h
 |.str b,v,x,h,e=>by unfold z3 at e;cases e;unfold ef at h;unfold L3.ef;exact h
 |.ea f,v,x,h,e=>by
  unfold z3 at e;cases c:CJ f with
  |none=>simp only[c]at e;cases e
  |some l=>simp only[c]at e;cases e;obtain⟨a,i,rfl,j,m⟩:=h;exact⟨a,i,J,j,E8 f i l m c⟩
 |.b0 f,v,x,h,e=>by
  unfold z3 at e;cases c:CJ f with
  |none=>simp only[c]at e;cases e
  |some l=>simp only[c]at e;cases e;obtain⟨a,i,rfl,j,m⟩:=h;exact⟨a,i,J,fx.of j,E8 f i l m c⟩
 |.O _,v,x,h,e=>by unfold z3 at e;cases e
 |.obj _ _ _,v,x,h,e=>by unfold z3 at e;cases e
 |.M _ _,v,x,h,e=>by unfold z3 at e;cases e
 |.R _ _,v,x,h,e=>by unfold z3 at e;cases e
theorem E8:∀(a:aW) (b:bD) (l:List L3.Dq),b? G H a b->CJ a=Z l->L3.b? G.K H l b
 |[],b,l,h,e=>by unfold CJ at e;cases e;unfold b? at h;unfold L3.b?;exact h
 |d::a,b,l,h,e=>by
  unfold CJ at e;cases c:z3 d with
  |none=>simp only[c]at e;cases e
  |some x=>
   simp only[c]at e;cases f:CJ a with
   |none=>simp only[f]at e;cases e
   |some m=>simp only[f]at e;cases e;obtain⟨v,r,rfl,i,j⟩:=h;exact⟨v,r,J,HJ d v x i c,E8 a r m j f⟩
end
def Jb(neg:Bool):D->D->Option D:=λx y=>match uw x&&uw y&&Nq (vD x) (vD y)with
 |true=>Z (.I (if neg then !decide (vD x=vD y)else decide (vD x=vD y)))
 |false=>U
def Oc(neg:Bool):D->D->Option D:=λx y=>match z3 x,z3 y with
 |some a,Z b=>if NR a b&&decide (m3 a<=20)&&decide (m3 b<=20)then Z (.I (if neg then !F? a b else F? a b))else U
 |_,_=>U
def fh(neg:Bool):D->D->Option D:=λx y=>match Jb neg x y with
 |some z=>Z z
 |none=>Oc neg x y
def U6:ke G rEq (Jb δ):=λx y z d H v u Q e s b c k=>by
 unfold Jb at e;cases a:uw x&&uw y&&Nq (vD x) (vD y)with
 |false=>simp only[a]at e;cases e
 |true=>simp only[a]at e;cases e;simp only[aT]at a;rw[vN b a.1.1,vN c a.1.2];exact⟨a.2,k _ λw w=>ur _⟩
def U7:ke G rNe (Jb γ):=λx y z d H v u Q e s b c k=>by
 unfold Jb at e;cases a:uw x&&uw y&&Nq (vD x) (vD y)with
 |false=>simp only[a]at e;cases e
 |true=>simp only[a]at e;cases e;simp only[aT]at a;rw[vN b a.1.1,vN c a.1.2];exact⟨a.2,k _ λw w=>ur _⟩
set_option tactic.hygienic true
def Od{neg:Bool}:ke G (J4 G.K neg) (Oc neg):=λx y z j H v u Q e s h i k=>by
 unfold Oc at e;cases c:z3 x with
 |none=>simp only[c]at e;cases e
 |some a=>
  cases f:z3 y with
  |none=>simp only[c,f]at e;cases e
  |some b=>
   simp only[c,f]at e;split at e
   .rename_i d;cases e;simp only[aT,bR]at d;exact⟨a,b,HJ x v a (ef.mono s _ _ h) c,HJ y u b (ef.mono s _ _ i) f,d.1.1,d.1.2,d.2,k _ λw w=>ur _⟩
   .cases e
set_option tactic.hygienic false
def U8(a:X.A.units+64<cLine)(hK:X.K=G.K:=by rfl):g? X (bh .Eq) (λx y H Q=>rEq x y H Q\/J4 G.K δ x y H Q):=by rw[<-hK];exact g?.or XR (UI a)
def U9(a:X.A.units+64<cLine)(hK:X.K=G.K:=by rfl):g? X (bh .NotEq) (λx y H Q=>rNe x y H Q\/J4 G.K γ x y H Q):=by rw[<-hK];exact g?.or XS (UJ a)
def Yq:ke G (λx y H Q=>rEq x y H Q\/J4 G.K δ x y H Q) (fh δ):=ke.or U6 Od
def Yr:ke G (λx y H Q=>rNe x y H Q\/J4 G.K γ x y H Q) (fh γ):=ke.or U7 Od
def Oe:D->Option aW
 |.ea a=>Z a
 |.b0 a=>Z a
 |.O a=>Z a
 |_=>U
def Ld{d:D}{i:aW}{v:V}(h:ef G H d v)(e:Oe d=Z i):∃p b,v=.ref p/\(fx G.K H p b\/fy G.K H p b)/\b? G H i b:=by
 cases d with
 |ea l=>cases e;unfold ef at h;obtain⟨a,b,rfl,c,f⟩:=h;exact⟨a,b,J,.inr c,f⟩
 |b0 l=>cases e;unfold ef at h;obtain⟨a,b,rfl,c,f⟩:=h;exact⟨a,b,J,.inl (fx.of c),f⟩
 |O l=>cases e;unfold ef at h;obtain⟨a,b,rfl,c,f⟩:=h;exact⟨a,b,J,.inl c,f⟩
 |_=>cases e
def A?(neg:Bool):D->D->Option D:=λx y=>match Oe y with
 |some a=>if uw x&&a.all uw then Z (.I (if neg then !inV (vD x) (a.map vD)else inV (vD x) (a.map vD)))else U
 |none=>U
def Le{K:ao}{H b:Hp}{p:Addr}{a:bD}(s:ro H b)(h:fx K H p a\/fy K H p a):fx K b p a\/fy K b p a:=h.imp s.seq (fy.mono s)
set_option tactic.hygienic true
def S9{neg:Bool}:ke G (rIn G.K neg) (A? neg):=λx y z j H v u Q e s d h k=>by
 unfold A? at e;cases b:Oe y with
 |none=>simp only[b]at e;cases e
 |some l=>
  simp only[b]at e;split at e
  .rename_i a;cases e;simp only[aT]at a;obtain⟨p,i,rfl,f,c⟩:=Ld h b;refine⟨p,i,J,Le s f,?_,?_,?_⟩
   .rw[vN d a.1];exact I0 a.1
   .rw[CH c a.2];exact GL a.2
   .rw[vN d a.1,CH c a.2];exact k _ λw w=>ur _
  .cases e
set_option tactic.hygienic false
def Va(hK:X.K=G.K:=by rfl):g? X (bh .In) (rIn G.K δ):=by rw[<-hK];exact Mj
def ME(hK:X.K=G.K:=by rfl):g? X (bh .NotIn) (rIn G.K γ):=by rw[<-hK];exact Hw
def ew(x y:D):Option D:=match y with
 |.int i=>match x with
  |.ea a=>E? a i
  |.b0 a=>E? a i
  |.O a=>E? a i
  |.str x=>if x.length<=100000 then (E? x.cps.toList i).map λc=>.str ⟨#[c]⟩else U
  |_=>U
 |_=>U
set_option tactic.hygienic true
def Ys:ke G (rIx G.K) ew:=λx y z B H v u Q e s p A k=>by
 cases y with
 |int i=>
  subst A;cases x with
  |ea d=>obtain⟨a,o,rfl,f,h⟩:=p;obtain⟨w,l,m⟩:=E3 h (show E? d i=Z z from e);exact .inr (.inl ⟨a,o,i,w,J,J,fy.mono s f,l,k _ λb j=>ef.mono j _ _ m⟩)
  |b0 d=>obtain⟨a,o,rfl,f,h⟩:=p;obtain⟨w,l,m⟩:=E3 h (show E? d i=Z z from e);exact .inl ⟨a,o,i,w,J,J,s.seq (fx.of f),l,k _ λb j=>ef.mono j _ _ m⟩
  |O d=>obtain⟨a,o,rfl,f,h⟩:=p;obtain⟨w,l,m⟩:=E3 h (show E? d i=Z z from e);exact .inl ⟨a,o,i,w,J,J,s.seq f,l,k _ λb j=>ef.mono j _ _ m⟩
  |str t=>
   subst p;unfold ew at e;simp only at e;split at e
   .rename_i r;cases q:E? t.cps.toList i with
    |none=>rw[q]at e;cases e
    |some c=>rw[q]at e;cases e;exact .inr (.inr ⟨t,i,c,J,J,E7 r,q,k _ λ_ _=>u4 _⟩)
   .cases e
  |_=>cases e
 |_=>cases e
set_option tactic.hygienic false
def Zy(hK:X.K=G.K:=by rfl):IxR X (rIx G.K):=by rw[<-hK];exact Ux
def Ds(G:Bg)(r:bD->Hp->VK->Prop)(g:D->Option D):Prop:=∀x z b H v (Q:VK),g x=Z z->ro b H->ef G b x v->(∀w,(∀a,ro b a->ef G a z w)->Q w H)->r [v] H Q
def Of{e:Expr}{r:bD->Hp->VK->Prop}{g:D->Option D}{f:FE}(p:Ds G r g)(h:PE X e (tCB r (vj G (ax f rK)))):PE X e (tF G (c1 g f)):=PE.ee h λB H Q o=>by obtain⟨F,y,i,d,b,R,e,k⟩:=o;obtain⟨x,l,m⟩:=BL e;refine⟨F,y,i,[x],b,R,by unfold ax;rw[l];rfl,λA j a s c rs=>?_⟩;obtain⟨v,z,rfl,u,t⟩:=rs;subst t;exact p x d j a v Q m c.sub u λw q=>k _ _ _ s c (q _ (ro.refl _))
def tG.or{f:ab}{r b:bD->Hp->VK->Prop}(h:tG X f r)(j:tG X f b):tG X f (λx H Q=>r x H Q\/b x H Q):=λa s i H e d Q I c q=>q.elim (h a s i H e d Q I c) (j a s i H e d Q I c)
def ux:D->Option D
 |.ea a=>Z (.int a.length)
 |.b0 a=>Z (.int a.length)
 |.O a=>Z (.int a.length)
 |.str x=>if x.length<=100000 then Z (.int x.length)else U
 |.M b a=>Z (.int b.length)
 |_=>U
def MF:tG X (.builtin "len") (λc H Q=>∃a kvs,c=[V.ref a]/\Rd H a (.dK kvs)/\Q (.int kvs.length) H):=by intro b s l H c j Q I r h;obtain⟨a,kvs,rfl,e,q⟩:=h;obtain⟨u,rfl,f⟩:=mi r;cases f;exact X8 I e λt i d=>⟨.int kvs.length,H,d,⟨t,J⟩,q⟩
def Ta(K:ao):bD->Hp->VK->Prop:=λb H Q=>(∃p c,b=[.ref p]/\(fx K H p c\/fy K H p c)/\Q (.int c.length) H)\/((∃z,b=[.str z]/\z.length<=aB/\Q (.int z.length) H)\/(∃a kvs,b=[V.ref a]/\Rd H a (.dK kvs)/\Q (.int kvs.length) H))
def MG(hK:X.K=G.K:=by rfl):tG X (.builtin "len") (Ta G.K):=by rw[<-hK];exact tG.or Hy (tG.or HA MF)
set_option tactic.hygienic true
def HK:Ds G (Ta G.K) ux:=λx z j H v Q e s f k=>by
 cases x with
 |ea h=>cases e;obtain⟨a,d,rfl,b,c⟩:=f;refine .inl ⟨a,d,J,.inr (fy.mono s b),?_⟩;rw[<-q9 c];exact k _ λw w=>ui _
 |b0 h=>cases e;obtain⟨a,d,rfl,b,c⟩:=f;refine .inl ⟨a,d,J,.inl (s.seq (fx.of b)),?_⟩;rw[<-q9 c];exact k _ λw w=>ui _
 |O h=>cases e;obtain⟨a,d,rfl,b,c⟩:=f;refine .inl ⟨a,d,J,.inl (s.seq b),?_⟩;rw[<-q9 c];exact k _ λw w=>ui _
 |str t=>
  unfold ux at e;simp only at e;split at e
  .rename_i i;cases e;exact .inr (.inl ⟨t,by rw[f],E7 i,k _ λw w=>ui _⟩)
  .cases e
 |M m h=>cases e;obtain⟨a,o,d,rfl,b,c,l⟩:=f;refine .inr (.inr ⟨a,_,J,.inr ⟨o,s _ _ b⟩,?_⟩);rw[fG,<- c,fP];exact k _ λw w=>ui _
 |_=>cases e
set_option tactic.hygienic false
def Ry:D->Option D
 |.int i=>Z (.int i)
 |.I b=>Z (.int (if b then 1 else 0))
 |_=>U
def Vc:Ds G (λc H Q=>(∃i,c=[.int i]/\Q (.int i) H)\/∃k,c=[.I k]/\Q (.int (if k then 1 else 0)) H) Ry:=λx z d H v Q e s a k=>by
 cases x with
 |int i=>cases e;unfold ef at a;subst a;exact .inl ⟨i,J,k _ λw w=>ui _⟩
 |I b=>cases e;unfold ef at a;subst a;exact .inr ⟨b,J,k _ λw w=>ui _⟩
 |_=>cases e
def Ge:aW->Option (List Bool)
 |[]=>Z []
 |.I b::r=>(Ge r).map (b::·)
 |_=>U
theorem E9:∀{d:aW} {a:bD} {bs:List Bool},b? G H d a->Ge d=Z bs->a=bs.map V.I
 |[],a,bs,h,e=>by cases e;unfold b? at h;exact h
 |.I b::r,a,bs,h,e=>by
  obtain⟨v,q,rfl,f,i⟩:=h;unfold Ge at e;cases c:Ge r with
  |none=>rw[c]at e;cases e
  |some l=>rw[c]at e;cases e;unfold ef at f;subst f;rw[E9 i c];rfl
 |.E::r,a,bs,h,e=>by cases e
 |.int _::r,a,bs,h,e=>by cases e
 |.str _::r,a,bs,h,e=>by cases e
 |.ea _::r,a,bs,h,e=>by cases e
 |.b0 _::r,a,bs,h,e=>by cases e
 |.O _::r,a,bs,h,e=>by cases e
 |.obj _ _ _::r,a,bs,h,e=>by cases e
 |.M _ _::r,a,bs,h,e=>by cases e
 |.R _ _::r,a,bs,h,e=>by cases e
def vZ:D->Option D
 |.b0 a=>(Ge a).map λbs=>.I (bs.all id)
 |_=>U
def Vd:Ds G (λd H Q=>∃(p:Addr) (bs:List Bool),d=[.ref p]/\fx G.K H p (bs.map V.I)/\Q (.I (bs.all id)) H) vZ:=λx z j H v Q e s i k=>by
 cases x with
 |b0 f=>
  unfold vZ at e;simp only at e;cases b:Ge f with
  |none=>rw[b]at e;cases e
  |some bs=>rw[b]at e;cases e;obtain⟨a,d,rfl,c,h⟩:=i;rw[E9 h b]at c;exact⟨a,bs,J,s.seq (fx.of c),k _ λw w=>ur _⟩
 |_=>cases e
def MH(a:X.nr=γ)(hK:X.K=G.K:=by rfl):tG X (.builtin "all") (λb H Q=>∃(p:Addr) (bs:List Bool),b=[.ref p]/\fx G.K H p (bs.map V.I)/\Q (.I (bs.all id)) H):=by rw[<-hK];exact NQ a
inductive Ty where
 |b (n:String)|c (k:Nat)
def Ty.val(G:Bg):Ty->ab
 |.b n=>.type n
 |.c k=>.ref (G.ca k)
def Ty.v(G:Bg):Ty->V
 |.b n=>.ty n
 |.c k=>.ref (G.ca k)
def tyD:D->Ty
 |.E=>.b "NoneType" |.I _=>.b "bool" |.int _=>.b "int" |.str _=>.b "str" |.ea _=>.b "tuple" |.b0 _=>.b "list" |.O _=>.b "list" |.M _ _=>.b "dict" |.R _ _=>.b "dict" |.obj c _ _=>.c c
structure Jc(K:ao)(C:Addr):Prop where
 cl:Ms K C
 ha:cH K (.ref C) "__class__" = Z (Z (.builtin "object.__class__"))
 hn:oj K (.builtin "object.__class__") "__get__" = Z (Z (.builtin "getset_descriptor.__get__"))
 htk:W.takesIn K (.builtin "object.__class__")=Z γ
 hm:W.mroIn K C (.type "object")=Z γ
def Og{pins:cE}{σ:St}{s:af}{A:aM}{E:ab->af->Prop}{Q:ab->af->Prop}{c:ab}{b:Bool}{d:D}{v:V}{u:ab}(I:eb X pins σ H s)(hK:X.K=G.K)(hd:ef G H d v)(i:en v u)(t:∀k ns ds,d=.obj k ns ds->Jc X.K (G.ca k))
  (e:cI X.K ((tyD d).val G) c=Z b) (h:∀tk,Q (.bool b) { s with toks:=tk }):ah (model X.prog X.w) A (call (.builtin "isinstance") [u,c]) Q E s:=by
 cases d with
 |E=>unfold ef at hd;subst hd;exact wJ I i .E e h
 |I x=>unfold ef at hd;subst hd;exact wJ I i (.I x) e h
 |int x=>unfold ef at hd;subst hd;exact wJ I i (.int x) e h
 |str x=>unfold ef at hd;subst hd;exact wJ I i (.str x) e h
 |ea ds=>obtain⟨a,xs,rfl,f,m⟩:=hd;cases i;rw[<-hK]at f;obtain⟨r,_,p,_⟩:=I.tuple f;obtain⟨o,j,l,_⟩:=p;exact cy kc I.nq ⟨o,j,l⟩ e (λz=>nomatch z) h
 |b0 ds=>obtain⟨a,xs,rfl,f,m⟩:=hd;exact wJ I i (.b0 f) e h
 |O ds=>obtain⟨a,xs,rfl,f,m⟩:=hd;cases i;rw[<-hK]at f;obtain⟨r,_,p,_⟩:=I.list f;obtain⟨o,n,j,l,_⟩:=p;exact cy gB I.nq ⟨o,j,l⟩ e (λz=>nomatch z) h
 |M ks ds=>obtain⟨a,o,xs,rfl,f,m,q⟩:=hd;cases i;obtain⟨y,_,_,vs,_,ob,es,ep,j,l,_⟩:=(show e4 X.prog X.w H s.heap a (.n' o (.dK (ks.zip xs))) from I.fc a _ f);exact cy fQ I.nq ⟨ob,j,l.1⟩ e (λz=>nomatch z) h
 |R ks ds=>obtain⟨a,xs,rfl,⟨o,qs,f,_,q,_⟩,_⟩:=hd;cases i;exact cy fQ I.nq ⟨o,(show e4 X.prog X.w H s.heap a (.ext (isO a o)) from I.fc a _ f).1,q.ex.1⟩ e (λz=>nomatch z) h
 |obj k ns ds=>have ci:=t k ns ds J;obtain⟨a,dx,xs,rfl,f,m,q⟩:=hd;exact wJ I i (.ll f ci.cl ci.ha ci.hn ci.htk ci.hm) e h
def r6(t:Ty->Option Bool):D->Option D:=λd=>(t (tyD d)).map .I
def GN(c:Ty){t:Ty->Option Bool}(m:∀y b,t y=Z b->cI X.K (y.val G) (c.val G)=Z b)(l:∀k b,t (.c k)=Z b->Jc X.K (G.ca k))(hK:X.K=G.K:=by rfl):
  tG X (.builtin "isinstance") (λi H Q=>∃d x b,i=[x,c.v G]/\ef G H d x/\t (tyD d)=Z b/\Q (.I b) H):=by
 intro f s E H i C Q I r h;obtain⟨d,x,b,rfl,hd,e,q⟩:=h;obtain⟨u,p,rfl,o,a⟩:=vals2 r;have j:p=c.val G:=by cases c<;>exact a
 subst j;exact Og I hK hd o (λk A w z=>by subst z;exact l k b e) (m _ _ e) λB=>⟨.I b,H,I.tj _,J,q⟩
def Lf{e:Expr}{c:Ty}{t:Ty->Option Bool}{f:FE}(h:PE X e (tCB (λu H Q=>∃d x b,u=[x,c.v G]/\ef G H d x/\t (tyD d)=Z b/\Q (.I b) H) (BD (tF G f) (BD (tC (c.v G)) F8)))):PE X e (tF G (c1 (r6 t) f)):=PE.ee h λz H Q q=>by
 obtain⟨F,w,m,d,j,R,e,k⟩:=q;obtain⟨x,p,a⟩:=BL e;unfold r6 at a;cases i:t (tyD x)with
 |none=>rw[i]at a;cases a
 |some b=>rw[i]at a;cases a;exact⟨F,w,m,x,j,R,p,λv y o s l r=>⟨x,v,b,J,ef.mono l.sub _ _ r,i,k _ _ _ s l (ur b)⟩⟩
def tS(f g:FE):FA:=λe=>match f e with
 |some (.b0 c,a)=>match g a with
  |some (.b0 d,b)=>if c.length+d.length<=1000 then Z (c++d,b)else U
  |_=>U
 |_=>U
set_option tactic.hygienic true
def RA{a b:Expr}{f g:FE}{pos:Pos}(I:PE X a (tF G f))(M:PE X b (tF G g)):PE X (.BinOp a .Add b pos) (G? G (tS f g)):=PE.ee (KR Uz I M) λσ H Q N=>by
 obtain⟨F,T,q,d,W,R,e,k⟩:=N;unfold tS at e;split at e
 .rename_i xs c A;split at e
  .rename_i ys Y B;split at e
   .rename_i O;cases e;refine⟨F,T,q,_,c,R,A,λv t w s y r=>⟨F,c,t,_,_,y,B,λu H2 x o R2 S=>?_⟩⟩;have P:=ef.mono o _ _ r;obtain⟨a1,i,rfl,C,l⟩:=P;obtain⟨z,j,rfl,E,m⟩:=S;refine⟨a1,z,i,j,J,J,R2.sub _ _ C,R2.sub _ _ E,by rw[<-q9 l,<- q9 m];exact uq O,λp h=>?_⟩;exact k p _ _ _ (s.t o) (R2.i1 h _) rb (R2.ff h) (R2.jj h) (R2.apart h) (sV l m)
   .cases e
  .cases e
 .cases e
set_option tactic.hygienic false
def ue(f:FE):FA:=λc=>match f c with
 |some (d,a)=>match Oe d with
  |some b=>Z (b,a)
  |none=>U
 |none=>U
def Oh{e:Expr}{f:FE}(h:PE X e (tCB (λm H Q=>∃p c,m=[.ref p]/\(fx G.K H p c\/fy G.K H p c)/\∀l,H l=U->Q (.ref l) (e3 H l (.b0 c))) (vj G (ax f rK)))):PE X e (G? G (ue f)):=PE.ee h λM H Q x=>by
 obtain⟨F,o,q,E,A,R,e,k⟩:=x;unfold ue at e;rcases rL (f:=f) (ρ:=o)with i|⟨d,B,i⟩<;>simp only[i]at e
 .cases e
 .cases j:Oe d with
  |none=>simp only[j]at e;cases e
  |some t=>simp only[j]at e;cases e;refine⟨F,o,q,[d],_,R,by unfold ax;rw[i];rfl,λc C r s a rs=>?_⟩;obtain⟨v,I,rfl,z,y⟩:=rs;subst y;obtain⟨p,m,rfl,u,w⟩:=Ld z j;exact⟨p,m,J,Le a.sub u,λl b=>k l _ _ _ s (a.i1 b _) rb (a.ff b) (a.jj b) (a.apart b) w⟩
def Kb(hK:X.K=G.K:=by rfl):tG X (.type "list") (λb H Q=>∃p a,b=[.ref p]/\(fx G.K H p a\/fy G.K H p a)/\∀l,H l=U->Q (.ref l) (e3 H l (.b0 a))):=by rw[<-hK];exact HB
def Lg(f:FE):FE:=λc=>match f c with
 |some (.b0 b,a)=>Z (.ea b,a)
 |some (.ea b,a)=>Z (.ea b,a)
 |_=>U
set_option tactic.hygienic true
def Oi{e:Expr}{f:FE}(h:PE X e (tCB (λr H Q=>∃p b,r=[.ref p]/\((fx G.K H p b/\∀l,H l=U->Q (.ref l) (e3 H l (.ea b)))\/(fy G.K H p b/\Q (.ref p) H))) (vj G (ax f rK)))):PE X e (tF G (Lg f)):=PE.ee h λI H Q A=>by
 obtain⟨F,y,w,E,C,R,e,k⟩:=A;unfold Lg at e;split at e
 .rename_i r u i;cases e;refine⟨F,y,w,[_],_,R,by unfold ax;rw[i];rfl,λb z d s a rs=>?_⟩;obtain⟨v,B,rfl,c,o⟩:=rs;subst o;obtain⟨p,t,rfl,j,x⟩:=c;refine⟨p,t,J,.inl ⟨fx.of (a.sub _ _ j),λl m=>?_⟩⟩;exact k _ _ _ (s.t (rp (a.ff m) _)) (a.Bx m _) (As (fy.of rb) (b?.mono (rp (a.ff m) _) _ _ x))
 .rename_i r u i;cases e;refine⟨F,y,w,[_],_,R,by unfold ax;rw[i];rfl,λb z d s a rs=>?_⟩;obtain⟨v,B,rfl,c,o⟩:=rs;subst o;have q:=c;obtain⟨p,t,rfl,j,x⟩:=c;exact⟨p,t,J,.inr ⟨fy.mono a.sub j,k _ _ _ s a q⟩⟩
 .cases e
set_option tactic.hygienic false
def MI(hK:X.K=G.K:=by rfl):tG X (.type "tuple") (λb H Q=>∃p a,b=[.ref p]/\((fx G.K H p a/\∀l,H l=U->Q (.ref l) (e3 H l (.ea a)))\/(fy G.K H p a/\Q (.ref p) H))):=by rw[<-hK];exact Ga
def n3(xs:aW)(lo a:Option Int):aW:=(xs.drop (HT.f? xs.length 0 lo)).take (HT.f? xs.length xs.length a - HT.f? xs.length 0 lo)
def Jd{a:Hp}{b:aW}{d:bD}{lo c:Option Int}(r:b? G a b d):b? G a (n3 b lo c) (IE d lo c):=by unfold n3 IE;rw[<-q9 r];exact CC _ (CB _ r)
def tO(o:Option Int):TO:=λz H Q=>Q o H
def Oj{n:Int}{j pos}:PO X (Z (.Constant (.int n) j pos)) (tO (Z n)):=λa s b H Q I h=>K2 Nh a s b H Q I ⟨n,J,h⟩
def Yt:PO X U (tO U):=K1
def Zz(hK:X.K=G.K:=by rfl):SlR X (QH G.K):=by rw[<-hK];exact QI
end
def Sl.bor:Sl->Sl
 |.un=>.un
 |.q d=>.q d
 |.J a=>.q (.b0 a)
 |.pm a=>.q (.b0 a)
 |.dk _ _=>.un
 |.ob c b a=>.q (.obj c b a)
section
variable{X:Cx}{G:Bg}
theorem d6.bor(R:d6 G F σ ρ H0 H):d6 G ⟨H,H,[]⟩ σ (ρ.map Sl.bor) H H where
 sub:=ro.refl _
 g0:=ro.refl _
 keep:=λb o e z=>e
 fr:=λb o e=>.inl e
 am:=λa h=>by cases h
 len:=by rw[ae];exact R.len
 sl:=λi s e=>by
  rw[bp]at e;cases m:ρ[i]? with
  |none=>rw[m]at e;cases e
  |some t=>
   rw[m]at e;cases e;have ok:=R.sl i t m;cases t with
   |un=>trivial
   |q d=>obtain⟨v,f,l⟩:=ok;exact⟨v,f,ef.mono R.sub _ _ l⟩
   |J ds=>obtain⟨a,xs,f,l,q,r,p⟩:=ok;exact⟨_,f,Au l (b?.mono R.sub _ _ p)⟩
   |pm ds=>obtain⟨a,xs,f,l,q,r,p⟩:=ok;exact⟨_,f,Au l (b?.mono R.sub _ _ p)⟩
   |dk ks ds=>trivial
   |ob c ns ds=>obtain⟨a,dx,xs,f,l,q,r,p,u⟩:=ok;exact⟨_,f,by unfold ef;exact⟨a,dx,xs,J,l,p,b?.mono R.sub _ _ u⟩⟩
 ap:=λi j s t a z e z so=>by
  rw[bp]at e;cases m:ρ[i]? with
  |none=>rw[m]at e;cases e
  |some t=>rw[m]at e;cases e;cases t<;>cases so
def d6.unbor(R:d6 G F h ρ d H)(c:d6 G ⟨H,H,[]⟩ i f j a):d6 G F h ρ d a:=
 R.f5 (λb o e=>c.keep b o e (by simp)) (ro.refl _) (λb o e=>c.keep b o (R.sub _ _ e) (by simp)) λb o e=>.inl e
def HL(f:FE):FE:=λa=>match f (a.map Sl.bor)with
 |some (d,_)=>if uw d=γ then Z (d,a)else U
 |none=>U
def Fb(f:FT):FT:=λa=>match f (a.map Sl.bor)with
 |some (d,_)=>Z (d,a)
 |none=>U
set_option tactic.hygienic true
def Ve(h:PE X e (tF G f)):PE X e (tF G (HL f)):=PE.ee h λt H Q m=>by
 obtain⟨F,i,p,d,o,R,e,k⟩:=m;unfold HL at e;rcases rL (f:=f) (ρ:=i.map Sl.bor)with a|⟨x,b,a⟩<;>simp only[a]at e
 .cases e
 .split at e
  .rename_i c;cases e;refine⟨_,_,H,d,b,R.bor,a,λv q j s l r=>?_⟩;rw[vN r c];exact k _ _ _ (ro.refl _) (R.unbor l) (BO c _)
  .cases e
set_option tactic.hygienic false
def RB(h:PT X e (m5 G f)):PT X e (m5 G (Fb f)):=PT.ee h λq H Q l=>by
 obtain⟨F,c,o,d,m,R,e,k⟩:=l;unfold Fb at e;rcases rL (f:=f) (ρ:=c.map Sl.bor)with a|⟨x,b,a⟩<;>simp only[a]at e
 .cases e
 .cases e;exact⟨_,_,H,d,b,R.bor,a,λp i s j=>k _ _ (ro.refl _) (R.unbor j)⟩
def uG(g h:D->D->Option D)(d e f:FE):FE:=λi=>match d i with
 |some (x,b)=>match e b with
  |some (y,a)=>match g x y with
   |some (.I γ)=>match f a with
    |some (z,c)=>match h y z with
     |some w=>Z (w,c)
     |none=>U
    |none=>U
   |some (.I δ)=>Z (.I δ,a)
   |_=>U
  |none=>U
 |none=>U
set_option tactic.hygienic true
def Je(ho:ke G r g)(I:ke G r' Y):∀N H Q,tF G (uG g Y S T W) N H Q->JQ r r' (tF G S) (tF G T) (tF G W) N H Q:=λN H Q hh=>by
 obtain⟨F,m,H0,d,ρ',R,e,k⟩:=hh;unfold uG at e;rcases rL (f:=S) (ρ:=m)with p|⟨x,b,p⟩<;>simp only[p]at e
 .cases e
 rcases rL (f:=T) (ρ:=b)with A|⟨y,c,A⟩<;>simp only[A]at e
 .cases e
 refine⟨F,m,H0,x,b,R,p,λv H1 H1' s1 R1 r1=>⟨F,b,H1,y,c,R1,A,λu h i o R2 M=>?_⟩⟩;split at e
 .rename_i B;refine ho x y _ h i v u _ B R2.sub (ef.mono o _ _ r1) M λw l=>?_;have a:=l h (ro.refl _);refine⟨γ,a,IL ?_⟩;rcases rL (f:=W) (ρ:=c)with C|⟨z,ρ3,C⟩<;>simp only[C]at e
  .cases e
  cases E:Y y z with
  |none=>simp only[E]at e;cases e
  |some q=>simp only[E]at e;cases e;refine⟨F,c,h,z,_,R2,C,λt O j s3 P r3=>?_⟩;exact I y z _ O j u t Q E P.sub (ef.mono s3 _ _ M) r3 λw l=>k w O j (s1.t (o.t s3)) P (l _ (ro.refl _))
 .rename_i B;cases e;refine ho x y _ h i v u _ B R2.sub (ef.mono o _ _ r1) M λw l=>?_;have a:=l h (ro.refl _);exact⟨δ,a,IK (k _ _ _ (s1.t o) R2 (ur δ))⟩
 .cases e
set_option tactic.hygienic false
def Ol(w:g? X (bh h) r)(f:g? X (bh d) x)(u:ke G r g)(e:ke G x m)(o:PE X a (tF G i))(p:PE X b (tF G j))(q:PE X c (tF G l))
  (t:lastMarks [h,d] [b,c]=δ:=by with_unfolding_all rfl):PE X (.Compare a [h,d] [b,c] pos) (tF G (uG g m i j l)):=PE.ee (Nu w f o p q t) (Je u e)
def MJ(C:g? X (bh l) r)(i:g? X (bh f) E)(B:ke G r g)(h:ke G E u)(w:PE X a (tF G p))(x:PE X b (tF G q))(y:PE X c (tF G t))
  (A:lastMarks [l,f] [b,c]=δ:=by with_unfolding_all rfl):PT X (.Compare a [l,f] [b,c] pos) (m5 G (cT (uG g u p q t))):=PT.ee (Nv C i w x y A) λm H Q z=>by
 obtain⟨F,I,o,d,j,R,e,k⟩:=K8 m H Q z;exact Je B h m H _ ⟨F,I,o,d,j,R,e,k⟩
end
def Dt(P:aI)(w:ay)(K:ao)(b:Str->Option ab)(b1:Heap)(k:Nat)(x:Str)(c:aE)(d:Sp):Prop:=
 ∃(f:Addr) (a:bP),b x=Z (.ref f)/\de K (.ref f)=γ/\ki K a c []/\vv P w K b b1 Dk k f a c d
def HM(G:Bg)(P:aI)(w:ay)(d:Str->Option ab)(b1:Heap)(k:Nat)(x:Str)(c:Nat)(e:aE)(dvs:bD)(g:aW->Option (aE×aW)):Prop:=
 ∃(f:Addr) (b:bP) (a:List ab),Mk G.K (G.ca c) f/\d x=Z (.ref (G.ca c))/\ki G.K b e a/\eg dvs a/\vv P w G.K d b1 Dk k f b e (spI G c g)
def yL(G:Bg)(P:aI)(w:ay)(d:Str->Option ab)(b1:Heap)(k:Nat)(m:Str)(c:Nat)(h:aW->Option D):Prop:=
 ∃(f:Addr) (a:bP) (b:aE),Ms G.K (G.ca c)/\Meth G.K (G.ca c) m f/\ki G.K a b []/\vv P w G.K d b1 Dk k f a b (e? G h)
section
variable{X:Cx}{G:Bg}{k:Nat}{x m:Str}{p pos apos:Pos}{e o:Expr}{es:List Expr}{a:FA}{ps:aE}
def Du{c:Type}(g:aW->c):(λb=>g (b++[]))=g:=funext λb=>by rw[bI]
def Vf(D:Dt X.prog X.w X.K X.mg X.b1 k x ps (e? G g))(t:tR k X.A)(j:PA X (e::es) (vj G a))(r:Gl X x:=by rfl)(b:(x==("__debug__" : Str))=δ:=by decide)(l:aw (e::es) X.b'=(δ,eval e X.b')::aw es X.b':=by rfl)(hpl:(bC pos (aw es X.b')).any (·.1)=δ:=by rfl):
  PE X (.Call (.Name x p) (e::es) [] pos) (tF G (qY g a)):=by
 obtain⟨f,u,c,d,h,i⟩:=D;have q:=Rk (λz=>rW) (KZ (p:=p) i t r c d h .nil Gx j b l hpl);rw[Du]at q;exact q
def RD(D:Dt X.prog X.w X.K X.mg X.b1 k x ps (q0 G g))(t:tR k X.A)(j:PA X (e::es) (vj G a))(r:Gl X x:=by rfl)(b:(x==("__debug__" : Str))=δ:=by decide)(l:aw (e::es) X.b'=(δ,eval e X.b')::aw es X.b':=by rfl)(hpl:(bC pos (aw es X.b')).any (·.1)=δ:=by rfl):
  PE X (.Call (.Name x p) (e::es) [] pos) (G? G (sQ g a)):=by
 obtain⟨f,u,c,d,h,i⟩:=D;have q:=N2 (λz=>rW) (KZ (p:=p) i t r c d h .nil Gx j b l hpl);rw[Du]at q;exact q
def Om(D:Dt X.prog X.w X.K X.mg X.b1 k x ps (q0 G g))(l:tR k X.A)(j:Gl X x:=by rfl)(b:(x==("__debug__" : Str))=δ:=by decide):PE X (.Call (.Name x p) [] [] pos) (G? G (sQ g rK)):=by obtain⟨f,q,c,d,h,i⟩:=D;exact My (NA i l j c d h .nil Gx b)
def RE(M:HM G X.prog X.w X.mg X.b1 k x c ps dvs g)(hd:∀H,b? G H dds dvs)(y:tR (k+1) X.A)(r:PA X (e::es) (vj G a))(hK:X.K=G.K:=by rfl)(u:Gl X x:=by rfl)(b:(x==("__debug__" : Str))=δ:=by decide)
  (t:aw (e::es) X.b'=(δ,eval e X.b')::aw es X.b':=by rfl) (hpl:(bC pos (aw es X.b')).any (·.1)=δ:=by rfl):
  PE X (.Call (.Name x p) (e::es) [] pos) (tF G (rJ c (λd=>g (d++dds)) a)):=by
 obtain⟨f,z,d,h,l,i,q,j⟩:=M;rw[<-hK]at h i j;exact Rm hd (QC h j y u l i q Gx r b t hpl)
def Tc(M:∀c h,g c=Z h->yL G X.prog X.w X.mg X.b1 k m c h)(r:tR k X.A)(hK:X.K=G.K):∀C b,MT G g C b->MOk X C m b [] E0:=λC b h=>by obtain⟨c,h,e,rfl,rfl⟩:=h;obtain⟨f,q,ps,d,i,j,l⟩:=M c h e;rw[<-hK]at d i j l;exact⟨k,f,q,ps,[],d,i,l,r,j,.nil,Gx⟩
def MK(M:∀c h,g c=Z h->yL G X.prog X.w X.mg X.b1 k m c h)(j:tR k X.A)(i:PE X o (tF G f))(d:PA X (e::es) (vj G a))(hK:X.K=G.K:=by rfl)
  (hst:aw (e::es) X.b'=(δ,eval e X.b')::aw es X.b':=by rfl) (hpl:(bC pos (aw es X.b')).any (·.1)=δ:=by rfl)
  (l:eval (.Call (.Attribute o m apos) (e::es) [] pos) X.b'=(do
   let b<-eval o X.b'
   standAt apos.atName
   let (f,first)<-holding [b] (getMethod b m pl)
   callWith pos f first (bC pos (aw (e::es) X.b')) (backToKw pos (cW [] X.b'))):=by rfl):
  PE X (.Call (.Attribute o m apos) (e::es) [] pos) (tF G (se g m f a)):=Rl (N4 (MT G g) (Tc M j hK) i d hst hpl l)
def Kc(M:∀c h,g c=Z h->yL G X.prog X.w X.mg X.b1 k m c h)(i:tR k X.A)(d:PE X o (tF G f))(hK:X.K=G.K:=by rfl)
  (j:eval (.Call (.Attribute o m apos) [] [] pos) X.b'=(do
   let b<-eval o X.b'
   standAt apos.atName
   let (f,first)<-holding [b] (getMethod b m pl)
   callWith pos f first (bC pos (aw [] X.b')) (backToKw pos (cW [] X.b'))):=by rfl):
  PE X (.Call (.Attribute o m apos) [] [] pos) (tF G (se g m f rK)):=N5 (GK (MT G g) (Tc M i hK) d j)
end
section
variable{P:aI}{w:ay}{K:ao}{mg:Str->Option ab}{b1:Heap}{x qual:Str}{st:Stmt}{f T:Addr}{fd:bP}{N ps:aE}{k:Nat}{G:Bg}
abbrev Fc(P:aI)(w:ay)(K:ao)(mg:Str->Option ab)(b1:Heap)(N:aE)(qual:Str)(st:Stmt)(f:Addr)(cdv:ab)(A:aM)(d?:List Env)(s:af)(H:Hp)(E:XK):Cx:=(IA Dk P w K mg b1 N qual (rF st) f cdv A d? s H E).nox
theorem On(a:g=e0 np n b)(c:ps.length=np)(hN:N.length=n)(F:ζ K x qual st f fd)(S:uB N ps (rF st))(body:∀(cdv:ab) (A:aM) (d?:List Env) (s:af) (H:Hp) (E:XK),tR k (A.deeper (envOfC qual (rF st) s.heap.objs.size f cdv))->oz (Fc P w K mg b1 N qual st f cdv A d? s H E) (rZ st) (l? G b)):
  vv P w K mg b1 Dk (k+1) f fd ps (e? G g):=by
 subst a c hN;exact F.ok S (Yj Rf) λcdv A d? s H e Q E d h=>⟨_,body cdv A d? s H E d,Rb (by have:=bG c6 S.pre;rw[b9]at this;omega) h⟩
theorem Td(a:g=pk e n b)(c:ps.length=e)(hN:N.length=n)(F:ζ K x qual st f fd)(S:uB N ps (rF st))(body:∀(cdv:ab) (A:aM) (d?:List Env) (s:af) (H:Hp) (E:XK),tR k (A.deeper (envOfC qual (rF st) s.heap.objs.size f cdv))->oz (Fc P w K mg b1 N qual st f cdv A d? s H E) (rZ st) (l? G b)):
  vv P w K mg b1 Dk (k+1) f fd ps (q0 G g):=by
 subst a c hN;exact F.ok S (Yk Rg) λcdv A d? s H i Q E d h=>⟨_,body cdv A d? s H E d,Re (by have:=bG c6 S.pre;rw[b9]at this;omega) h⟩
def Te(d:∀a q,g a=Z q->a.length=i):∀b H Q E,spI G c g b H Q E->b.length=i+1:=λb H Q E h=>by obtain⟨p,l,t,j,a,o,m,rfl,_,_,_,r,e,_⟩:=h;rw[aF,<- q9 r,d _ _ e]
theorem Yu{ps:aE}(a:g=tH c i n b)(d:ps.length=i)(hN:N.length=n)(F:ζ K x qual st f fd)(S:uB N (p::ps) (rF st))(body:∀(cdv:ab) (A:aM) (d?:List Env) (s:af) (H:Hp) (E:XK),tR k (A.deeper (envOfC qual (rF st) s.heap.objs.size f cdv))->oz (Fc P w K mg b1 N qual st f cdv A d? s H E) (rZ st) (l? G b)):
  vv P w K mg b1 Dk (k+1) f fd (p::ps) (spI G c g):=by
 subst a d hN;exact F.ok S (Te λj q h=>(E2 h).1) λcdv A d? s H l Q E e h=>⟨_,body cdv A d? s H E e,Lb (by have:=bG c6 S.pre;rw[b9,aF]at this;omega) h⟩
theorem Vg{ps:aE}(a:g=tH c i n b)(d:ps.length=i)(hN:N.length=n)(F:Mw K x qual st f fd T)(S:uB N (p::ps) (rF st))(body:∀(cdv:ab) (A:aM) (d?:List Env) (s:af) (H:Hp) (E:XK),tR k (A.deeper (envOfC qual (rF st) s.heap.objs.size f cdv))->oz (Fc P w K mg b1 N qual st f cdv A d? s H E) (rZ st) (l? G b)):
  vv P w K mg b1 Dk (k+1) f fd (p::ps) (spI G c g):=by
 subst a d hN;exact F.ok S (Te λj q h=>(E2 h).1) λcdv A d? s H l Q E e h=>⟨_,body cdv A d? s H E e,Lb (by have:=bG c6 S.pre;rw[b9,aF]at this;omega) h⟩
end
section
variable{X:Cx}{G:Bg}
def xA(G:Bg)(a:Str->Option ab)(x:Str)(d:D):Prop:=∃(v:V) (u:ab),a x=Z u/\en v u/\∀H,ef G H d v
def Oo(h:xA G X.mg x d)(e:Gl X x:=by rfl)(hd:(x==("__debug__" : Str))=δ:=by decide):PE X (.Name x pos) (tF G (cC d)):=by obtain⟨v,u,a,b,c⟩:=h;exact QV (Ep e a b hd) c
def Ke:FS:=λz=>U
def sG(T:String):Ty->Option Bool
 |.b n=>if n="NoneType" then Z δ else if n="bool" then Z (T=="bool" ||T=="int")else if n="int" then Z (T=="int")else if n="str" then Z (T=="str")else if n="tuple" then Z (T=="tuple")else if n="list" then Z (T=="list")else if n="dict" then Z (T=="dict")else U
 |.c _=>U
def Oq:∀k b,sG T (.c k)=Z b->Jc X.K (G.ca k):=λk b h=>by cases h
def Kg:List String:=["NoneType", "bool", "int", "str", "tuple", "list", "dict"]
def Fd{T:String}(h:(Kg.all λn=>decide (cI X.K ((Ty.b n).val G) (.type T)=sG T (.b n)))=γ):∀y b,sG T y=Z b->cI X.K (y.val G) (.type T)=Z b:=λy b e=>by
 cases y with
 |c k=>cases e
 |b n=>
  by_cases a:n∈Kg
  .rw[bK (aC.1 h n a)];exact e
  .simp only[Kg,aN,bS,or_false,not_or]at a;simp[sG,a]at e
def Os:∀y b,sG "list" y=Z b->cI X.K (y.val G) (.type "list")=Z b:=Fd (by kernel_rfl)
def RF:∀y b,sG "str" y=Z b->cI X.K (y.val G) (.type "str")=Z b:=Fd (by kernel_rfl)
end
end L4
namespace L3
open PySem PySem.Spec PyProof.Rows L2
def RG{X:Cx}{spos:Pos}{er:List Nat}
  (O:X.nr=γ) (hN:X.N.Nodup) (T:X.N[i]?=Z y) (hyl:Loc X.b'.scope y) (P:PI X r iter wi)
  (body:∀(l:List (Str×Addr)) (C:Addr) (p:List Addr) (s:af) (H:Hp),PG (sX X c scope l C p s H) r g/\PIf (sX X c scope l C p s H) ifs tt/\PE (sX X c scope l C p s H) elt te)
  (hkind:scope.kind=.function:=by rfl) (hcell:(scope.names.all λy=>y.2 != .cell)=γ:=by rfl)
  (hloc:(scope.names.all λy=>y.2 != .local||scope.names.lookup y.1==Z .local)=γ:=by rfl)
  (hfree:(scope.names.all λy=>y.2 != .free||(X.b'.kindOf y.1==Z .cell||X.b'.kindOf y.1==Z .free))=γ:=by rfl)
  (f:c.length=k+er.length:=by rfl) (hcap:(c.drop k).map Z=er.map λj=>X.N[j]?:=by rfl)
  (hcf:((c.drop k).all λx=>scope.names.lookup x==Z .free)=γ:=by rfl)
  (S:∀x,gm iter X.b' x=pure x:=by intro _;rfl)
  (hsw:cY (.ListComp elt [⟨r,iter,ifs,0⟩] scope pos) (Z (.Name y py)) spos.line X.b'=pure γ:=by rfl)
  (hfy:X.fn y=γ\/X.b'.scope.names.lookup y=Z .local:=by first|exact .inl J|exact .inr J|assumption):
  PS X (.Assign [.Name y py] (.ListComp elt [⟨r,iter,ifs,0⟩] scope pos) spos) (BB (Dr wi g tt te k er) (wQ i)):=by
 intro B s σ H D I h;rw[exec_Assign_Name_used _ _ _ _ hsw];refine aq (nT (aq ?_));refine aq (cg (GB O P body hkind hcell hloc hfree f hcap hcf S I h λa C m u s4 F Q J' fpC qn=>?_) (λ_ s' R=>aA (aA R)) λ_ _ e=>e);obtain⟨oC,esC,nC,gC,dC,rC⟩:=id Q;have M:=J'.R' (λb d=>bV.1 d▸fpC) (λb d=>bV.1 d▸⟨oC,gC,λv z=>by rw[dC]at z;cases z⟩);refine fg (KO hN T hyl hfy _ s4 σ F (.ref a) (.ref a) (λt E=>D.nx t E) M J qn) λ_ s6 zz=>?_;obtain⟨w,G,A,q6⟩:=zz;obtain⟨W,Y,_⟩:=A.N' (C,oC) (bA _ (bA _ (wR (by simp) gC)));exact⟨m,⟨oC,esC,nC,W,dC,rC⟩,λh' q=>⟨w,G,A.m?.i' (λb o d e=>(q.2 b d).t e) Y fpC.2.1 fpC.2.2.2.1 fpC.2.2.2.2.1 fpC.2.2.2.2.2,q6⟩⟩
end L3
namespace L4
open PySem PySem.Spec PyProof.Rows L2 L3
section
variable{X:Cx}{G:Bg}
def Fe{st:Stmt}(h:PS X st (BB d g))(w:∀b H Q,a b H Q->d b H Q):PS X st (BB a g):=PS.ee h λE b H c=>w _ _ _ c
def ML{st:Stmt}{er:List Nat}(c:er.Nodup)(h:PS X st (BB (Dr (Z8 G s) (tFG G k g) (m5 G b) (tF G a) k er) (wQ i))):PS X st (l? G (sZ i (rh k er s g b a))):=IT (Fe h (HI c))
def Ot{st:Stmt}{er:List Nat}(c:er.Nodup)(h:PS X st (BB (Dr (Z8 G s) (tFG G k g) (m5 G b) (tF G a) k er) (wQ i))):PS X st (l? G (rO i (cL (rh k er s g b a)))):=La (Fe (Fe h (HI c)) Yi)
end
section
variable{f g h:FS}{c:FT}{e e' e2:FE}{a a':FA}{ρ ρ' ρ1 ρ2 ρ3:aO}{d x y z:D}{o:K?}{ds xs ys:aW}
def q8(h:f ρ=Z (.nx ρ')):bt f g ρ=g ρ':=by unfold bt;rw[h]
def sk(h:f ρ=Z (.rt d ρ')):bt f g ρ=Z (.rt d ρ'):=by unfold bt;rw[h]
def sP(h:c ρ=Z (γ,ρ')):fu c f g ρ=f ρ':=by unfold fu;rw[h]
def tY(h:c ρ=Z (δ,ρ')):fu c f g ρ=g ρ':=by unfold fu;rw[h]
def tI(h:e ρ=Z (d,ρ')):rO i e ρ=Z (.nx (ρ'.set i (.q d))):=by unfold rO;rw[h]
def Ew(h:a ρ=Z (ds,ρ')):sZ i a ρ=Z (.nx (ρ'.set i (.J ds))):=by unfold sZ;rw[h]
def rQ(h:e ρ=Z (d,ρ')):rj e ρ=Z (.rt d ρ'):=by unfold rj;rw[h]
def uC(h:a ρ=Z (ds,ρ')):sq a ρ=Z (.T ds ρ'):=by unfold sq;rw[h]
def sW(h:e ρ=Z (d,ρ')):rq e ρ=Z (.nx ρ'):=by unfold rq;rw[h]
def qZ{g:D->D->Option D}(b:e ρ=Z (x,ρ1))(i:e' ρ1=Z (y,ρ2))(j:g x y=Z z):c2 g e e' ρ=Z (z,ρ2):=by unfold c2;rw[b];simp only[i,j]
def rU{g:D->Option D}(b:e ρ=Z (x,ρ1))(i:g x=Z z):c1 g e ρ=Z (z,ρ1):=by unfold c1;rw[b];simp only[i]
def HN(b:e (ρ.map Sl.bor)=Z (d,ρ1))(i:uw d=γ):HL e ρ=Z (d,ρ):=by unfold HL;rw[b];simp only[i,if_true]
def RH(i:c (ρ.map Sl.bor)=Z (b,ρ1)):Fb c ρ=Z (b,ρ):=by unfold Fb;rw[i]
def sL(i:e ρ=Z (.I b,ρ1)):cT e ρ=Z (b,ρ1):=by unfold cT;rw[i]
def Av(i:c ρ=Z (b,ρ1)):tT c ρ=Z (!b,ρ1):=by unfold tT;rw[i]
def zN(j:c ρ=Z (δ,ρ1))(l:i ρ1=Z (b,ρ2)):vX c i ρ=Z (b,ρ2):=by unfold vX;rw[j];exact l
def qW(b:e ρ=Z (d,ρ1))(i:a ρ1=Z (ds,ρ2)):ax e a ρ=Z (d::ds,ρ2):=by unfold ax;rw[b];simp only[i]
def qX{b:Type}{g:aW->Option b}{r:b}(i:a ρ=Z (ds,ρ1))(j:g ds=Z r):CG g a ρ=Z (r,ρ1):=by unfold CG;rw[i];simp only[j]
def sm(b:a ρ=Z (ds,ρ1)):cL a ρ=Z (.b0 ds,ρ1):=by unfold cL;rw[b]
def Be(b:a ρ=Z (ds,ρ1))(i:ds.length<=1000):rB a ρ=Z (ds,ρ1):=by unfold rB;rw[b];simp only[i,if_true]
def ug(b:a ρ=Z (ds,ρ1))(i:ds.length<=1000):rN a ρ=Z (.ea ds,ρ1):=by unfold rN;rw[b];simp only[i,if_true]
def sY(b:e ρ=Z (.b0 xs,ρ1))(i:e' ρ1=Z (.b0 ys,ρ2))(j:xs.length+ys.length<=1000):tS e e' ρ=Z (xs++ys,ρ2):=by unfold tS;rw[b];simp only[i,j,if_true]
def vy(j:uv ρ i=Z b)(l:e ρ=Z (d,ρ1))(m:uv ρ1 i=Z es)(p:es.length<1000):uP i e ρ=Z (.E,putAt ρ1 i (es++[d])):=by unfold uP;rw[j];simp only[l,m,p,if_true]
def Ou(j:uv ρ i=Z b)(l:a ρ=Z (ds,ρ1))(m:uv ρ1 i=Z es)(p:es.length+ds.length<=1000):yj i a ρ=Z (.E,putAt ρ1 i (es++ds)):=by unfold yj;rw[j];simp only[l,m,p,if_true]
def wW{s:FA}{g:FG}(b:s ρ=Z (ds,ρ1)):uH s g f ρ=i2 g f ds ρ1:=by unfold uH;rw[b]
def Lh{k:Nat}{er:List Nat}{s:FA}{g:FG}{i:FT}{b:FE}(j:s ρ=Z (ds,ρ1))(l:ds.length<=1000):rh k er s g i b ρ=AK k er g i b ds ρ1:=by unfold rh;rw[j];simp only[l,if_true]
def CK(i:ds.length=j)(h:b (L4.C? n ds)=Z (.T xs ρ)):pk j n b ds=Z xs:=by unfold pk;rw[aj i,h]
def rH(i:ds.length=j)(h:b (L4.C? n ds)=Z (.rt d ρ)):e0 j n b ds=Z d:=by unfold e0;rw[aj i,h]
end
def uU(h:Bd a=γ\/Bd b=γ):vO (.int a) (.int b)=Z (.int (a * b)):=by unfold vO dI;simp only;rw[aj (by simpa using h)]
def yM(h:0<b):rM (.int a) (.int b)=Z (.int (a % b)):=by unfold rM dI;simp only;rw[aj (by simpa using h)]
def ub(h:0<b)(c:b<1073741824):sF (.int a) (.int b)=Z (.int (a / b)):=by unfold sF dI;simp only;rw[aj (by simp[h,c])]
def BP(h:0<=a)(b:a<2147483647):Bd a=γ:=by unfold Bd;simp only[aT,bR];omega
def ym:D->Option eu
 |.int i=>Z (.inl i)
 |.str x=>Z (.inr x)
 |_=>U
def wy:List eu->aW->eu->Option D
 |k::b,d::a,j=>if k=j then Z d else wy b a j
 |_,_,_=>U
def RI(e:List eu)(b:aW)(k:eu)(d:D):aW:=dw (λc a=>if c=k then d else a) e b
def Gf(b:List eu)(k:eu):Bool:=b.any λa=>decide (a=k)
section
variable{X:Cx}{G:Bg}{H:Hp}
def yO(h:ef G H d v)(e:ym d=Z k):v=kV k:=by
 cases d<;>first|cases e|skip
 all_goals (unfold ef at h;exact h)
theorem zO:∀{ks:List eu} {b:aW} {a:bD} (j:eu),b? G H b a->ks.length=a.length->match wy ks b j with
  |some d=>∃v,uY (ks.zip a) j=Z v/\ef G H d v
  |none=>uY (ks.zip a) j=U
 |[],b,a,j,r,l=>by cases b<;>rfl
 |k::ks,b,[],j,r,l=>by cases l
 |k::ks,[],x::a,j,r,l=>by unfold b? at r;cases r
 |k::ks,d::b,x::a,j,r,l=>by
  obtain⟨v,q,e,h,i⟩:=r;cases e;unfold wy;by_cases c:k=j
  .rw[aj c];exact⟨x,BH c,h⟩
  .rw[ak c];have m:=zO j i (by simpa using l);have f:uY ((k::ks).zip (x::a)) j=uY (ks.zip a) j:=BI c;rw[f];exact m
theorem HP:∀{a:List eu} {b:bD},a.length=b.length->((a.zip b).any λkv=>decide (kv.1=k))=Gf a k
 |[],b,_=>by cases b<;>rfl
 |c::a,[],l=>by cases l
 |c::a,x::b,l=>by unfold Gf;rw[dO,eK,eK,HP (by simpa using l)];rfl
theorem Li:∀{a:List eu} {b:bD},a.length=b.length->(a.zip b).map (λkv=>if kv.1=k then (kv.1,v)else kv)=a.zip (dw (λd x=>if d=k then v else x) a b)
 |[],b,_=>by cases b<;>rfl
 |d::a,[],l=>by cases l
 |d::a,x::b,l=>by
  rw[dO,aR,Li (by simpa using l),f9,dO];congr 1;by_cases c:d=k
  .rw[aj c,aj c]
  .rw[ak c,ak c]
theorem Jf(hd:ef G H d v):∀{c:List eu} {b:aW} {a:bD},b? G H b a->c.length=a.length->b? G H (RI c b k d) (dw (λf x=>if f=k then v else x) c a)
 |[],b,a,r,l=>by unfold RI;cases b<;>cases a<;>exact rW
 |f::c,b,[],r,l=>by cases l
 |f::c,[],x::a,r,l=>by unfold b? at r;cases r
 |f::c,m::b,x::a,r,l=>by
  obtain⟨w,q,e,i,j⟩:=r;cases e;unfold RI;rw[f9,f9];refine sd ?_ (Jf hd j (by simpa using l));by_cases h:f=k
  .rw[aj h,aj h];exact hd
  .rw[ak h,ak h];exact i
def _root_.L2.p'.kf(e:H a=Z (.n' o (.dK kvs))):p' H a (kV k) (uY kvs k):=.inl ⟨kvs,k,.inr ⟨o,e⟩,J,J⟩
def AM:D->D->Option D:=λx y=>match x,ym y with
 |.M b a,Z k=>wy b a k
 |_,_=>U
def RJ(hu:X.A.units+1<cLine)(S:PE X a (tF G f))(T:PE X b (tF G M))(Y:UA b:=by exact λs s=>J):PE X (.Subscript a b pos) (tF G (c2 AM f M)):=PE.ee (QK hu S T Y) λσ H Q W=>by
 obtain⟨F,ρ,r,d,o,R,e,k⟩:=W;obtain⟨x,y,h,E,I,c⟩:=BM e;refine⟨F,ρ,r,x,h,R,E,λv t z s1 C r1=>⟨F,h,t,y,o,C,I,λu B i q R2 r2=>?_⟩⟩;have m:=ef.mono q _ _ r1;cases x with
 |M ks ds=>
  unfold AM at c;cases l:ym y with
  |none=>simp only[l]at c;cases c
  |some j=>simp only[l]at c;obtain⟨p,ob,xs,rfl,N,O,P⟩:=m;have lv:=zO j P O;rw[c]at lv;obtain⟨w,w1,w2⟩:=lv;refine⟨p,w,J,?_,k w B i (s1.t q) R2 w2⟩;rw[yO r2 l,<- w1];exact p'.kf (R2.sub _ _ N)
 |_=>unfold AM at c;cases c
def zP:D->D->Option D:=λx y=>match x,ym y with
 |.M b a,Z k=>Z ((wy b a k).getD .E)
 |_,_=>U
def Ov(hu:X.A.units+1<cLine)(ha:PE X a (tF G f))(hb:PE X b (tF G Y))(m:M1 X a "get" apos b cpos):PE X (.Call (.Attribute a "get" apos) [b] [] cpos) (tF G (c2 zP f Y)):=PE.ee (NN hu ha hb m) λσ H Q hh=>by
 obtain⟨F,ρ,N,d,r,R,e,k⟩:=hh;obtain⟨x,y,i,T,W,c⟩:=BM e;cases x with
 |M I S=>
  refine⟨F,ρ,N,_,i,R,T,λv O P M B r1=>?_⟩;have q:=r1;obtain⟨p,ob,xs,rfl,E,h2,h3⟩:=q;refine⟨p,J,.inl ⟨_,.inr ⟨_,B.sub _ _ E⟩⟩,F,i,O,y,r,B,W,λu t h l R2 r2=>?_⟩;unfold zP at c;cases o:ym y with
  |none=>simp only[o]at c;cases c
  |some j=>
   simp only[o]at c;cases c;have lv:=zO j (b?.mono l _ _ h3) h2;refine⟨uY (I.zip xs) j,?_,?_⟩
   .rw[yO r2 o];exact p'.kf (R2.sub _ _ (l _ _ E))
   .cases C:wy I S j with
    |none=>rw[C]at lv k;rw[lv];exact k _ t h (M.t l) R2 wB
    |some z=>rw[C]at lv k;obtain⟨w,w1,w2⟩:=lv;rw[w1];exact k _ t h (M.t l) R2 w2
 |_=>unfold zP at c;cases c
def GO(i:Nat):FS:=λa=>Z (.nx (a.set i (.dk [] [])))
def Ow{st:Stmt}(h:PS X st (BB J2 (wQ i))):PS X st (l? G (GO i)):=PS.ee h λE u H l=>by obtain⟨F,r,m,o,R,e,k,q⟩:=l;cases e;intro p b;have c:=R.i1 b (.dK []);refine k _ _ _ (ro.refl _) (c.set ⟨p,[],J,rb,R.ff b,R.jj b,J,rW⟩ λz a d j t z f to=>?_);cases d;exact R.apart b j t f to
def v5(i:Nat)(fk fv:FE):FS:=λf=>match fv f with
 |some (d,b)=>match b[i]? with
  |some (.dk _ _)=>match fk b with
   |some (y,c)=>match ym y with
    |some k=>match c[i]? with
     |some (.dk a e)=>if a.length<1000 then if e.length=a.length then Z (.nx (c.set i (if Gf a k=γ then .dk a (RI a e k d)else .dk (a++[k]) (e++[d]))))else U else U
     |_=>U
    |none=>U
   |none=>U
  |_=>U
 |none=>U
set_option tactic.hygienic true
def Ox{st:Stmt}(h:PS X st (S5 (zI i) (tF G Q) (tF G S))):PS X st (l? G (v5 i Q S)):=PS.ee h λE σ H hh=>by
 obtain⟨F,q,Y,o,R,e,k,k2⟩:=hh;unfold v5 at e;rcases rL (f:=S) (ρ:=q)with t|⟨d,c,t⟩<;>simp only[t]at e
 .cases e
 split at e
 .rename_i ks0 ds0 ei;rcases rL (f:=Q) (ρ:=c)with w|⟨y,C,w⟩<;>simp only[w]at e
  .cases e
  cases z:ym y with
  |none=>simp only[z]at e;cases e
  |some j=>
   simp only[z]at e;split at e
   .rename_i A ds l;split at e
    .rename_i hl;split at e
     .rename_i hl2;cases e;refine⟨F,q,Y,d,c,R,t,λv H1 H1' s1 I r1=>?_⟩;obtain⟨m,xs0,a1,_⟩:=I.sl i _ ei;refine⟨_,u5 a1,F,c,H1,y,C,I,w,λu H2 r W R2 r2=>?_⟩;obtain⟨a,B,M,b2,N,O,b,P⟩:=R2.sl i _ l;rw[a1]at M;cases M;refine⟨m,e3 r m (.dK (ij (A.zip B) j v)),J,?_,?_⟩
      .rw[yO r2 z];exact NK.k b2 (by rw[fG];exact iq (Nat.min_le_left _ _) (yf (by omega)))
      .have T:=ef.mono W _ _ r1;refine k _ _ _ (s1.t W) (R2.mut l J a1 (λH' hH=>?_) ?_)
       .by_cases p:Gf A j=γ
        .rw[aj p];refine⟨m,dw (λk' x=>if k'=j then v else x) A B,J,?_,N,O,by rw[jC,b,fP],Jf T P b⟩;rw[hH];unfold ij;rw[HP b,aj p,Li b]
        .rw[ak p];refine⟨m,B++[v],J,?_,N,O,by rw[au,au,b];rfl,sV P (sd T rW)⟩;rw[hH];unfold ij;rw[HP b,ak p,jV b];rfl
       .split<;>rfl
     .cases e
    .cases e
   .cases e
 .cases e
set_option tactic.hygienic false
def Fg:D->Option D
 |.b0 a=>(Ge a).map λbs=>.I (bs.any id)
 |_=>U
def MM(x:X.nr=γ)(hK:X.K=G.K:=by rfl):tG X (.builtin "any") (λw H Q=>∃(p:Addr) (bs:List Bool),w=[.ref p]/\fx G.K H p (bs.map V.I)/\Q (.I (bs.any id)) H):=by
 rw[<-hK];intro m s T H w S Q I r h;obtain⟨p,bs,rfl,C,q⟩:=h;obtain⟨u,rfl,j⟩:=mi r;cases j;obtain⟨f,t,pl,O⟩:=I.list C;have hlt:p<s.heap.objs.size:=by obtain⟨o,B,_⟩:=pl.isList;exact aV B
 have z:=by have:=t.length;rw[ae]at this;exact this
 refine call_any_walk (gk pl.isList ⟨s.heap.objs.size,_,_,_,_,_,λi=>(bs[i]?).getD δ,J,i6 (show X.A.in1.handled=U from I.ok.hd x) _ p (bu hlt) f.toArray,⟨⟨_,bH _ J,J,J⟩,?_⟩,?_,λN R y=>?_⟩)
 .exact pl.isList.at λo e=>aX _ e
 .intro i v P M F E hQ';have c:=by simpa using E
  have a:=(bZ.1 c).1;have d:(bs.map V.I)[i]?=Z (.I (bs[i]'(by omega))):=by simp[show i<bs.length by omega]
  obtain⟨u,l,j⟩:=t.get d;rw[c]at l;cases l;cases j;refine c4 ?_;have e:(bs[i]?).getD δ=bs[i]'(by omega):=by simp[show i<bs.length by omega]
  rw[<-e];exact hQ'
 .refine⟨.I (bs.any id),H,?_,?_,q⟩
  .exact I.i0 λb o e=>y b o (by simp;exact bu (aV e)) (aX _ e)
  .show Value.bool _=Value.bool _;congr 1;rw[aZ,<- z];rw[dR];simp only[fF,bz,id];constructor
   .rintro⟨i,a,h⟩;exact⟨bs[i],gv a,by simpa [a]using h⟩
   .rintro⟨b,d,h⟩;obtain⟨i,a,rfl⟩:=lY.1 d;exact⟨i,a,by simpa [a]using h⟩
def Vh:Ds G (λd H Q=>∃(p:Addr) (bs:List Bool),d=[.ref p]/\fx G.K H p (bs.map V.I)/\Q (.I (bs.any id)) H) Fg:=λx z j H v Q e s i k=>by
 cases x with
 |b0 f=>
  unfold Fg at e;simp only at e;cases b:Ge f with
  |none=>rw[b]at e;cases e
  |some bs=>rw[b]at e;cases e;obtain⟨a,d,rfl,c,h⟩:=i;rw[E9 h b]at c;exact⟨a,bs,J,s.seq (fx.of c),k _ λw w=>ur _⟩
 |_=>cases e
def iS(f:FE):FA:=λb=>match f b with
 |some (.str x,a)=>Z (x.cps.toList.map λc=>D.str ⟨#[c]⟩,a)
 |_=>U
set_option tactic.hygienic true
def RK(h:PI X N e (Ya (tF G f))):PI X N e (Z8 G (iS f)):=PI.ee h λσ H R E=>by
 obtain⟨F,O,p,Y,P,R,e,k⟩:=E;unfold iS at e;split at e
 .rename_i x Q B;cases e;refine⟨F,O,p,_,_,R,B,λv S q s A r=>?_⟩;refine⟨x,r,k _ _ _ s A λi u w t M=>⟨λd j=>?_,λI=>?_⟩⟩
  .rw[bp]at j;cases m:x.cps.toList[i]? with
   |none=>rw[m]at j;cases j
   |some c=>
    rw[m]at j;cases j;have a:=by simpa using m
    refine⟨(la.1 a).1,λz T y=>?_⟩;obtain⟨C,W,l,rfl⟩:=y;rw[a]at l;cases l;subst C;exact⟨u,ro.refl _,M,ro.refl _,λb o e=>.inl e,u4 _⟩
  .show i=x.cps.size;rw[I,ae];simp
 .cases e
set_option tactic.hygienic false
def wX(f g:FE):FE:=λe=>match f e with
 |some (.ea (x::c),a)=>match g a with
  |some (.ea d,b)=>if c.length+d.length<=900 then Z (.ea (x::c++d),b)else U
  |_=>U
 |_=>U
set_option tactic.hygienic true
def RM(T:PE X a (tF G f))(W:PE X b (tF G g))(hK:X.K=G.K:=by rfl):PE X (.BinOp a .Add b pos) (tF G (wX f g)):=PE.ee (KR K3 T W) λσ H Q Y=>by
 rw[hK];obtain⟨F,ρ,y,d,ρ',R,e,k⟩:=Y;unfold wX at e;split at e
 .rename_i x xs c M;split at e
  .rename_i ys ρ2 N;split at e
   .rename_i hl;cases e;refine⟨F,ρ,y,_,c,R,M,λv A B s E r=>⟨F,c,A,_,_,E,N,λu H2 C l R2 r2=>?_⟩⟩;have w:=ef.mono l _ _ r;have r0:=w;obtain⟨a1,m,rfl,P,q⟩:=w;obtain⟨I,o,rfl,S,t⟩:=r2;have h:=q9 q;have j:=q9 t;rw[aF]at h;refine⟨a1,I,m,o,J,J,fy.mono R2.sub P,fy.mono R2.sub S,(λz=>by rw[z]at h;cases h),by rw[<-h,<- j];exact uq (by omega),λz=>?_,λ_ p i=>?_⟩
    .have O:=by rw[z]at j;exact fZ.1 j
     subst O;rw[bI]at k;exact k _ _ _ (s.t l) R2 r0
    .exact k _ _ _ ((s.t l).t (rp (R2.ff i) _)) (R2.Bx i _) (As (fy.of rb) (b?.mono (rp (R2.ff i) _) _ _ (sV q t)))
   .cases e
  .cases e
 .cases e
end
set_option tactic.hygienic false
section
variable{X:Cx}{G:Bg}
abbrev FO:=aO->Option (Option Int×aO)
def tFO(G:Bg)(f:FO):TO:=λi H Q=>∃F h e d b,d6 G F i h e H/\f h=Z (d,b)/\∀a c,ro e a->d6 G F i b a c->Q d c
def oNo:FO:=λa=>Z (U,a)
def T1(f:FE):FO:=λb=>match f b with
 |some (.int i,a)=>Z (Z i,a)
 |_=>U
def PO.ee(h:PO X e t)(w:∀b H Q,d b H Q->t b H Q):PO X e d:=λa s b H Q I c=>h a s b H Q I (w _ _ _ c)
def Vi:PO X U (tFO G oNo):=PO.ee K1 λh H Q a=>by obtain⟨F,f,c,d,b,R,e,k⟩:=a;cases e;exact k _ _ (ro.refl _) R
set_option tactic.hygienic true
def Vj(h:PE X e (tF G f)):PO X (Z e) (tFO G (T1 f)):=PO.ee (K2 h) λt H Q l=>by
 obtain⟨F,m,a,d,o,R,e,k⟩:=l;unfold T1 at e;split at e
 .rename_i i p j;cases e;refine⟨F,m,a,_,_,R,j,λv q b s c r=>?_⟩;unfold ef at r;exact⟨i,r,k _ _ s c⟩
 .cases e
set_option tactic.hygienic false
def Gg(f:FE)(lo hi:FO):FA:=λi=>match f i with
 |some (d,c)=>match d with
  |.b0 e=>match lo c with
   |some (l,a)=>match hi a with
    |some (h,b)=>Z (n3 e l h,b)
    |none=>U
   |none=>U
  |.O e=>match lo c with
   |some (l,a)=>match hi a with
    |some (h,b)=>Z (n3 e l h,b)
    |none=>U
   |none=>U
  |_=>U
 |none=>U
def Kh{lo:FO}(h:PE X e (tSl (QH G.K) (tF G f) (tFO G lo) (tFO G w))):PE X e (G? G (Gg f lo w)):=PE.ee h λσ H Q hh=>by
 obtain⟨F,q,N,Y,E,R,e,k⟩:=hh;unfold Gg at e;rcases rL (f:=f) (ρ:=q)with y|⟨d,c,y⟩<;>simp only[y]at e
 .cases e
 have q?:∀(i:aW),(∀{m:Hp} {v:V},ef G m d v->∃a j,v=.ref a/\fx G.K m a j/\b? G m i j)->(match lo c with
   |some (l,b)=>match w b with
    |some (h,t)=>Z (n3 i l h,t)
    |none=>U
   |none=>U)=Z (Y,E)->tSl (QH G.K) (tF G f) (tFO G lo) (tFO G w) σ H Q:=λi rd e=>by
  rcases rL (f:=lo) (ρ:=c)with z|⟨l,b,z⟩<;>simp only[z]at e
  .cases e
  rcases rL (f:=w) (ρ:=b)with A|⟨u,t,A⟩<;>simp only[A]at e
  .cases e
  cases e;refine⟨F,q,N,d,c,R,y,λv m O s1 W r1=>⟨F,c,m,l,b,W,z,λP S I R2=>⟨F,b,P,u,_,R2,A,λH3 T M o=>?_⟩⟩⟩;obtain⟨a,j,rfl,B,C⟩:=rd (ef.mono (I.t M) _ _ r1);exact⟨a,j,J,o.sub.seq B,λp x=>k p _ _ _ (s1.t (I.t M)) (o.i1 x _) rb (o.ff x) (o.jj x) (o.apart x) (Jd C)⟩
 cases d with
 |b0 i=>exact q? i (λr=>by unfold ef at r;obtain⟨a,j,rfl,B,C⟩:=r;exact⟨a,j,J,fx.of B,C⟩) e
 |O i=>exact q? i (λr=>by unfold ef at r;exact r) e
 |_=>cases e
def Lj:D->D->Option D
 |.str x,.int n=>if 0<=n/\n<=1000/\x.length<=100 then Z (.str (i8 x n))else U
 |_,_=>U
end
section
variable{X:Cx}{G:Bg}
def Dw(f e h:FE):FE:=λj=>match f j with
 |some (.M i d,a)=>match e a with
  |some (y,b)=>match h b with
   |some (x,c)=>match ym y with
    |some k=>Z ((wy i d k).getD x,c)
    |none=>U
   |none=>U
  |none=>U
 |_=>U
set_option tactic.hygienic true
def Oy(hu:X.A.units+1<cLine)(ha:PE X a (tF G f))(hb:PE X b (tF G P))(hc:PE X c (tF G S))(m:M2 X a "get" apos b c cpos):PE X (.Call (.Attribute a "get" apos) [b,c] [] cpos) (tF G (Dw f P S)):=PE.ee (NO hu ha hb hc m) λσ H Q hh=>by
 obtain⟨F,I,H0,d,ρ',R,e,k⟩:=hh;unfold Dw at e;split at e
 .rename_i o ds h e1;rcases rL (f:=P) (ρ:=h)with B|⟨y,i,B⟩<;>simp only[B]at e
  .cases e
  rcases rL (f:=S) (ρ:=i)with C|⟨x,ρ3,C⟩<;>simp only[C]at e
  .cases e
  cases E:ym y with
  |none=>simp only[E]at e;cases e
  |some j=>
   simp only[E]at e;cases e;refine⟨F,I,H0,_,h,R,e1,λv H1 H1' Y N W=>?_⟩;unfold ef at W;obtain⟨p,ob,xs,rfl,T,h2,h3⟩:=W;refine⟨p,J,.inl ⟨_,.inr ⟨_,N.sub _ _ T⟩⟩,F,h,H1,y,i,N,B,λu H2 H2' q R2 r2=>⟨F,i,H2,x,_,R2,C,λz M l r t r3=>?_⟩⟩;have lv:=zO (ks:=o) j (b?.mono (q.t r) _ _ h3) h2;refine⟨uY (o.zip xs) j,?_,?_⟩
   .rw[yO r2 E];exact p'.kf (t.sub _ _ (r _ _ (q _ _ T)))
   .cases O:wy o ds j with
    |none=>rw[O]at lv k;rw[lv];exact k _ M l (Y.t (q.t r)) t r3
    |some w=>rw[O]at lv k;obtain⟨w',w1,w2⟩:=lv;rw[w1];exact k _ M l (Y.t (q.t r)) t w2
 .cases e
set_option tactic.hygienic false
def Fh(G:Bg)(c:Nat)(t:Ty->Option Bool):Prop:=(∀y b,t y=Z b->cI G.K (y.val G) (.ref (G.ca c))=Z b)/\∀j b,t (.c j)=Z b->Jc G.K (G.ca j)
def Ki(h:Fh G c t)(hK:X.K=G.K:=by rfl):tG X (.builtin "isinstance") (λa H Q=>∃d x b,a=[x,(Ty.c c).v G]/\ef G H d x/\t (tyD d)=Z b/\Q (.I b) H):=
 GN (X:=X) (.c c) (by rw[hK];exact h.1) (by rw[hK];exact h.2) hK
end
def η(acc:List eu)(k:eu):List eu:=if acc.any (λz=>decide (z=k))then acc else acc++[k]
def xw(a:List eu):List eu:=a.foldl η []
def RN(acc:List eu)(k j:eu):(η acc k).any (λz=>decide (z=j))=(acc.any (λz=>decide (z=j))||decide (j=k)):=by
 unfold η;by_cases h:acc.any (λz=>decide (z=k))=γ
 .rw[aj h];by_cases e:j=k
  .subst e;rw[h];simp
  .simp[e]
 .rw[ak h,List.any_append];by_cases e:j=k
  .subst e;simp
  .have a:¬k=j:=λz=>e z.symm;simp[a,e]
def Lk(acc:List eu)(k:eu):(η acc k).length=if acc.any (λz=>decide (z=k))=γ then acc.length else acc.length+1:=by unfold η;split<;>simp
def GP(a:List eu)(i:Nat)(h:i<a.length):xw (a.take (i+1))=η (xw (a.take i)) a[i]:=by unfold xw;rw[fC,bb h,List.foldl_append];rfl
def Oz(a:List eu):(xw a).length<=a.length:=by
 have q?:∀(l:List eu) (acc:List eu),(l.foldl η acc).length<=acc.length+l.length:=by
  intro l
  induction l with
  |nil=>intro acc;simp
  |cons k l b=>
   intro acc;rw[iJ,aF];have c:=b (η acc k);have d:(η acc k).length<=acc.length+1:=by rw[Lk];split<;>omega
   omega
 have:=q? a [];simpa [xw]using this
def set_same{h:Heap}(hS:h.SetOf (rA prog w) a S n)(e:∀k,S k=b k)(c:n=d):h.SetOf (rA prog w) a b d:=by obtain rfl:S=b:=funext e;subst c;exact hS
section
variable{prog:aI}{w:ay}{A:aM}{R:eU->af->Prop}{I:Addr}{fp wr:List Addr}{GG:Array eQ->Array eQ->Prop}{n:Nat}{PP:Nat->ab->Prop}{SS:Nat->af->Prop}
def OA(W:WalksS prog w A.in1 I fp wr GG n PP SS)(S:Addr)(hSf:S∉fp)(a:List eu)(G:a.length=n)
  (hval:∀i v (h:i<a.length),PP i v->(rA prog w).is a[i] v=γ/\v.scannable=γ) (F:n+1<scanBound):∀(k i:Nat) (s:af),n - i=k->i<=n->SS i s->
   s.heap.SetOf (rA prog w) S (λj=>(xw (a.take i)).any (λz=>decide (z=j))) (xw (a.take i)).length->
   (∀c,Moved (S::wr) GG s c->c.heap.SetOf (rA prog w) S (λj=>(xw a).any (λz=>decide (z=j))) (xw a).length->R (.ok (.ret .none)) c)->
   cn (model prog w) A (.builtin "set.update.loop" ⟨[.ref S,.ref I],[]⟩) R s:=by
 have hSw:=λz=>hSf ((W).sub _ z);have r:∀b∈wr,b∈S::wr:=λb z=>aY _ z;intro k
 induction k with
 |zero=>
  intro i s B x hst hS hR;obtain rfl:i=n:=by omega
  refine fH ic ?_;rw[gh fz _];show ah _ A.in1 (pyNext (.ref I)>>=_) _ _ s;refine aq (W.done s _ _ hst λc d=>?_);rw[ie (by omega)]at hS;refine aA (hR c (d.mono r) ?_);obtain⟨o,m,l,t,p,more⟩:=hS;exact⟨o,m,l,t,d.heap S _ hSw p,more⟩
 |succ k C=>
  intro i s B x hst hS hR;have hlt:i<n:=by omega
  have hlk:i<a.length:=by omega
  refine fH ic ?_;rw[gh fz _];show ah _ A.in1 (pyNext (.ref I)>>=_) _ _ s;refine aq (W.item i s _ _ hlt hst λv c hP hst' d=>?_);obtain⟨kv,E⟩:=hval i v hlk hP;have hS':c.heap.SetOf (rA prog w) S (λj=>(xw (a.take i)).any (λz=>decide (z=j))) (xw (a.take i)).length:=by obtain⟨o,m,l,t,p,more⟩:=hS;exact⟨o,m,l,t,d.heap S _ hSw p,more⟩
  refine aq (dZ ?_);unfold setAdd;refine dZ ?_;refine aq ((rA prog w).pyHash kv ?_);have room:(xw (a.take i)).length+1<scanBound:=by have:=Oz (a.take i);rw[b9]at this;omega
  refine wpAny_setAddHashed_of kv E hS' room λu hsb hS2=>?_;have hSi:u.SetOf (rA prog w) S (λj=>(xw (a.take (i+1))).any (λz=>decide (z=j))) (xw (a.take (i+1))).length:=
   set_same hS2 (λj=>by rw[GP a i hlk,RN]) (by rw[GP a i hlk,Lk])
  refine aA ⟨j6 fz _,C (i+1) _ (by omega) hlt (W.frame _ c _ _ hst' (iW _) λb z o e=>?_) hSi λq f hS''=>?_⟩
  .rw[hsb.2 b (λy:b=S=>hSf (by rw[<-y];exact z))];exact e
  .refine hR q (ou W.gtrans ((d.mono r).then_heap (iW _) λb o z e=>?_) f) hS'';rw[hsb.2 b (λy:b=S=>z (by rw[y];exact bc))];exact e
end
def RO(l:Addr)(us:Array ab)(m:Nat)(b:Addr)(o:Obj)(ws:Array ab)(i:Nat)(f:o.cls=.type "tuple")(hd:o.data=.seq ws i)(F:¬(!us.isEmpty&&fY (us.size+ws.size))=γ)(j:us.size<=aB)(p:us.size+ws.size<=aB+1):
  Meets (Builtin.«list.extend» ⟨[.ref l,.ref b],[]⟩) (λk R s=>s.heap.get? l=Z { cls:=.type "list", data:=.seq us m }/\s.heap.get? b=Z o/\R (.ok (.ret Value.none)) { s with heap:=s.heap.update l (kB λx=>x++ws),toks:=s.toks }):=by
 obtain⟨c,r,data,sl⟩:=o;cases f;cases hd;refine .of_wp λprog w A R s h=>?_;obtain⟨B,g,d,tk,os⟩:=s;obtain⟨a,e,h⟩:=h;have t:=AutoSeq1.sub_tuple_tuple;have u:=AutoSeq1.sub_list_list;have y:=AutoSeq1.sub_tuple_list;have z:=AutoSeq1.sub_list_tuple;have q:(us++ws).size<=aB+1:=Array.size_append (xs:=us) (ys:=ws)▸p
 wp_walk using (wpAny_updateSeq a J (hz:=j) (_hz':=q)),lh a,lh e
 exact⟨_,J,h⟩
section
variable{X:Cx}{G:Bg}
def Jg(K:ao):V->bD->Hp->VK->Prop:=λx d H Q=>∃l b a c,x=.ref l/\d=[.ref b]/\H l=Z (.b0 a)/\fy K H b c/\a.length+c.length<=aB/\Q .E (e3 H l (.b0 (a++c)))
def Kj:MtM X "list.extend" (Jg X.K):=by
 intro i s R H x N v M Q I C B h;obtain⟨l,b,O,P,rfl,rfl,hH,hB,F,q⟩:=h;cases C;obtain⟨u,rfl,A⟩:=B.one;cases A;obtain⟨z,c,n,r,E,e⟩:=I.Hj hH;obtain⟨a,j,⟨o,m,p,y,hd⟩,w⟩:=I.tuple hB;have t:=j.length;have d:c.toArray.size+a.toArray.size<=aB:=by rw[aZ,aZ];omega
 have hlong:¬(!c.toArray.isEmpty&&fY (c.toArray.size+a.toArray.size))=γ:=by rw[IF d,nD];exact br
 refine gE il ⟨_,e,J⟩ mh (lS _ _)
  (RO l c.toArray n b o a.toArray y p hd hlong (by rw[aZ];omega) (by omega)) ⟨e,m,?_⟩
 refine⟨.E,_,I.lset (its':=c++a) hH e (by simp) (r.append j) ?_,J,q⟩;rw[au];omega
def zQ(i:Nat)(f:FE):FE:=λd=>match uv d i with
 |some _=>match f d with
  |some (.ea c,a)=>match uv a i with
   |some b=>if b.length+c.length<=1000 then Z (.E,putAt a i (b++c))else U
   |none=>U
  |_=>U
 |none=>U
set_option tactic.hygienic true
def Kk(h:PE X e (tBM G.K "list" (Jg G.K) (zI i) (BD (tF G f) F8))):PE X e (tF G (zQ i f)):=PE.ee h λσ H Q A=>by
 obtain⟨F,c,w,d,P,R,e,k⟩:=A;unfold zQ at e;cases j:uv c i with
 |none=>simp only[j]at e;cases e
 |some z=>
  simp only[j]at e;rcases rL (f:=f) (ρ:=c)with l|⟨x,b,l⟩<;>simp only[l]at e
  .cases e
  .cases x with
   |ea Y=>
    cases m:uv b i with
    |none=>simp only[m]at e;cases e
    |some W=>
     simp only[m]at e;split at e
     .rename_i B;cases e;obtain⟨a,N,r,E,s3,_⟩:=vM R j;refine⟨.ref a,r,.inl ⟨J,N,fx.of E⟩,F,c,w,_,b,R,l,λv S y s q rs=>?_⟩;unfold ef at rs;obtain⟨p,O,rfl,C,rs⟩:=rs;obtain⟨T,o,t,I,u,M⟩:=vM q m;rw[r]at t;cases t;refine⟨a,p,o,O,J,J,I,fy.mono q.sub C,?_,k _ _ _ s (M _ _ (sV u rs)) wB⟩;rw[<-q9 u,<- q9 rs];exact uq B
     .cases e
   |_=>cases e
end
set_option tactic.hygienic false
section
variable{X:Cx}{G:Bg}{H:Hp}
def Vk{h:cE}{E:St}{s:af}{d:D}{v:V}{u:ab}(I:eb X h E H s)(hK:X.K=G.K)(hd:ef G H d v)(c:en v u)(B:∀k r e,d=.obj k r e->Jc X.K (G.ca k)):
  ∃HH:Heap->Prop,W.KitX X.K u ((tyD d).val G) HH/\HH s.heap/\u≠.builtin "__main__.__loader__#opaque" := by
 cases d with
 |E=>unfold ef at hd;subst hd;cases (show u=Value.none from c);exact⟨_,om,True.intro,λz=>nomatch z⟩
 |I x=>unfold ef at hd;subst hd;cases (show u=Value.bool x from c);exact⟨_,oo,True.intro,λz=>nomatch z⟩
 |int x=>unfold ef at hd;subst hd;obtain⟨t,q⟩:=(show ∃t,u=Value.int x t from c);cases q;exact⟨_,W.kitx_int,True.intro,λz=>nomatch z⟩
 |str x=>unfold ef at hd;subst hd;obtain⟨t,q⟩:=(show ∃t,u=Value.str x t from c);cases q;exact⟨_,W.kitx_str,True.intro,λz=>nomatch z⟩
 |ea e=>obtain⟨a,f,rfl,b,l⟩:=hd;cases c;rw[<-hK]at b;obtain⟨p,_,⟨o,i,j,_⟩,_⟩:=I.tuple b;exact⟨_,kc,⟨o,i,j⟩,λz=>nomatch z⟩
 |b0 e=>obtain⟨a,f,rfl,b,l⟩:=hd;cases c;obtain⟨_,_,n,_,q⟩:=(show e4 X.prog X.w H s.heap a (.b0 f) from I.fc a _ b);exact⟨_,gB,⟨_,q,J⟩,λz=>nomatch z⟩
 |O e=>obtain⟨a,f,rfl,b,l⟩:=hd;cases c;rw[<-hK]at b;obtain⟨p,_,⟨o,n,i,j,_⟩,_⟩:=I.list b;exact⟨_,gB,⟨o,i,j⟩,λz=>nomatch z⟩
 |M y e=>obtain⟨a,C,f,rfl,b,l,m⟩:=hd;cases c;obtain⟨_,_,_,R,_,o,N,M,i,j,_⟩:=(show e4 X.prog X.w H s.heap a (.n' C (.dK (y.zip f))) from I.fc a _ b);exact⟨_,fQ,⟨o,i,j.1⟩,λz=>nomatch z⟩
 |R y e=>obtain⟨a,f,rfl,⟨o,Q,b,_,m,_⟩,_⟩:=hd;cases c;exact⟨_,fQ,⟨o,(show e4 X.prog X.w H s.heap a (.ext (isO a o)) from I.fc a _ b).1,m.ex.1⟩,λz=>nomatch z⟩
 |obj k r e=>have ci:=B k r e J;obtain⟨a,F,f,rfl,b,l,m⟩:=hd;cases c;obtain⟨mA,O,_⟩:=BC I.fc b;obtain⟨P,A,_⟩:=O.look;exact⟨_,W.kitx_own (ci.cl.get _) ci.cl.hd ci.ha ci.hn ci.htk ci.hm,A,λz=>nomatch z⟩
def MN(G:Bg)(cs:List Nat):bD:=cs.map λc=>.ref (G.ca c)
def OB(G:Bg)(cs:List Nat):List ab:=cs.map λc=>.ref (G.ca c)
def OC(cs:List Nat){a:List ab}(r:eg (MN G cs) a):a=OB G cs:=by
 induction cs generalizing a with
 |nil=>cases r;rfl
 |cons c cs b=>
  cases r with
  |cons r rr=>cases r;exact bG _ (b rr)
def Ll(G:Bg)(cs:List Nat)(t:Ty->Option Bool):Prop:=(∀y b,t y=Z b->W.kitAny G.K (y.val G) (OB G cs)=Z b)/\∀j b,t (.c j)=Z b->Jc G.K (G.ca j)
def Kl{cs:List Nat}{t:Ty->Option Bool}(i:Ll G cs t)(hK:X.K=G.K:=by rfl):tG X (.builtin "isinstance") (λl H Q=>∃d x b a,l=[x,.ref a]/\H a=Z (.ea (MN G cs))/\ef G H d x/\t (tyD d)=Z b/\Q (.I b) H):=by
 intro j s σ H l Y Q I r h;obtain⟨d,x,b,a,rfl,o,hd,e,q⟩:=h;obtain⟨u,w',rfl,F,f⟩:=vals2 r;cases f;obtain⟨HH,AT,z,A⟩:=Vk I hK hd F λk R P y=>by subst y;rw[hK];exact i.2 k b e
 obtain⟨_,p,M,⟨⟨c,O,N,S⟩,B,C,n,E⟩,_⟩:=(show e4 X.prog X.w H s.heap a (.ea (MN G cs)) from I.fc a _ o);cases C;cases E;have m:=OC cs M;subst m;exact W.kia_tup AT I.nq z B (by rw[hK];exact i.1 _ _ e) A λT=>⟨.I b,H,I.tj _,J,q⟩
def Vl(G:Bg):List Nat->TA
 |[]=>F8
 |c::r=>BD (tC (.ref (G.ca c))) (Vl G r)
theorem Lm:∀(cs:List Nat) (a:St) (H:Hp) (Q:bD->Hp->Prop),Q (MN G cs) H->Vl G cs a H Q
 |[],_,_,_,h=>h
 |c::r,a,H,Q,h=>Lm r a H (λd b=>Q (.ref (G.ca c)::d) b) h
def OD{e:Expr}{cs:List Nat}{t:Ty->Option Bool}{f:FE}(h:PE X e (tCB (λz H Q=>∃d x b m,z=[x,.ref m]/\H m=Z (.ea (MN G cs))/\ef G H d x/\t (tyD d)=Z b/\Q (.I b) H) (BD (tF G f) (BD (XZ (Vl G cs)) F8))))(y:cs.length<=1000:=by decide):PE X e (tF G (c1 (r6 t) f)):=PE.ee h λC H Q w=>by
 obtain⟨F,A,o,d,l,R,e,k⟩:=w;obtain⟨x,u,a⟩:=BL e;unfold r6 at a;cases i:t (tyD x)with
 |none=>rw[i]at a;cases a
 |some b=>
  rw[i]at a;cases a;refine⟨F,A,o,x,l,R,u,λv B q s c r=>Lm cs _ _ _ ⟨?_,λp j=>?_⟩⟩
  .unfold MN;rw[ae];exact uq y
  .exact⟨x,v,b,p,J,rb,ef.mono (c.sub.t (rp j _)) _ _ r,i,k _ _ _ (s.t (rp (c.ff j) _)) (c.Bx j _) (ur b)⟩
end
abbrev one(j:Nat)(led pl:Bool):cO:=⟨7,#[j],#[],0,led,0,pl⟩
section
variable{prog:aI}{w:ay}{A:aM}{E:ab->af->Prop}{s:af}
abbrev TK(prog:aI)(w:ay):=IsTupleKey (rA prog w)
def cls_val(n:Nat)(h:jY v=γ):gq n v=pure δ:=by
 cases v with
 |ref a=>simp[jY]at h
 |_=>first|rfl|simp[gq]|(unfold gq;rfl)
def Ln(e:TK prog w s.heap j a)(h:Q δ s):ah (model prog w) A (gq 8 (.ref a)) Q E s:=by
 have hT:=e.typeIs;obtain⟨o,items,n,i,_,hd,f⟩:=e;unfold gq;refine aq (wpAny_typeOf hT ?_);show ah _ _ (pure γ>>=_) _ _ s;refine aq (aA ?_);simp only[Bool.not_true,ir,if_false];refine aq (nF i hd ?_);refine aq ?_;show ah _ _ (forIn items _ _) _ _ s;rw[<-mC];refine jP _ (λe8 r d=>r.1=U/\d=s/\∀v∈e8,jY v=γ) _ ?_ ?_ _ _ ⟨J,J,f.byValue⟩
 .rintro v e8 r d ⟨b,rfl,hall⟩;rw[cls_val _ (hall v bc)];refine aq (aA ?_);simp only[ir,if_false];exact aA ⟨J,J,λu c=>hall u (aY _ c)⟩
 .rintro⟨l,m⟩ d ⟨b,rfl,_⟩;simp only at b;subst b;exact aA h
end
section
variable{prog:aI}{w:ay}{A:aM}{E:ab->af->Prop}{s:af}
def OE{a:Heap}(b:a.get? S=Z o)(hd:o.data=.set es ep t):(a.update S (oE es' t')).get? S=Z { o with data:=.set es' (ep+1) t' }:=by have:=Heap.get?_update_self (oE es' t') b (by rw[putSet_of es' t' hd];rfl);rw[putSet_of es' t' hd]at this;exact this
end
section
variable{prog:aI}{w:ay}{A:aM}{R:eU->af->Prop}{I:Addr}{fp wr:List Addr}{GG:Array eQ->Array eQ->Prop}{PP:Nat->ab->Prop}{SS:Nat->af->Prop}
def TK.i0{c:Heap}(t:TK prog w h f a)(e:∀o,h.get? a=Z o->c.get? a=Z o):TK prog w c f a:=by obtain⟨o,b,n,d,m⟩:=t;exact⟨o,b,n,e o d,m⟩
def Yv(h:Heap)(S:Addr)(n:Nat):Prop:=∃o a b t,h.get? S=Z o/\o.ExactSet/\o.data=.set a b t/\a.size<scanBound/\t.fits a.size=γ/\a.size=n
end
def x1:isSubtype (.type "tuple") (.type "set")=pure δ:=by rw[nG];kernel_rfl
def n7:isSubtype (.type "tuple") (.type "frozenset")=pure δ:=by rw[nG];kernel_rfl
section
variable{prog:aI}{w:ay}{A:aM}{E:ab->af->Prop}{s:af}{Q:ab->af->Prop}
abbrev yP(led:Bool):Obj:={ cls:=.type "set", dict:=U,data:=.set #[] 0 (.fresh 0 0 led) }
abbrev inK(a:List eu):eu->Bool:=λj=>(xw a).any (λz=>decide (z=j))
structure Yy(prog:aI)(w:ay)(h:Heap)(a:Addr)(items:Array ab)(ks:List eu):Prop where
 len:ks.length=items.size
 key:∀i v (hi:i<ks.length),items[i]?=Z v->(rA prog w).is ks[i] v=γ/\v.scannable=γ
 bnd:items.size+1<scanBound
def RP(s:af)(PS:Heap->Prop)(E:ab->af->Prop):eU->af->Prop:=
 wants (λr s2=>r=.none/\∃a k2,s2={ s with heap:=a,toks:=k2 }/\PS a/\∀b o,b<s.heap.objs.size->s.heap.get? b=Z o->a.get? b=Z o) E
def Jh(K:Yy prog w s.heap c items ks)(hlt:c<s.heap.objs.size)
  (W:Walks prog w A.in1 (s.heap.objs.size+1) [s.heap.objs.size+1,c] [s.heap.objs.size+1] items.size (λi v=>items[i]?=Z v) SS) (st:SS 0 ((s.heap.push (yP led)).push itO))
  (hR:∀a k2,a.SetOf (rA prog w) s.heap.objs.size (inK ks) (xw ks).length->(∀b o,b<s.heap.objs.size->s.heap.get? b=Z o->a.get? b=Z o)->R (.ok (.ret .none)) { s with heap:=a,toks:=k2 }) (tk:Nat):
  cn (model prog w) A (.builtin "set.update.loop" ⟨[.ref s.heap.objs.size,.ref (s.heap.objs.size+1)],[]⟩) R { s with heap:=(s.heap.push (yP led)).push itO,toks:=tk }:=by
 have notin:s.heap.objs.size∉[s.heap.objs.size+1,c]:=by
  intro z;rcases aN.1 z with z|z
  .exact ar z (bu (fE _))
  .exact ar (bV.1 z) (ka hlt)
 have h:((s.heap.push (yP led)).push itO).get? s.heap.objs.size=Z (yP led):=aX _ (bH _ J);refine OA W.toS s.heap.objs.size notin ks K.len (λi v hi q=>K.key i v hi q) K.bnd (items.size - 0) 0 _ (by omega) (cb _) st ?_ λs2 mv f=>?_
 .exact⟨_,#[],0,_,h,⟨J,J,J⟩,J,λe p=>by simp at p,λk=>by simp[xw],by unfold scanBound;decide,by rfl,J⟩
 .obtain⟨a,g2,d2,k2,r⟩:=s2;have l:g2=s.gens:=mv.gens;have j:d2=s.drawn:=mv.drawn;have m:r=s.os:=mv.os;subst l j m;refine hR a k2 f λb o d e=>mv.heap b o (λz=>?_) (aX _ (aX _ e));rcases aN.1 z with z|z
  .exact ar z (bu d)
  .exact ar (bV.1 z) (bu (eC d))
theorem Km(a:ab)(h:Q₁ (.ref s.heap.objs.size) { s with heap:=s.heap.push (yP (!w.params.followText "set-order")) }):
  cn (model prog w) A (.call (.builtin "set.__new__") ⟨[.type "set", a],[]⟩) (wants Q₁ E) s:=by
 refine nh ?_;show ah _ A.in1 (do checkBuiltinCall "set.__new__" ⟨[.type "set", a],[]⟩;again (.builtin "set.__new__" ⟨[.type "set", a],[]⟩)) _ _ s;refine aq (wpAny_of_eq (F.newCall_set_1 a) (aA ⟨j6 ni _,fH F.entry_set_new ?_⟩));rw[gh ni _];unfold Builtin.«set.__new__» pG;have hsub:=sub_set_self;obtain⟨b,g,d,tk,os⟩:=s;dsimp only
 wp_walk
 refine wpAny_askSetting (aA ?_);dsimp only;simp only[newObj];refine aq (wpAny_alloc (aA ?_));exact aA h
theorem Fi{PS:Heap->Prop}(t:s.heap.get? d=Z o)(z:o.cls=.type T)
  (O:isSubtype (.type T) (.type "set")=pure δ) (P:isSubtype (.type T) (.type "frozenset")=pure δ) (S:(Value.type T==Value.type "dict")=δ)
  (itr:∀(A:aM) (Q:ab->af->Prop) (E:ab->af->Prop) (f:af),f.heap.get? d=Z o->Q (.ref f.heap.objs.size) { f with heap:=f.heap.push itO }->ah (model prog w) A (pyIter (.ref d)) Q E f)
  (fil:∀tk (R:eU->af->Prop),(∀a k2,PS a->(∀b o,b<s.heap.objs.size->s.heap.get? b=Z o->a.get? b=Z o)->R (.ok (.ret .none)) { s with heap:=a,toks:=k2 })->
   cn (model prog w) A.in1.in1 (.builtin "set.update.loop" ⟨[.ref s.heap.objs.size,.ref (s.heap.objs.size+1)],[]⟩) R { s with heap:=(s.heap.push (yP (!w.params.followText "set-order"))).push itO,toks:=tk })
  (h:∀a k2,PS a->(∀b o,b<s.heap.objs.size->s.heap.get? b=Z o->a.get? b=Z o)->Q (.ref s.heap.objs.size) { s with heap:=a,toks:=k2 }):
  ah (model prog w) A (call (.type "set") [.ref d]) Q E s:=by
 have hlt:d<s.heap.objs.size:=aV t;obtain⟨c,N,hmro⟩:=d3.mro;have made:=d3.made;have subs:=d3.sub;refine iZ (nh ?_);show ah _ _ (callAny (.type "set") _) _ _ _;refine aA ⟨Code.quiet_builtin _ (by decide +kernel),fH F.entry_type_call ?_⟩;rw[Around.under_plain (weight_type_call_type "set" [.ref d] []) J];have H:=d3.notType;have I:=d3.canCreate;have M:=F.typeCall_set_1 (.ref d)
 repeat (any_goals (first|assumption|wp_step))
 let led:Bool:=!w.params.followText "set-order";refine fN (Km (.ref d) (E:=E) (Q₁:=λv f=>v=.ref s.heap.objs.size/\f={ s with heap:=s.heap.push (yP led) }) ⟨J,J⟩) λr f hr=>?_;cases r with
 |error e=>exact hr
 |ok fl=>
  cases fl with
  |ret v=>
   obtain⟨rfl,rfl⟩:=hr;have u:(s.heap.push (yP led)).get? s.heap.objs.size=Z (yP led):=bH _ J;have p:Shared.TypeIs { s with heap:=s.heap.push (yP led) } (.ref s.heap.objs.size) "set" := ⟨_,u,J⟩;have C:=d3.init.lookup;have G:=d3.init.bind (.ref s.heap.objs.size)
   repeat (any_goals (first|assumption|wp_step))
   refine fN (lZ (R:=RP s PS E) d3.init.plain F.entry_set_init (check_set_init_1 p ?_)) λB s2 i=>?_
   .obtain⟨oc,od,oda,osl⟩:=o;cases z;have x:(s.heap.push (yP led)).get? d=Z { cls:=.type T,dict:=od,data:=oda,slots:=osl }:=aX _ t;unfold Builtin.«set.__init__» noKeywords pC;generalize gP:pyIter=PP
    wp_walk
    subst gP;refine itr _ _ _ _ x ?_;refine aq (wpAny_runValue ?_);have y:(s.heap.push (yP led)).objs.size=s.heap.objs.size+1:=eI _ _;show cn _ _ (.builtin "set.update.loop" ⟨[.ref s.heap.objs.size,.ref (s.heap.push (yP led)).objs.size],[]⟩) _ _;rw[y];refine fil _ _ λa k2 j m=>?_;show ah _ _ _ _ _ _;refine aA ?_;show ah _ _ (ret Value.none) _ _ _;exact aA ⟨J,a,k2,J,j,m⟩
   .cases B with
    |error e=>exact i
    |ok l=>
     cases l with
     |ret r=>
      obtain⟨rfl,a,k2,rfl,j,m⟩:=i
      repeat (any_goals (first|assumption|wp_step))
      exact h _ _ j m
     |_=>exact i.elim
  |_=>exact hr.elim
end
section
variable{X:Cx}{G:Bg}{H:Hp}{pins:cE}{σ:St}{s:af}
def OF(h:(rA P w).is k v=γ):v.scannable=γ:=by rcases sv h with ⟨i,t,_,rfl⟩|⟨x,t,_,rfl⟩<;>rfl
def OG{b:List eu}(r:eg (b.map kV) c)(o:b.length+1<scanBound):Yy X.prog X.w s.heap a c.toArray b:=by
 have l:=by have:=r.length;rw[ae]at this;exact this
 refine⟨by rw[aZ];exact l,λi v j f=>?_,by rw[aZ];omega⟩;have e:(b.map kV)[i]?=Z (kV b[i]):=by rw[bp,bb j];rfl
 obtain⟨u,d,m⟩:=r.get e;have h:=by rw[lN]at f;rw[f]at d;exact cF d
 subst h;have:=BJ (P:=X.prog) (w:=X.w) m;exact⟨this,OF this⟩
def Yz{c:List eu}(I:eb X pins σ H s)(h:fy X.K H a (c.map kV)):TK X.prog X.w s.heap c a:=by
 obtain⟨b,r,p,_⟩:=I.tuple h;obtain⟨o,i,f,n,hd⟩:=p;refine⟨o,_,n,i,f,hd,?_⟩;have q?:∀(c:List eu) (b:List ab),eg (c.map kV) b->PySem.ItemsAre (rA X.prog X.w) c b:=λc=>by
  induction c with
  |nil=>intro b r;cases r;exact .nil
  |cons k c j=>intro b r;cases r with|cons d e=>exact .cons (BJ d) (j _ e)
 exact q? c b r
def Vm(K:ao)(H:Hp)(a:Addr)(n:Nat):Prop:=∃b,(fx K H a (b.map kV)\/fy K H a (b.map kV))/\b.length+1<scanBound/\n=(xw b).length
def Vn(X:Cx)(S:ao->Hp->Addr->Nat->Prop):Prop:=∀{pins:cE} {σ:St} {H:Hp} {s:af} {A:aM} {E:ab->af->Prop} {Q:ab->af->Prop} {a:Addr} {n:Nat},eb X pins σ H s->A.handled=U->A.units+8<cLine->S X.K H a n->
 (∀c k2,Yv c s.heap.objs.size n->(∀b o,b<s.heap.objs.size->s.heap.get? b=Z o->c.get? b=Z o)->Q (.ref s.heap.objs.size) { s with heap:=c,toks:=k2 })->ah (model X.prog X.w) A (call (.type "set") [.ref a]) Q E s
def YA:Vn X (Vm):=by
 intro pins σ H s A E Q a n I M T i h;have u:A.in1.in1.in1.handled=U:=by simp[M]
 have q:∀{f:Heap} {j:List eu},f.SetOf (rA X.prog X.w) s.heap.objs.size (inK j) (xw j).length->Yv f s.heap.objs.size (xw j).length:=λS=>by obtain⟨o,C,B,t,b,hex,hd,_,_,O,F,N⟩:=S;exact⟨o,C,B,t,b,hex,hd,O,F,N⟩
 have y:∀{o:Obj} {led:Bool},o.isFreed=δ->((s.heap.push (yP led)).push o).get? (s.heap.objs.size+1)=Z o:=λ{o led} z=>by rw[show s.heap.objs.size+1=(s.heap.push (yP led)).objs.size from(eI _ _).symm];exact bH _ z
 obtain⟨j,i|i,x,rfl⟩:=i
 .obtain⟨d,r,p,_⟩:=I.list i;obtain⟨o,b,c,n,hd⟩:=p.isList;have hne:=bu (eC (aV b));refine Fi b c nH l6 (by decide)
   (λA Q E P e k=>gk ⟨o,e,c,n,hd⟩ k) (λm R hR=>Jh (OG r x) (aV b) (i6 u _ a hne d.toArray) ⟨⟨_,y J,J,J⟩,⟨o,aX _ (aX _ b),c,n,hd⟩⟩ (λf l S=>hR f l (q S)) m) h
 .obtain⟨d,r,p,_⟩:=I.tuple i;obtain⟨o,b,c,n,hd⟩:=p;have hne:=bu (eC (aV b));refine Fi b c x1 n7 (by decide)
   (λA Q E P e k=>mx ⟨o,e,c,n,hd⟩ k) (λm R hR=>Jh (OG r x) (aV b) (Walks.tuple u _ a hne d.toArray) ⟨⟨_,y J,J,J⟩,⟨o,aX _ (aX _ b),c,n,hd⟩⟩ (λf l S=>hR f l (q S)) m) h
def Lo(S:ao->Hp->Addr->Nat->Prop)(K:ao)(c:TE):TE:=λσ H Q=>c σ H λx b=>∃a n,x=.ref a/\S K b a n/\Q (.int n) b
def MO{f c:Pos}(hV:Vn X S)(W:X.A.units+64<cLine)(y:X.nr=γ)(g1:Gl X "len")(N:X.mg "len" = U)(g2:Gl X "set")(O:X.mg "set" = U)(z:PE X e T)
  (j:aw [Expr.Call (.Name "set" f) [e] [] c] X.b'=[(δ,eval (.Call (.Name "set" f) [e] [] c) X.b')]:=by rfl) (l:aw [e] X.b'=[(δ,eval e X.b')]:=by rfl):PE X (.Call (.Name "len" Y) [.Call (.Name "set" f) [e] [] c] [] p4) (Lo S X.K T):=by
 intro pins s σ H Q I h;refine dM (Ct I g1 N nI ?_ (by decide) (by decide));refine callWith_builtin1 ?_ j J;rw[j];refine dJ ?_;refine dM (Ct I g2 O Pv.boot_set ?_ (by decide) (by decide));refine callWith_type1 (fg (uh z wU l c pins s σ H (λvs H1=>match vs with
  |[x]=>∃a n,x=.ref a/\S X.K H1 a n/\Q (.int n) H1
  |_=>False) I h) λus R ⟨vs,H1,d,r1,i⟩=>?_) l J
 match vs,r1,i with
 |[x],r1,i=>
 obtain⟨a,n,r,E,q⟩:=i;subst r;obtain⟨u,rfl,P⟩:=mi r1;cases P;refine hV d (d.ok.hd y) (by omega) E λw k2 p M=>?_;refine fB ?_;obtain⟨o,es,ep,t,C,hex,hd,F,B,hn⟩:=p;have m:eb X pins σ H1 { R with heap:=w,toks:=k2 }:=d.i0 λb o e=>M b o (aV e) e;refine call_len_set C hex hd B (by unfold scanBound at F;omega) ⟨.int n,H1,m.tj _,⟨_,by rw[hn]⟩,q⟩
def Dy:aW->Option (List eu)
 |[]=>Z []
 |d::a=>match ym d,Dy a with
  |some k,Z b=>Z (k::b)
  |_,_=>U
theorem GQ:∀{a:aW} {f:bD} {c:List eu},b? G H a f->Dy a=Z c->f=c.map kV
 |[],f,c,r,e=>by cases e;unfold b? at r;exact r
 |d::a,f,c,r,e=>by
  unfold Dy at e;cases b:ym d with
  |none=>rw[b]at e;cases e
  |some k=>
   cases h:Dy a with
   |none=>rw[b,h]at e;cases e
   |some l=>rw[b,h]at e;cases e;obtain⟨v,m,rfl,i,j⟩:=r;rw[yO i b,GQ j h];rfl
def uj(b:aW):Option D:=match Dy b with
 |some a=>if a.length<=1000 then Z (.int (xw a).length)else U
 |none=>U
def BQ(g:aW->Option D):D->Option D
 |.b0 a=>match uj a with
  |some r=>Z r
  |none=>g a
 |.ea a=>uj a
 |.O a=>uj a
 |_=>U
def RQ(h:uj a=Z r):BQ g (.b0 a)=Z r:=by show (match uj a with|some r=>Z r|none=>g a)=Z r;rw[h]
set_option tactic.hygienic true
def Kn(hK:X.K=G.K)(hO:∀{H a n},Vm X.K H a n->S X.K H a n)
  (E:∀{c d m b a i},g c=Z d->fx X.K b a i->b? G m c i->ro m b->∃n:Nat,S X.K b a n/\d=.int n)
  (h:PE X e (Lo S X.K (tF G f))):PE X e (tF G (c1 (BQ g) f)):=PE.ee h λσ H Q I=>by
 obtain⟨F,N,z,d,u,R,e,k⟩:=I;obtain⟨x,B,l⟩:=BL e;have key:∀{c:aW} {i:bD} {a:Addr} {m b:Hp},uj c=Z d->b? G m c i->ro z m->d6 G F σ u m b->(fx X.K b a i\/fy X.K b a i)->
   ∃A n,V.ref a=.ref A/\S X.K b A n/\Q (.int n) b:=λ{c i a m b} o rs s j t=>by
  unfold uj at o;cases y:Dy c with
  |none=>rw[y]at o;cases o
  |some M=>
   rw[y]at o;simp only at o;split at o
   .rename_i O;cases o;rw[GQ rs y]at t;exact⟨a,_,J,hO ⟨M,t,by unfold scanBound;omega,J⟩,k _ _ _ s j (ui _)⟩
   .cases o
 refine⟨F,N,z,x,u,R,B,λv m b s j r=>?_⟩;cases x with
 |b0 c=>
  obtain⟨a,i,rfl,p,q⟩:=r;have t:fx X.K b a i:=fx.of (j.sub _ _ p);replace l:(match uj c with|some r=>Z r|none=>g c)=Z d:=l;cases w:uj c with
  |some r=>rw[w]at l;cases l;exact key w q s j (.inl t)
  |none=>rw[w]at l;obtain⟨n,C,rfl⟩:=E l t q j.sub;exact⟨a,n,J,C,k _ _ _ s j (ui _)⟩
 |ea c=>obtain⟨a,i,rfl,p,q⟩:=r;rw[<-hK]at p;exact key l q s j (.inr (fy.mono j.sub p))
 |O c=>obtain⟨a,i,rfl,p,q⟩:=r;rw[<-hK]at p;exact key l q s j (.inl (j.sub.seq p))
 |_=>cases l
end
set_option tactic.hygienic false
def Lp(h:(rA P w).is k v=γ):en (kV k) v:=by
 rcases sv h with ⟨i,t,rfl,rfl⟩|⟨x,t,rfl,rfl⟩
 .exact⟨t,J⟩
 .exact⟨t,J⟩
def Itd(a:Addr)(o:Obj)(kvs:List (eu×V)):It:=
 ⟨λi H=>i<kvs.length/\H a=Z (.n' o (.dK kvs)),λi H x b=>b=H/\∃k z,kvs[i]?=Z (k,z)/\x=kV k,λi H=>kvs.length<=i/\H a=Z (.n' o (.dK kvs))⟩
section
variable{X:Cx}{pins:cE}{σ:St}{H:Hp}{s:af}
def DA(I:eb X pins σ H s)(e:H a=Z (.n' o (.dK kvs)))(hd:o.data=.dict j h):
  (a==cX)=δ/\s.heap.get? a=Z o/\∃b,KV kvs b/\s.heap.DictAt (rA X.prog X.w) a b h:=by
 obtain⟨c,_,y,b,r,q,l,i,d,m,f,p⟩:=(show e4 X.prog X.w H s.heap a (.n' o (.dK kvs)) from I.fc a _ e);rw[c]at d;cases d;rw[hd]at f;cases f;exact⟨y,c,b,r,o,j,c,m,hd,p⟩
def Vo{kvs:List (eu×V)}{a:List (eu×ab)}(r:KV kvs a){i:Nat}{k:eu}{x:ab}(e:a[i]?=Z (k,x)):∃z,kvs[i]?=Z (k,z):=by
 induction r generalizing i with
 |nil=>cases e
 |@cons p q l d h _ b=>
  cases i with
  |zero=>obtain⟨c,pv⟩:=p;cases e;exact⟨pv,by rw[show c=k from h.1];rfl⟩
  |succ i=>exact b e
end
def MP{K:ao}(a it:Addr)(o:Obj)(kvs:List (eu×V)):ZY P w K tg (Itd a o kvs) [it] it (λi h=>∃es ep,o.data=.dict es ep/\h.IsKeyIter it a i kvs.length ep) where
 mem:=by simp
 obj:=λi h st b f=>by
  have e:=by simpa using f
  subst e;obtain⟨es,ep,hd,ob,e,c,d⟩:=st;exact⟨ob,e,λv z=>by rw[d]at z;cases z⟩
 keep:=λi h h' st k=>by obtain⟨es,ep,hd,x⟩:=st;exact⟨es,ep,hd,x.at λo e=>k it (by simp) o e⟩
 item:=by
  intro X hP hw hK C i pins s σ H E I t st hg;subst hP hw hK;obtain⟨hi,q⟩:=hg;obtain⟨es,ep,hd,p⟩:=st;obtain⟨l,u,N,y,A,B⟩:=t it (by simp);obtain⟨_,_,vs,r,da⟩:=DA I q hd;have m:=r.length;have hne:a≠it:=λz=>by subst z;rw[q]at l;cases l
  have W:=Walks.dictKeys (knd:=rA X.prog X.w) (I.ok.hd C) it a hne vs ep;refine W.item i s _ _ (by omega) ⟨by rw[<-m];exact p,da⟩ λv h' tk Q F T=>?_;obtain⟨k,x,R,O⟩:=Q;obtain⟨z,S⟩:=Vo r R;have G:eb X pins σ H { s with heap:=h',toks:=tk }:=I.i' (λb o f e=>T b o (by simpa using f) e) l u y A B;obtain⟨j,_⟩:=F;rw[<-m]at j;obtain⟨ob,e,c,d⟩:=id j;exact⟨v,J,KP e c d (by decide) ⟨kV k,H,G,Lp O,⟨J,k,z,S,J⟩,⟨es,ep,hd,j⟩,λb f=>(t b f).1⟩⟩
 done:=by intro X hP hw hK C i pins s σ H E I t st hg;subst hP hw hK;obtain⟨hi,q⟩:=hg;obtain⟨es,ep,hd,p⟩:=st;obtain⟨l,u,N,y,A,B⟩:=t it (by simp);obtain⟨_,_,vs,r,da⟩:=DA I q hd;have m:=r.length;exact wpAny_pyNext_dict_end (I.ok.hd C) (by rw[<-m];exact p) da (gb (by rw[<-m];exact hi)) λh' M=>⟨J,I.i' (λb o f e=>M b o f e) l u y A B⟩
 self:=λ_ _ _ _ _ st h=>by obtain⟨es,ep,hd,p⟩:=st;exact wpAny_pyIter_keyiter p h
section
variable{X:Cx}{G:Bg}{tg:Expr}
def YB(c:TE):TI:=λd H R=>c d H λx b=>∃a o kvs,x=.ref a/\b a=Z (.n' o (.dK kvs))/\R (Itd a o kvs) b
def RR(f:PE X l N):PI X tg l (YB N):=by
 intro c s O H R I h;refine fg (f c s O H _ I h) λv i zz=>?_;obtain⟨x,j,d,M,F⟩:=zz;obtain⟨a,o,kvs,e,E,q⟩:=F;subst e;cases M;obtain⟨u,_,y,Q,r,P,t,B,m,z,p,A⟩:=(show e4 X.prog X.w j i.heap a (.n' o (.dK kvs)) from d.fc a _ E);rw[u]at m;cases m;have f:=r.length;refine wpAny_pyIter_dict y ⟨o,t,u,z,p,A⟩ ?_;refine⟨i.heap.objs.size,[i.heap.objs.size],_,_,j,J,d.i0 λb o e=>aX _ e,MP a _ o kvs,⟨t,B,p,⟨_,bH _ J,J,by rw[f];rfl⟩⟩,λb C=>?_,q⟩;have e:=by simpa using C
 subst e;exact d.Y? (aK _) (d.fc.fresh (aK _))
def Vp:eu->D
 |.inl i=>.int i
 |.inr x=>.str x
def RT(k:eu):ef G H (Vp k) (kV k):=by
 cases k with
 |inl i=>exact ui i
 |inr x=>exact u4 x
def iD(f:FE):FA:=λd=>match f d with
 |some (.M b c,a)=>if b.length=c.length then Z (b.map Vp,a)else U
 |_=>U
set_option tactic.hygienic true
def OH(h:PI X tg e (YB (tF G f))):PI X tg e (Z8 G (iD f)):=PI.ee h λσ H R P=>by
 obtain⟨F,Y,B,ds,ρ',R,e,k⟩:=P;unfold iD at e;split at e
 .rename_i p M ρ1 N;split at e
  .rename_i x;cases e;refine⟨F,Y,B,_,_,R,N,λv H1 C s w r=>?_⟩;obtain⟨a,o,W,rfl,q,T,r3⟩:=r;have A:(p.zip W).length=p.length:=by rw[fG,<- T,fP]
   refine⟨a,o,_,J,w.sub _ _ q,k _ _ _ s w λi E I t u=>⟨λd c=>?_,λS=>?_⟩⟩
   .rw[bp]at c;cases m:p[i]? with
    |none=>rw[m]at c;cases c
    |some j=>
     rw[m]at c;cases c;have Q:=(bZ.1 m).1;refine⟨⟨by rw[A];exact Q,u _ _ (t _ _ q)⟩,λz H3 y=>?_⟩;obtain⟨O,k',z',l,rfl⟩:=y;subst O;have:=by rw[List.getElem?_zip_eq_some]at l;have:=l.1;rw[m]at this;exact(cF this).symm
     subst this;exact⟨E,ro.refl _,u,ro.refl _,λb o e=>.inl e,RT _⟩
   .refine⟨by rw[A,S,ae];exact aK _,u _ _ (t _ _ q)⟩
  .cases e
 .cases e
end
set_option tactic.hygienic false
mutual
def yr(N c:Nat):D->Bool
 |.E=>γ
 |.I _=>γ
 |.int _=>γ
 |.str _=>γ
 |.ea a=>v7 N c a
 |.b0 a=>v7 N c a
 |.O a=>v7 N c a
 |.obj k _ a=>decide (k<N)&&decide (k≠c)&&v7 N c a
 |.M _ a=>v7 N c a
 |.R _ a=>v7 N c a
def v7(N c:Nat):aW->Bool
 |[]=>γ
 |d::a=>yr N c d&&v7 N c a
end
def without(H:Hp)(a:Addr):Hp:=λb=>if b=a then U else H b
def Fj{H:Hp}{a b:Addr}(h:b≠a):without H a b=H b:=by unfold without;rw[ak h]
def BR{H:Hp}{a b:Addr}{o:HO}(h:without H a b=Z o):b≠a/\H b=Z o:=by
 unfold without at h;by_cases c:b=a
 .rw[aj c]at h;cases h
 .rw[ak c]at h;exact⟨c,h⟩
def uy{H:Hp}{a b:Addr}{u v:HO}(e:H a=Z u)(c:H b=Z v)(d:u≠v):without H a b=Z v:=by rw[Fj (λz=>by subst z;rw[e]at c;exact d (cF c))];exact c
section
variable{G:Bg}{H:Hp}{a dx:Addr}{fs:List (Str×V)}{N c:Nat}
def DB(b:H a=Z (.ll (G.ca c) dx fs)){p:Addr}{d:bD}(h:fy G.K H p d):fy G.K (without H a) p d:=by
 rcases h with (h|⟨o,h⟩)|h
 .exact .inl (.inl (uy b h (λz=>nomatch z)))
 .exact .inl (.inr ⟨o,uy b h (λz=>nomatch z)⟩)
 .exact .inr h
def Ji(b:H a=Z (.ll (G.ca c) dx fs)){p:Addr}{d:bD}(h:fx G.K H p d):fx G.K (without H a) p d:=by
 rcases h with (h|⟨o,h⟩)|h
 .exact .inl (.inl (uy b h (λz=>nomatch z)))
 .exact .inl (.inr ⟨o,uy b h (λz=>nomatch z)⟩)
 .exact .inr h
mutual
theorem DC(inj:∀j k,j<N->k<N->G.ca j=G.ca k->j=k)(t:c<N)(i:H a=Z (.ll (G.ca c) dx fs)):∀(d:D) (v:V),yr N c d=γ->ef G H d v->ef G (without H a) d v
 |.E,v,_,h=>by unfold ef at h ⊢;exact h
 |.I _,v,_,h=>by unfold ef at h ⊢;exact h
 |.int _,v,_,h=>by unfold ef at h ⊢;exact h
 |.str _,v,_,h=>by unfold ef at h ⊢;exact h
 |.ea l,v,n,h=>by obtain⟨p,f,e,m,r⟩:=h;exact⟨p,f,e,DB i m,tZ inj t i l f n r⟩
 |.b0 l,v,n,h=>by obtain⟨p,f,e,m,r⟩:=h;exact⟨p,f,e,uy i m (λz=>nomatch z),tZ inj t i l f n r⟩
 |.O l,v,n,h=>by obtain⟨p,f,e,m,r⟩:=h;exact⟨p,f,e,Ji i m,tZ inj t i l f n r⟩
 |.obj k M l,v,n,h=>by unfold yr at n;simp only[aT,bR]at n;obtain⟨p,w,f,e,m,r,u⟩:=h;refine⟨p,w,f,e,uy i m (λz=>?_),r,tZ inj t i l f n.2 u⟩;injection z with I;exact n.1.2 (inj k c n.1.1 t I.symm)
 |.M E l,v,n,h=>by obtain⟨p,o,f,e,m,r,u⟩:=h;exact⟨p,o,f,e,uy i m (λz=>nomatch z),r,tZ inj t i l f n u⟩
 |.R E l,v,n,h=>by obtain⟨b,f,rfl,⟨o,F,m,r,u,x,y,A⟩,B⟩:=h;exact⟨b,f,J,⟨o,F,uy i m (λz=>nomatch z),r,u,x,λq C=>DB i (y q C),A⟩,tZ inj t i l f n B⟩
theorem tZ(inj:∀j k,j<N->k<N->G.ca j=G.ca k->j=k)(l:c<N)(i:H a=Z (.ll (G.ca c) dx fs)):∀(b:aW) (f:bD),v7 N c b=γ->b? G H b f->b? G (without H a) b f
 |[],f,_,h=>by unfold b? at h ⊢;exact h
 |d::b,f,n,h=>by unfold v7 at n;simp only[aT]at n;obtain⟨v,r,e,m,o⟩:=h;exact⟨v,r,e,DC inj l i d v n.1 m,tZ inj l i b r n.2 o⟩
end
end
def Bf:Sl->Sl
 |.q d=>.q d
 |_=>.un
def AN(N:Nat)(f:FE):FE:=λa=>match a with
 |.ob c e b::r=>match f (.q (.obj c e b)::r.map Bf)with
  |some (d,_)=>if (decide (c<N)&&yr N c d)=γ then Z (d,a)else U
  |none=>U
 |_=>U
section
variable{X:Cx}{G:Bg}
def Ko{s:Sl}:(Bf s).gi=δ:=by cases s<;>rfl
set_option tactic.hygienic true
def RU{e:Expr}{f:FE}{N:Nat}(inj:∀j k,j<N->k<N->G.ca j=G.ca k->j=k)(h:PE X e (tF G f)):PE X e (tF G (AN N f)):=PE.ee h λσ H Q T=>by
 obtain⟨F,ρ,H0,d,ρ',R,e,k⟩:=T;unfold AN at e;split at e
 .rename_i c ns ds r;rcases rL (f:=f) (ρ:=.q (.obj c ns ds)::r.map Bf)with y|⟨x,B,y⟩<;>simp only[y]at e
  .cases e
  split at e
  .rename_i hn;cases e;simp only[aT,bR]at hn;obtain⟨a,dx,xs,M,O,A,Y,P,S⟩:=R.sl 0 _ J;have RL:d6 G ⟨e3 H0 a (.ll (G.ca c) dx (ns.zip xs)),H,[]⟩ σ (.q (.obj c ns ds)::r.map Bf) (e3 H0 a (.ll (G.ca c) dx (ns.zip xs))) H:={
    sub:=λb o q=>by
     by_cases m:b=a
     .subst m;rw[rb]at q;cases q;exact O
     .rw[rg m]at q;exact R.sub _ _ q
    g0:=ro.refl _
    keep:=λb o q _=>q
    fr:=λb o q=>.inl q
    am:=λb q=>by cases q
    len:=by have:=R.len;simpa using this
    sl:=λi s q=>by
     cases i with
     |zero=>cases q;exact⟨.ref a,M,by unfold ef;exact⟨a,dx,xs,J,rb,P,b?.mono (rp A _) _ _ S⟩⟩
     |succ i=>
      have l:(r.map Bf)[i]?=Z s:=q;rw[bp]at l;cases p:r[i]? with
      |none=>rw[p]at l;cases l
      |some t=>
       rw[p]at l;cases l;have ok:=R.sl (i+1) t p;cases t with
       |q d=>obtain⟨v,g1,g2⟩:=ok;exact⟨v,g1,ef.mono (rp A _) _ _ g2⟩
       |_=>trivial
    ap:=λi j s t b _ C _ so=>by
     cases i with
     |zero=>cases C;cases so
     |succ i=>
      have l:(r.map Bf)[i]?=Z s:=C;rw[bp]at l;cases p:r[i]? with
      |none=>rw[p]at l;cases l
      |some t=>rw[p]at l;cases l;rw[Ko]at so;cases so }
   refine⟨_,_,_,d,B,RL,y,λv H1 u s w W=>?_⟩;have ha:=s _ _ rb;have E:ro H0 (without H1 a):=λb o q=>by
    have m:b≠a:=λz=>by subst z;rw[A]at q;cases q
    rw[Fj m];exact s b o (by rw[rg m];exact q)
   refine k v (without H1 a) u E ?_ (DC inj hn.1 ha d v hn.2 W);refine R.f5 (λb o q=>w.keep b o q (by simp)) E (λb o q=>w.sub _ _ (BR q).2) λb o q=>?_;obtain⟨m,q⟩:=BR q;rcases w.fr b o q with z|z
   .have I:e3 H0 a (.ll (G.ca c) dx (ns.zip xs)) b=Z o:=z;rw[rg m]at I;exact .inl I
   .exact .inr z
  .cases e
 .cases e
end
set_option tactic.hygienic false
section
variable{X:Cx}{pins:cE}{σ:St}{H:Hp}{s:af}{a:Addr}{A:aM}{E:ab->af->Prop}
theorem Vq(I:eb X pins σ H s)(e:H a=Z (.dK kvs))(M:en (kV k) u)(N:en z r)(O:kvs.length<aB)
  (l:∀v w f,uY kvs k=Z v->eb X pins σ H f->en v w->Q w f) (m:∀f,uY kvs k=U->eb X pins σ (e3 H a (.dK (ij kvs k z))) f->Q r f):
  ah (model X.prog X.w) A (call (.builtin "dict.setdefault") [.ref a,u,r]) Q E s:=by
 obtain⟨y,hd,i,rel,h⟩:=NJ I.fc e;have G:i.length<=aB:=by rw[<-rel.length];exact y
 have t:(ij kvs k z).length<=aB:=by have:=xx kvs k z;omega
 have b:=rel.val k;refine fO lF h.typeIs F.entry_dict_setdefault (F.args_dict_setdefault_3 _ _ _) (kt_meets_setdefault (rA X.prog X.w) a (BJ M) hd r) ⟨i,h,G,λw C=>?_,λp j d B=>?_⟩
 .rw[C]at b;cases c:uY kvs k with
  |none=>rw[c]at b;exact b.elim
  |some v=>rw[c]at b;exact l v w _ c (I.tj _) b
 .rw[p]at b;cases c:uY kvs k with
  |some v=>rw[c]at b;exact b.elim
  |none=>have o:∃q,j.get? a=Z q:=let ⟨q,_,_,x,_⟩:=d;⟨q,x⟩;exact m _ c (Eu I (by rw[e];exact True.intro) B o (J1 t hd (rel.put k N) d))
def OI(e f tx:TE):TE:=λσ H Q=>e σ H λx c=>∃a,x=.ref a/\IsD c a/\f σ c λy d=>tx σ d λz b=>∃kvs k,b a=Z (.dK kvs)/\y=kV k/\kvs.length<aB/\
 (∀v,uY kvs k=Z v->Q v b)/\(uY kvs k=U->Q z (e3 b a (.dK (ij kvs k z))))
theorem OJ(T:PE X o td)(P:PE X e ty)(R:PE X f tx)(m:M2 X o "setdefault" apos e f cpos):PE X (.Call (.Attribute o "setdefault" apos) [e,f] [] cpos) (OI td ty tx):=by
 intro pins s σ H Q I h;refine iw m.b1 m.few m.line ix lF F.type_dict_setdefault (fg (T pins s σ H _ I h) λu s1 zz=>?_);obtain⟨x,p,j,rx,a,G,d,W⟩:=zz;subst G;obtain rfl:u=Value.ref a:=rx;obtain⟨t1,t2,_⟩:=HE j d;refine⟨t1,t2,?_⟩;rw[m.I?];refine fA J (gf (dJ (fg (P pins s1 σ p _ j W) λiv s2 ⟨y,q,t,ry,Y⟩=>
  dJ (fg (R pins s2 σ q _ t Y) λfv s3 ⟨z,r,B,l,kvs,k,C,M,S,N,O⟩=>fB ?_))))
 subst M;exact Vq B C ry l S (λv w s' c b i=>⟨v,r,b,i,N v c⟩) λs' c b=>⟨z,_,b,l,O c⟩
end
def yQ(a:List eu)(dss:List aW)(k:eu)(d:D):List eu×List aW:=
 if Gf a k=γ then (a,dw (λc b=>if c=k then b++[d]else b) a dss)else (a++[k],dss++[[d]])
def BS:Gf c k=γ ↔ k∈c:=by unfold Gf;rw[fF];exact⟨λ⟨x,a,b⟩=>bK b▸a,λh=>⟨k,h,bN J⟩⟩
def OK{b:List eu}{a:bD}:b.length=a.length->uY (b.zip a) k=Z v->∃j:Nat,b[j]?=Z k/\a[j]?=Z v:=by
 induction b generalizing a with
 |nil=>intro _ h;cases h
 |cons l b i=>
  intro c h;cases a with
  |nil=>cases c
  |cons v0 a=>
   unfold uY at h;rw[dO,dS]at h;by_cases e:l=k
   .subst e;simp only[decide_true]at h;cases h;exact⟨0,J,J⟩
   .simp only[e,decide_false]at h;obtain⟨j,d,f⟩:=i (by simpa using c) h;exact⟨j+1,d,f⟩
def OL{a:List eu}{b:bD}:a.length=b.length->uY (a.zip b) k=U->k∉a:=by
 induction a generalizing b with
 |nil=>intro _ _ h;cases h
 |cons i a f=>
  intro c h d;cases b with
  |nil=>cases c
  |cons v0 b=>
   unfold uY at h;rw[dO,dS]at h;by_cases e:i=k
   .subst e;simp only[decide_true]at h;cases h
   .simp only[e,decide_false]at h;rcases aN.1 d with z|z
    .exact e z.symm
    .exact f (by simpa using c) h z
structure Q0(G:Bg)(F:Fr)(H0 H:Hp)(a:Addr)(ks:List eu)(dss:List aW)(bs:List Addr):Prop where
 xo:H a=Z (.dK (ks.zip (bs.map V.ref)))
 n0:H0 a=U
 nB:F.B a=U
 len:ks.length=bs.length
 x?:bs.length=dss.length
 nd:bs.Nodup
 kd:ks.Nodup
 each:∀(i:Nat) (b:Addr) (ds:aW),bs[i]?=Z b->dss[i]?=Z ds->∃xs,H b=Z (.b0 xs)/\H0 b=U/\F.B b=U/\b? G H0 ds xs
section
variable{G:Bg}{F:Fr}{σ:St}{ρ:aO}{H0 H H0' H':Hp}{a:Addr}{ks:List eu}{dss:List aW}{bs:List Addr}
def Q0.f5(g:Q0 G F H0 H a ks dss bs)(hs:ro H H')(h:ro H0 H0')(c:∀b o,H0' b=Z o->H0 b=Z o\/H b=U):Q0 G F H0' H' a ks dss bs where
 xo:=hs _ _ g.xo
 n0:=by
  cases q:H0' a with
  |none=>rfl
  |some o=>
   rcases c a o q with z|z
   .rw[g.n0]at z;cases z
   .rw[g.xo]at z;cases z
 nB:=g.nB
 len:=g.len
 x?:=g.x?
 nd:=g.nd
 kd:=g.kd
 each:=λi b ds e f=>by
  obtain⟨xs,d,j,l,m⟩:=g.each i b ds e f;refine⟨xs,hs _ _ d,?_,l,b?.mono h _ _ m⟩;cases q:H0' b with
  |none=>rfl
  |some o=>
   rcases c b o q with z|z
   .rw[j]at z;cases z
   .rw[d]at z;cases z
def d6.still(R:d6 G F σ ρ H0 H)(no:∀s∈ρ,s.gi=δ):d6 G ⟨H0,H,[]⟩ σ ρ H0 H where
 sub:=R.sub
 g0:=ro.refl _
 keep:=λb o e z=>e
 fr:=λb o e=>.inl e
 am:=λa h=>by cases h
 len:=R.len
 sl:=λi s e=>by
  have ok:=R.sl i s e;have n:=no s (bU e);cases s with
  |un=>trivial
  |q d=>exact ok
  |_=>cases n
 ap:=λi j s t b z e z so=>by rw[no s (bU e)]at so;cases so
theorem d6.touch(R:d6 G F σ ρ H0 H)(no:∀s∈ρ,s.gi=δ)(c:∀b o,H b=Z o->(H0 b≠U\/F.B b≠U)->H' b=Z o)(ha:∀b o,H b=Z o->∃h,H' b=Z h):d6 G F σ ρ H0 H' where
 sub:=λb o e=>c b o (R.sub _ _ e) (.inl (by rw[e];exact λz=>nomatch z))
 g0:=R.g0
 keep:=λb o e n=>c b o (R.keep b o e n) (.inr (by rw[e];exact λz=>nomatch z))
 fr:=R.fr
 am:=λb f=>by obtain⟨o,e⟩:=R.am b f;exact ha b o e
 len:=R.len
 sl:=λi s e=>by
  have ok:=R.sl i s e;have n:=no s (bU e);cases s with
  |un=>trivial
  |q d=>exact ok
  |_=>cases n
 ap:=λi j s t b x e x so=>by rw[no s (bU e)]at so;cases so
def Vr{bs:List Addr}(h:bs.Nodup){i j:Nat}{b:Addr}(c:bs[i]?=Z b)(d:bs[j]?=Z b):i=j:=by obtain⟨l,e⟩:=bZ.1 c;obtain⟨m,f⟩:=bZ.1 d;exact(iA h).1 (e.t f.symm)
def Vt{ks:List eu}(h:ks.Nodup){i j:Nat}{b:eu}(c:ks[i]?=Z b)(d:ks[j]?=Z b):i=j:=by obtain⟨l,e⟩:=bZ.1 c;obtain⟨m,f⟩:=bZ.1 d;exact(iA h).1 (e.t f.symm)
def Q0.more(g:Q0 G F H0 H a ks dss bs){j:Nat}{k:eu}{b:Addr}{d:D}{v:V}{A:bD}(h:ks[j]?=Z k)(p:bs[j]?=Z b)(l:H b=Z (.b0 A))(M:ef G H0 d v):
  Q0 G F H0 (e3 H b (.b0 (A++[v]))) a (yQ ks dss k d).1 (yQ ks dss k d).2 bs:=by
 have B:=BS.2 (bU h);unfold yQ;rw[aj B];have I:a≠b:=λz=>by subst z;rw[g.xo]at l;cases l
 refine⟨by rw[rg I];exact g.xo,g.n0,g.nB,g.len,?_,g.nd,g.kd,λi c O o e=>?_⟩
 .rw[jC,<- g.x?,<- g.len,fP,g.len]
 .rw[List.getElem?_zipWith]at e;cases f:ks[i]? with
  |none=>rw[f]at e;cases e
  |some C=>
   cases t:dss[i]? with
   |none=>rw[f,t]at e;cases e
   |some m=>
    rw[f,t]at e;cases e;obtain⟨N,u,w,x,y⟩:=g.each i c m o t;by_cases q:C=k
    .subst q;have r:=Vt g.kd f h;subst r;rw[o]at p;cases p;rw[u]at l;cases l;rw[aj J];exact⟨_,rb,w,x,sV y (sd M rW)⟩
    .rw[ak q];have E:c≠b:=λz=>by subst z;have r:=Vr g.nd o p;subst r;rw[f]at h;cases h;exact q J
     exact⟨N,by rw[rg E];exact u,w,x,y⟩
theorem Q0.fresh(g:Q0 G F H0 H a ks dss bs)(t:k∉ks)(q:H p=U)(C:H0 p=U)(hB:F.B p=U)(N:ef G H0 d v):
  Q0 G F H0 (e3 (e3 (e3 H p (.b0 [])) a (.dK ((ks++[k]).zip ((bs++[p]).map V.ref)))) p (.b0 [v])) a (yQ ks dss k d).1 (yQ ks dss k d).2 (bs++[p]):=by
 have E:=λz=>t (BS.1 z);unfold yQ;rw[ak E];have M:a≠p:=λz=>by subst z;rw[g.xo]at q;cases q
 have w:p∉bs:=λz=>by
  obtain⟨i,l,e⟩:=jD z;have b:bs[i]?=Z p:=by rw[bb l,e]
  obtain⟨j,f⟩:∃j,dss[i]?=Z j:=⟨dss[i]'(by rw[<-g.x?];exact l),bb _⟩;obtain⟨A,h,_⟩:=g.each i p j b f;rw[q]at h;cases h
 refine⟨by rw[rg M,rb],g.n0,g.nB,by simp[g.len],by simp[g.x?],?_,?_,λi c j b f=>?_⟩
 .rw[cq];refine⟨g.nd,by simp,λx r y m=>?_⟩;rw[bV]at m;subst m;exact λz=>w (z▸r)
 .rw[cq];refine⟨g.kd,by simp,λx r y m=>?_⟩;rw[bV]at m;subst m;exact λz=>t (z▸r)
 .by_cases l:i<bs.length
  .rw[eA l]at b;rw[eA (by rw[<-g.x?];exact l)]at f;obtain⟨A,h,O,P,Q⟩:=g.each i c j b f;have u:c≠p:=λz=>w (z▸bU b);have I:c≠a:=λz=>by subst z;rw[g.xo]at h;cases h
   exact⟨A,by rw[rg u,rg I,rg u];exact h,O,P,Q⟩
  .have o:i=bs.length:=by have:=(bZ.1 b).1;rw[au,c3]at this;omega
   subst o;rw[eh (aK _),nZ]at b;rw[g.x?,eh (aK _),nZ]at f;cases b;cases f;exact⟨[v],rb,C,hB,sd N rW⟩
def Jj(G:Bg)(b:FE):TS:=KN (tBM G.K "list" HC (OI (zI 1) (tF G b) (Ur F8)) (BD (zI 2) F8))
def OM{P:Ra}{l:V}(R:d6 G F σ ρ H0 H)(no:∀s∈ρ,s.gi=δ)(h1:σ[1]?=Z (Z (.ref a)))(T:σ[2]?=Z (Z l))(rd:ef G H0 d l)
  (g:Q0 G F H0 H a ks dss bs) (hk:fk ρ=Z (x,ρ)) (ek:ym x=Z k) (l1:ks.length<1000) (l2:∀i∈dss,i.length<1000)
  (kont:∀C E M,ro H0 C->d6 G F σ ρ C E->Q0 G F C E a (yQ ks dss k d).1 (yQ ks dss k d).2 M->P.nx σ E):Jj G fk P σ H:=by
 refine⟨.ref a,h1,a,J,.inl ⟨_,.inl g.xo⟩,_,_,_,x,ρ,d6.still R no,hk,λv A f s I r=>?_⟩;have X:=λb o e=>I.keep b o e (by simp);have W:=I.fr;have R2:=R.f5 X s I.sub W;have t:=g.f5 X s W;have u:=ef.mono s _ _ rd;refine⟨cb _,λp h=>?_⟩;have np:a≠p:=λz=>by subst z;rw[t.xo]at h;cases h
 have Q:d6 G F σ ρ A (e3 f p (.b0 [])):=R2.i1 h _;have g3:Q0 G F A (e3 f p (.b0 [])) a ks dss bs:=t.f5 (rp h _) (ro.refl _) λb o e=>.inl e;have lz:(ks.zip (bs.map V.ref)).length<aB:=by rw[fG,ae,<- g.len,fP,cw];omega
 refine⟨_,k,g3.xo,yO r ek,lz,λw B=>?_,λB=>?_⟩
 .obtain⟨j,e1,m⟩:=OK (by rw[ae];exact g.len) B;rw[bp]at m;cases q:bs[j]? with
  |none=>rw[q]at m;cases m
  |some b=>
   rw[q]at m;cases m;obtain⟨i,S⟩:∃i,dss[j]?=Z i:=⟨dss[j]'(by rw[<-g.x?];exact(bZ.1 q).1),bb _⟩;obtain⟨O,N,w2,w3,w4⟩:=g3.each j b i q S;have lx:O.length<aB:=by rw[<-q9 w4,cw];have:=l2 i (bU S);omega
   refine⟨.inl ⟨J,O,fx.of N⟩,l,T,b,O,l,J,J,N,lx,?_⟩;refine kont A _ bs s (d6.touch Q no (λc o e z=>?_) λc o e=>?_) (g3.more e1 q N u)
   .have nc:c≠b:=λy=>by
     subst y;rcases z with z|z
     .exact z w2
     .exact z w3
    rw[rg nc];exact e
   .by_cases y:c=b
    .subst y;exact⟨_,rb⟩
    .rw[rg y];exact⟨o,e⟩
 .have nk:=OL (by rw[ae];exact g.len) B;have h0p:=R2.ff h;have hBp:=R2.jj h;have ez:ij (ks.zip (bs.map V.ref)) k (.ref p)=(ks++[k]).zip ((bs++[p]).map V.ref):=by rw[NI _ B,aJ,jV (by rw[ae];exact g.len)];rfl
  rw[ez];have Y:e3 (e3 f p (.b0 [])) a (.dK ((ks++[k]).zip ((bs++[p]).map V.ref))) p=Z (.b0 []):=by rw[rg (λz=>np z.symm),rb]
  refine⟨.inl ⟨J,[],fx.of Y⟩,l,T,p,[],l,J,J,Y,by rw[cw];decide,?_⟩;refine kont A _ (bs++[p]) s (d6.touch Q no (λc o e z=>?_) λc o e=>?_) (t.fresh nk h h0p hBp u)
  .have n1:c≠p:=λy=>by
    subst y;rcases z with z|z
    .exact z h0p
    .exact z hBp
   have n2:c≠a:=λy=>by
    subst y;rcases z with z|z
    .exact z t.n0
    .exact z t.nB
   rw[cv,rg n1,rg n2];exact e
  .by_cases y:c=p
   .subst y;exact⟨_,rb⟩
   .rw[rg y];by_cases y2:c=a
    .subst y2;exact⟨_,rb⟩
    .rw[rg y2];exact⟨o,e⟩
end
def zR(b:D->Option D):aW->List eu->List aW->Option (List eu×List aW)
 |[],a,dss=>Z (a,dss)
 |d::r,a,dss=>match b d with
  |some x=>match ym x with
   |some k=>if (decide (a.length<1000)&&dss.all λc=>decide (c.length<1000))=γ then zR b r (yQ a dss k d).1 (yQ a dss k d).2 else U
   |none=>U
  |none=>U
def Kp(b:D->Option D):FS:=λc=>match c with
 |[.q (.b0 L),.un,.un]=>match zR b L [] []with
  |some (a,dss)=>Z (.rt (.M a (dss.map .b0)) [.q (.b0 L),.un,.un])
  |none=>U
 |_=>U
section
variable{X:Cx}{G:Bg}
theorem DD:∀(bs:List Addr) (dss:List aW),bs.length=dss.length->(∀(i:Nat) (b:Addr) (a:aW),bs[i]?=Z b->dss[i]?=Z a->∃c,d b=Z (.b0 c)/\b? G d a c)->
  b? G d (dss.map .b0) (bs.map V.ref)
 |[],[],_,_=>rW
 |[],_::_,h,_=>by cases h
 |_::_,[],h,_=>by cases h
 |b::bs,a::dss,h,k=>by obtain⟨c,j,l⟩:=k 0 b a J J;exact sd (Au j l) (DD bs dss (by simpa using h) λi b a e f=>k (i+1) b a e f)
theorem RV(R:d6 G F σ [.q (.b0 L),.un,s2] H0 H)(g:Q0 G F H0 H a ks dss bs)(o:Obj):
  ∃w,ro H0 w/\d6 G F σ [.q (.b0 L),.un,.un] w (e3 H a (.n' o (.dK (ks.zip (bs.map V.ref)))))/\ef G w (.M ks (dss.map .b0)) (.ref a):=by
 have x:∀{b:Addr},b∈bs->∃xs,H b=Z (.b0 xs)/\H0 b=U/\F.B b=U:=λ{b} p=>by obtain⟨i,hi,e⟩:=jD p;obtain⟨xs,h,m,r,_⟩:=g.each i b (dss[i]'(by rw[<-g.x?];exact hi)) (by rw[bb hi,e]) (bb _);exact⟨xs,h,m,r⟩
 have na:a∉bs:=λz=>by obtain⟨xs,h,_⟩:=x z;rw[g.xo]at h;cases h
 have q:ro H0 (λc=>if c=a then Z (.n' o (.dK (ks.zip (bs.map V.ref))))else if c∈bs then H c else H0 c):=λc u e=>by
  have f:c≠a:=λz=>by subst z;rw[g.n0]at e;cases e
  have l:c∉bs:=λz=>by obtain⟨_,_,m,_⟩:=x z;rw[m]at e;cases e
  show (if c=a then _ else if c∈bs then H c else H0 c)=_;rw[ak f,ak l];exact e
 refine⟨_,q,?_,?_⟩
 .exact {
   sub:=λc u e=>by
    have d:(if c=a then Z (HO.n' o (.dK (ks.zip (bs.map V.ref))))else if c∈bs then H c else H0 c)=Z u:=e;by_cases f:c=a
    .subst f;rw[aj J]at d;rw[rb];exact d
    .rw[ak f]at d;rw[rg f];by_cases l:c∈bs
     .rw[aj l]at d;exact d
     .rw[ak l]at d;exact R.sub _ _ d
   g0:=R.g0.t q
   keep:=λc u e n=>by rw[rg (λz=>by subst z;rw[g.nB]at e;cases e)];exact R.keep c u e n
   fr:=λc u e=>by
    have d:=e;by_cases f:c=a
    .subst f;exact .inr g.nB
    .rw[ak f]at d;by_cases l:c∈bs
     .obtain⟨_,_,_,r⟩:=x l;exact .inr r
     .rw[ak l]at d;exact R.fr _ _ d
   am:=λc C=>by
    by_cases f:c=a
    .subst f;exact⟨_,rb⟩
    .rw[rg f];exact R.am c C
   len:=R.len
   sl:=λi s e=>by
    match i,e with
    |0,e=>cases e;obtain⟨v,h,m⟩:=R.sl 0 _ J;exact⟨v,h,ef.mono q _ _ m⟩
    |1,e=>cases e;trivial
    |2,e=>cases e;trivial
    |i+3,e=>cases e
   ap:=λi j s t b k e k so=>by
    match i,e with
    |0,e=>cases e;cases so
    |1,e=>cases e;cases so
    |2,e=>cases e;cases so
    |i+3,e=>cases e }
 .unfold ef;refine⟨a,o,bs.map V.ref,J,by show (if a=a then _ else _)=_;rw[aj J],by rw[ae];exact g.len,DD bs dss g.x? λi b ds y A=>?_⟩;obtain⟨xs,h,m,r,I⟩:=g.each i b ds y A;have p:=bU y;refine⟨xs,?_,b?.mono q _ _ I⟩;have E:b≠a:=λz=>na (by rw[<-z];exact p);rw[ak E,aj p];exact h
def ON{L:aW}{b:Sl}(h:b.gi=δ):∀s∈[Sl.q (.b0 L),.un,b],s.gi=δ:=λs a=>by
 simp only[aN,bS,or_false]at a;rcases a with rfl|rfl|rfl
 .rfl
 .rfl
 .exact h
inductive GI(G:Bg) (F:Fr) (Ha:Hp) (p:Addr) (L:aW) (vk:D->Option D) (KS:List eu) (DSS:List aW) (i:Nat) (σ':St) (H':Hp):Prop
 |mk (Hi:Hp) (ks:List eu) (dss:List aW) (bs:List Addr) (s2:Sl):ro Ha Hi->Sl.gi s2=δ->d6 G F σ' [.q (.b0 L),.un,s2] Hi H'->σ'[1]?=Z (Z (.ref p))->Q0 G F Hi H' p ks dss bs->zR vk (L.drop i) ks dss=Z (KS,DSS)->GI G F Ha p L vk KS DSS i σ' H'
set_option tactic.hygienic true
def MQ(h1:PS X st1 (BB J2 (wQ 1)))(h2:PS X st2 (Qt (Z8 G (iL (cV 0))) (wQ 2) (Jj G (c1 f (cV 2)))))
  (h3:PS X st3 (XM (λC H Q=>zI 1 C H λx I=>Q x I\/∃a kvs,I a=Z (.dK kvs)/\∀o,Q x (e3 I a (.n' o (.dK kvs)))))):oz X [st1,st2,st3] (l? G (Kp f)):=
 oz.ee (EG h1 (EG h2 (Er h3))) λE C H hh=>by
  obtain⟨F,ρ,H0,o,R,e,k,k2⟩:=hh;unfold Kp at e;split at e
  .rename_i L;cases O:zR f L [] []with
   |none=>simp only[O]at e;cases e
   |some p=>
    obtain⟨KS,DSS⟩:=p;simp only[O]at e;cases e;intro p hp;have R1:=(R.i1 hp (.dK [])).set (i:=1) (v:=.ref p) (s:=.un) trivial (λz=>by cases z);have t:C.length=3:=R.len;have g1:Q0 G F H0 (e3 H p (.dK [])) p [] [] []:=⟨rb,R.ff hp,R.jj hp,J,J,nJ,nJ,λi b ds e1=>by cases e1⟩;have v1:(C.set 1 (Z (V.ref p)))[1]?=Z (Z (.ref p)):=by rw[f6 (by rw[t];decide)]
    refine⟨_,_,_,L,_,d6.still R1 (ON J),J,λA' M Hb s A wk=>?_⟩;have hs:=λb o e=>A.keep b o e (by simp);have R2:=R1.f5 hs s A.sub A.fr;have g2:=g1.f5 hs s A.fr;refine⟨λi m w h=>m=L.length - i/\i<=L.length/\GI G F M p L f KS DSS i w h,
     ⟨_,J,cb _,M,[],[],[],.un,ro.refl _,J,R2,v1,g2,O⟩,?_⟩
    rintro i m d j ⟨rfl,hi,Hi,ks,dss,bs,s2,B,n2,l,vi,T,c⟩;by_cases hlt:i<L.length
    .have ed:=hZ hlt;rw[ed]at c;unfold zR at c;cases S:f L[i]with
     |none=>simp only[S]at c;cases c
     |some x=>
      simp only[S]at c;cases P:ym x with
      |none=>simp only[P]at c;cases c
      |some kk=>
       simp only[P]at c;split at c
       .rename_i W;simp only[aT,bR,aC]at W;obtain⟨go,yl⟩:=(wk i Hi j B l.sub).1 L[i] (bb hlt);refine .inr ⟨go,GI G F M p L f KS DSS (i+1),
         λw h q=>⟨L.length - (i+1),by omega,J,hlt,q⟩,λu h y=>?_⟩
        obtain⟨H2,t1,t2,t3,t4,t5⟩:=yl u h y;have Y:d.length=3:=l.len;have R3:d6 G F (d.set 2 (Z u)) [.q (.b0 L),.un,.q L[i]] H2 h:=(l.f5 t3 t1 t2 t4).setIm 2 t5;have w1:(d.set 2 (Z u))[1]?=Z (Z (.ref p)):=by rw[jx (by decide)];exact vi
        have w2:(d.set 2 (Z u))[2]?=Z (Z u):=by rw[f6 (by rw[Y];decide)]
        refine OM R3 (ON J) w1 w2 t5 (T.f5 t3 t1 t4) (by show c1 f (cV 2) _=_;unfold c1 cV;simp only[List.getElem?_cons_succ,List.getElem?_cons_zero,S]) P W.1 (λds hd=>W.2 ds hd) λHc Hd N sc Rc gc=>?_;exact⟨Hc,_,_,N,_,B.t (t1.t sc),J,Rc,w1,gc,c⟩
       .cases c
    .have r:i=L.length:=by omega
     refine .inl ⟨(wk i Hi j B l.sub).2 r,?_⟩;subst r;rw[List.drop_length]at c;cases c;refine⟨.ref p,vi,.inr ⟨p,_,T.xo,λo=>?_⟩⟩;obtain⟨Hq,q1,q2,q3⟩:=RV l T o;exact k _ _ Hq _ (s.t (B.t q1)) q2 q3
  .cases e
end
set_option tactic.hygienic false
section
variable{X:Cx}{G:Bg}
def RX:∀y b,sG "int" y=Z b->cI X.K (y.val G) (.type "int")=Z b:=Fd (by kernel_rfl)
def OO:∀y b,sG "bool" y=Z b->cI X.K (y.val G) (.type "bool")=Z b:=Fd (by kernel_rfl)
def W':∀y b,sG "tuple" y=Z b->cI X.K (y.val G) (.type "tuple")=Z b:=Fd (by kernel_rfl)
end
def O?(F:Fr)(p:Addr)(o:HO):Fr:=⟨F.B0,λb=>if b=p then Z o else F.B b,F.A⟩
def Ex:(O? F p o).B p=Z o:=by show (if p=p then _ else _)=_;rw[aj J]
theorem Aw(h:b≠p):(O? F p o).B b=F.B b:=by show (if b=p then _ else _)=_;rw[ak h]
theorem Ba.frame{m:Fr}(h:Ba G F r H o s)(hA:m.A=F.A)(hB:∀a,o=Z (.ref a)->s.gi=γ->F.B a=U->m.B a=U):Ba G m r H o s:=by
 cases s with
 |un=>trivial
 |q d=>exact h
 |J p=>obtain⟨a,l,b,e,f,i,j⟩:=h;exact⟨a,l,b,e,f,hB a b J i,j⟩
 |pm p=>obtain⟨a,l,b,e,f,i,j⟩:=h;exact⟨a,l,b,e,f,by rw[hA];exact i,j⟩
 |dk u p=>obtain⟨a,l,b,e,f,i,j,q⟩:=h;exact⟨a,l,b,e,f,hB a b J i,j,q⟩
 |ob c w p=>obtain⟨a,t,l,b,e,f,i,j,q⟩:=h;exact⟨a,t,l,b,e,f,by rw[hA];exact i,j,q⟩
section
variable{X:Cx}{G:Bg}{F:Fr}{σ:St}{ρ:aO}{H0 H:Hp}{p:Addr}{o:HO}
theorem d6.O?(R:d6 G F σ ρ H0 H)(c:H p=U)(o:HO):d6 G (L4.O? F p o) σ ρ H0 (e3 H p o) where
 sub:=(R.i1 c o).sub
 g0:=R.g0
 keep:=λb u e n=>by
  by_cases d:b=p
  .subst d;rw[Ex]at e;rw[rb];exact e
  .rw[Aw d]at e;exact(R.i1 c o).keep b u e n
 fr:=λb u e=>by
  have d:b≠p:=λz=>by subst z;rw[R.ff c]at e;cases e
  rw[Aw d];exact R.fr b u e
 am:=(R.i1 c o).am
 len:=R.len
 sl:=λi s e=>by refine Ba.frame ((R.i1 c o).sl i s e) J λa j so hB=>?_;obtain⟨l,u,f,h,_⟩:=(R.sl i s e).at so;rw[j]at f;cases f;rw[Aw (λz=>by subst z;rw[c]at h;cases h)];exact hB
 ap:=R.ap
theorem d6.D'(R:d6 G (L4.O? F p o) σ ρ H0 H)(hB:F.B p=U):d6 G F σ ρ H0 H where
 sub:=R.sub
 g0:=R.g0
 keep:=λb u e n=>R.keep b u (by rw[Aw (λz=>by subst z;rw[hB]at e;cases e)];exact e) n
 fr:=λb u e=>by
  rcases R.fr b u e with z|z
  .exact .inl z
  .by_cases c:b=p
   .subst c;exact .inr hB
   .rw[Aw c]at z;exact .inr z
 am:=R.am
 len:=R.len
 sl:=λi s e=>Ba.frame (R.sl i s e) J λa d so q=>by
  by_cases c:a=p
  .subst c;exact hB
  .rw[Aw c]at q;exact q
 ap:=R.ap
theorem d6.layHeld(R:d6 G (L4.O? F p o) σ ρ H0 H)(hB:F.B p=U)(f:H0 p=U)(nA:p∉F.A)(u:HO):d6 G F σ ρ (e3 H0 p u) (e3 H p u) where
 sub:=λb v e=>by
  by_cases c:b=p
  .subst c;rw[rb]at e ⊢;exact e
  .rw[rg c]at e ⊢;exact R.sub _ _ e
 g0:=(d6.D' R hB).g0.t (rp f u)
 keep:=λb v e n=>by rw[rg (λz=>by subst z;rw[hB]at e;cases e)];exact(d6.D' R hB).keep b v e n
 fr:=λb v e=>by
  by_cases c:b=p
  .subst c;exact .inr hB
  .rw[rg c]at e;exact(d6.D' R hB).fr _ _ e
 am:=λb c=>by
  have d:b≠p:=λz=>by subst z;exact nA c
  rw[rg d];exact R.am b c
 len:=R.len
 sl:=λj t e=>by
  have ne:∀a,(σ[j]?).join=Z (.ref a)->t.gi=γ->a≠p:=λa z to y=>by
   subst y;obtain⟨m,v,h,_,_,l⟩:=(R.sl j t e).at to;rw[z]at h;cases h;rcases l with q|q
   .rw[Ex]at q;cases q
   .exact nA q
  refine((d6.D' R hB).sl j t e).f5 (rp f u) (λa v z to q=>?_) λa v z to q i=>?_
  .rw[rg (ne a z to)];exact q
  .rw[rg (ne a z to)];exact i
 ap:=R.ap
def yR:List (Str×FE)->aO->Option (aW×aO)
 |[],ρ=>Z ([],ρ)
 |(_,f)::r,ρ=>match f ρ with
  |some (d,a)=>match yR r a with
   |some (c,b)=>Z (d::c,b)
   |none=>U
  |none=>U
def OP(G:Bg)(kfs:List (Str×FE)):List (TE×TE):=kfs.map λq=>(tC (.str q.1),tF G q.2)
theorem Jk:∀(kfs:List (Str×FE)) (ρ b:aO) (i:aW) (H0 H:Hp) (Q:List (V×V)->Hp->Prop),d6 G F σ ρ H0 H->yR kfs ρ=Z (i,b)->
  (∀j h a,ro H0 h->d6 G F σ b h a->b? G h i j->Q (dw (λk v=>(V.str k,v)) (kfs.map (·.1)) j) a)->HD (OP G kfs) σ H Q
 |[],ρ,b,i,H0,H,Q,R,e,k=>by cases e;exact k [] H0 H (ro.refl _) R rW
 |(x,f)::r,ρ,b,i,H0,H,Q,R,e,k=>by
  unfold yR at e;cases t:f ρ with
  |none=>simp only[t]at e;cases e
  |some q=>
   obtain⟨d,c⟩:=q;simp only[t]at e;cases u:yR r c with
   |none=>simp only[u]at e;cases e
   |some q=>obtain⟨m,B⟩:=q;simp only[u]at e;cases e;refine⟨F,ρ,H0,d,c,R,t,λv h a s z A=>?_⟩;exact Jk r c _ m h a _ z u λj y l w R2 rs=>k (v::j) y l (s.t w) R2 (sd (ef.mono w _ _ A) rs)
theorem Jl:∀(more acc:List (eu×V)),((acc++more).map (·.1)).Nodup->A8 acc more=acc++more
 |[],acc,_=>by rw[bI];rfl
 |q::r,acc,h=>by
  have c:(acc.any λkv=>decide (kv.1=q.1))=δ:=by rw[iy];intro z;obtain⟨y,b,a⟩:=fF.1 z;rw[aJ,cq]at h;exact h.2.2 y.1 (bF b) q.1 (bF bc) (bK a)
  have e:ij acc q.1 q.2=acc++[q]:=by unfold ij;rw[c];rfl
  show A8 (ij acc q.1 q.2) r=_;rw[e,Jl r (acc++[q]) (by simpa using h)];simp
def MR:e3 (e3 H p x) p y=e3 H p y:=by
 funext b
 by_cases a:b=p
 .subst a;rw[rb,rb]
 .rw[rg a,rg a,rg a]
def DE(kfs:List (Str×FE)):FE:=λρ=>match yR kfs ρ with
 |some (b,a)=>Z (.M (kfs.map λq=>Sum.inr q.1) b,a)
 |none=>U
theorem Fk:∀{kfs:List (Str×FE)} {ρ a:aO} {b:aW},yR kfs ρ=Z (b,a)->b.length=kfs.length
 |[],ρ,a,b,e=>by cases e;rfl
 |(x,f)::r,ρ,a,b,e=>by
  unfold yR at e;cases i:f ρ with
  |none=>simp only[i]at e;cases e
  |some q=>
   obtain⟨d,h⟩:=q;simp only[i]at e;cases c:yR r h with
   |none=>simp only[c]at e;cases e
   |some q=>obtain⟨j,l⟩:=q;simp only[c]at e;cases e;rw[aF,aF,Fk c]
theorem Jm:∀(a:aE) (b:bD),dw (λk v=>(V.str k,v)) a b=((a.map λk=>(Sum.inr k:eu)).zip b).map λkv=>(kV kv.1,kv.2)
 |[],b=>rfl
 |k::a,[]=>rfl
 |k::a,v::b=>by show (V.str k,v)::_=_;rw[Jm a b];rfl
theorem RY(h:PE X e (S6 (OP G kfs)))(x:(kfs.map λq=>(Sum.inr q.1:eu)).Nodup)(l:kfs.length<=15):PE X e (tF G (DE kfs)):=PE.ee (PE.ghost h) λσ H Q t=>by
 obtain⟨F,ρ,H0,d,E,R,e,k⟩:=t;unfold DE at e;cases a:yR kfs ρ with
 |none=>simp only[a]at e;cases e
 |some q=>
  obtain⟨r,I⟩:=q;simp only[a]at e;cases e;intro p b;have hB:F.B p=U:=R.jj b;have nA:p∉F.A:=λz=>by obtain⟨u,q⟩:=R.am p z;rw[b]at q;cases q
  refine Jk kfs ρ _ r H0 _ _ (d6.O? R b (.dK [])) a λc m f s i rs=>?_;have C:f p=Z (.dK []):=i.keep p _ Ex nA;have j:m p=U:=by
   cases q:m p with
   |none=>rfl
   |some u=>
    rcases i.fr p u q with z|z
    .have:=R.g0 _ _ z;rw[R.ff b]at this;cases this
    .rw[Ex]at z;cases z
  have lv:(kfs.map λq=>(Sum.inr q.1:eu)).length=c.length:=by rw[ae,<- Fk a,q9 rs]
  have w:(((kfs.map λq=>(Sum.inr q.1:eu)).zip c).map (·.1))=kfs.map λq=>(Sum.inr q.1:eu):=List.map_fst_zip (by rw[lv];exact aK _)
  refine⟨C,(kfs.map λq=>(Sum.inr q.1:eu)).zip c,?_,?_,.inr ⟨p,_,rb,λy=>?_⟩⟩
  .rw[Jm,aP];rfl
  .rw[fG,<- lv,fP,ae];exact l
  .rw[MR,Jl _ [] (by rw[cv,w];exact x),cv];refine k _ _ _ (s.t (rp j _)) (d6.layHeld i hB j nA _) ?_;unfold ef;exact⟨p,y,c,J,rb,lv,b?.mono (rp j _) _ _ rs⟩
end
end L4
namespace L4
open PySem PySem.Spec PySem.Calls PyProof.Rows PySem.W L2 L3
inductive xy:List ab->aE->Prop
 |nil:xy [] []
 |cons (x:Str) (t:Tok) {vs:List ab} {xs:aE} (h:xy vs xs):xy (.str x t::vs) (x::xs)
section
variable{X:Cx}{G:Bg}{pins:cE}{σ:St}{H:Hp}{s:af}
def Fl:aW->Option aE
 |[]=>Z []
 |.str x::a=>match Fl a with
  |some b=>Z (x::b)
  |none=>U
 |_=>U
theorem Fm:∀{a:aW} {b:bD} {l:aE},b? G H a b->Fl a=Z l->b=l.map V.str
 |[],b,l,r,e=>by cases e;unfold b? at r;exact r
 |d::a,b,l,r,e=>by
  cases d with
  |str x=>
   unfold Fl at e;cases c:Fl a with
   |none=>rw[c]at e;cases e
   |some i=>rw[c]at e;cases e;unfold b? at r;obtain⟨v,j,rfl,f,h⟩:=r;unfold ef at f;subst f;rw[Fm h c,aR]
  |_=>cases e
end
end L4
namespace L4
open PySem PySem.Spec PyProof.Rows L2 L3
section
variable{X:Cx}{G:Bg}
set_option tactic.hygienic true
def RZ:ke G (λx y H Q=>∃z n,x=.str z/\y=.int n/\MulOk z n/\Q (.str (i8 z n)) H) Lj:=λx y z o H v u Q e s d f k=>by
 unfold Lj at e;split at e
 .rename_i a n;split at e
  .rename_i m;obtain⟨p,r,h⟩:=m;cases e;unfold ef at d f;refine⟨a,n,d,f,⟨?_,λi j l=>?_,λi j=>?_⟩,k _ λw w=>u4 _⟩
   .rw[jy];exact⟨bx (by omega),bx (by omega)⟩
   .have c:(0:Int)<n:=by omega
    have q:(9223372036854775807:Int) / n >= 9223372036854775:=by have:=Int.le_ediv_of_mul_le (a:=9223372036854775) (b:=9223372036854775807) c (by omega);exact this
    have:((2:Int) ^ 63 - 1)=9223372036854775807:=by decide
    rw[this]at l;omega
   .have c:n.toNat<=1000:=by omega
    have:a.length * n.toNat<=100 * 1000:=nL h c;refine bx ?_;rw[cw];omega
  .cases e
 .cases e
end
set_option tactic.hygienic false
def Lq:List String:=["NoneType", "bool", "int", "str", "tuple", "list", "dict"]
def u6(n c:Nat):Ty->Option Bool:=λy=>match y with
 |.b x=>if Lq.contains x=γ then Z δ else U
 |.c k=>if k<n then Z (k==c)else U
def ti(K:ao)(cs:List Addr)(C:Addr)(c:Nat):Bool:=
 Lq.all (λx=>cI K (.type x) (.ref C)==Z δ)&&(av cs.length).all λk=>cI K (.ref (cs.getD k 0)) (.ref C)==Z (k==c)
set_option tactic.hygienic true
def sH{B:Bg}(h:ti B.K cs (B.ca c) c=γ)(i:cs.length=n)(d:∀k,k<n->cs.getD k 0=B.ca k)(hI:∀k,k<n->Jc B.K (B.ca k)):Fh B c (u6 n c):=by
 unfold ti at h;rw[aT,aC,aC]at h;refine⟨λy b e=>?_,λj b e=>?_⟩
 .cases y with
  |b x=>
   unfold u6 at e;simp only at e;split at e
   .rename_i f;cases e;exact eL (h.1 x (ju.1 f))
   .cases e
  |c k=>
   unfold u6 at e;simp only at e;split at e
   .rename_i a;cases e;have:=eL (h.2 k (bz.2 (by omega)));rw[d k a]at this;exact this
   .cases e
 .unfold u6 at e;simp only at e;split at e
  .rename_i a;exact hI j a
  .cases e
set_option tactic.hygienic false
def Vu{l:List Addr}(h:l.Nodup)(a:j<l.length)(b:k<l.length)(e:l.getD j 0=l.getD k 0):j=k:=by
 rw[cp,cp,bb a,bb b]at e;have c:=List.pairwise_iff_getElem.1 h;rcases Nat.lt_trichotomy j k with y|y|y
 .exact ar e (c j k a b y)
 .exact y
 .exact ar e.symm (c k j b a y)
section
variable{B:Bg}{K:ao}{mg:Str->Option ab}{h:Heap}
def XC(X:K.In h)(a:h.Ns aQ mg)(e:gO K aQ x=Z (Z (.int i t))):xA B mg x (.int i):=
 ⟨.int i,_,gM X a e,⟨_,J⟩,λz=>ui _⟩
inductive yS:List ab->aE->Prop
 |nil:yS [] []
 |cons {v:ab} {x:Str} {t:Tok} {vs:List ab} {xs:aE} (e:v=.str x t) (h:yS vs xs):yS (v::vs) (x::xs)
def yS.vals(h:yS b c):eg (c.map V.str) b:=by
 induction h with
 |nil=>exact .nil
 |cons e h a=>exact .cons ⟨_,e⟩ a
theorem Fn:∀a:aE,b? B H (a.map D.str) (a.map V.str)
 |[]=>rW
 |x::a=>sd (u4 x) (Fn a)
def Kq(c:aE)(X:B.K.In h)(d:h.Ns aQ mg)(e:gO B.K aQ x=Z (Z (.ref a)))(l:B.K.lookup a=Z o)(f:o.cls=.type "tuple")(hd:o.data=.seq b n)(i:b.size<=1000)
  (r:yS b.toList c):xA B mg x (.ea (c.map D.str)):=
 ⟨.ref a,_,gM X d e,J,λH=>As (.inr ⟨o,b,n,l,f,hd,by rw[cw];omega,r.vals⟩) (Fn c)⟩
end
section
variable{f g' h:FS}{c:FT}{e e' e2:FE}{a a':FA}{ρ ρ' ρ1 ρ2 ρ3:aO}{d x y z:D}{ds xs ys:aW}{k:Nat}{er:List Nat}{g:FG}{ft:FT}{fe:FE}
theorem Fo{i:Type}(j:i->D)(p:i->Bool)(h:i->D):∀l:List i,
  (∀a∈l,∃ρ1 ρ2,g (j a) (Em k er ρ)=Z ρ1/\ft ρ1=Z (p a,ρ2)/\(p a=γ->∃ρ3,fe ρ2=Z (h a,ρ3)/\vx er (ρ3.drop k) ρ=Z ρ)/\(p a=δ->vx er (ρ2.drop k) ρ=Z ρ))->
  AK k er g ft fe (l.map j) ρ=Z ((l.filter p).map h,ρ)
 |[],_=>rfl
 |a::l,st=>by
  obtain⟨ρ1,ρ2,o,q,r,t⟩:=st a bc;have m:=Fo j p h l λa' A=>st a' (aY _ A);rw[aR];unfold AK;rw[o];simp only[q];cases b:p a with
  |true=>obtain⟨ρ3,u,w⟩:=r b;simp only[u,w,m,iB,b,if_true,aR]
  |false=>simp only[t b,m,iB,b];rfl
def R0{i:Type}(b:i->D)(h:i->D)(l:List i)(st:∀a∈l,∃ρ1 ρ3,g (b a) (Em k er ρ)=Z ρ1/\fe ρ1=Z (h a,ρ3)/\vx er (ρ3.drop k) ρ=Z ρ):AK k er g sf fe (l.map b) ρ=Z (l.map h,ρ):=by have:=Fo (ft:=sf) b (λx=>γ) h l λa p=>let ⟨ρ1,ρ3,j,m,o⟩:=st a p;⟨ρ1,ρ1,j,J,λx=>⟨ρ3,m,o⟩,λz=>by cases z⟩;rw[this,mj.2 λx x=>J]
def yT(neg:Bool)(a b:Str):fh neg (.str a) (.str b)=Z (.I (if neg then !decide (a=b)else decide (a=b))):=by
 have e:Jb neg (.str a) (.str b)=Z (.I (if neg then !decide (V.str a=V.str b)else decide (V.str a=V.str b))):=rfl;have e2:decide (V.str a=V.str b)=decide (a=b):=by
  by_cases h:a=b
  .subst h;simp
  .rw[bx h,bx (λz=>h (by injection z))]
 unfold fh;rw[e,e2]
def OQ(a:Str)(l:aE):inV (V.str a) (l.map V.str)=decide (a∈l):=by
 unfold inV;rw[dR,fF,bR];constructor
 .rintro⟨v,o,i⟩;obtain⟨b,m,rfl⟩:=az.1 o;have:=by unfold eqV at i;simpa using i
  rw[<-this];exact m
 .intro j;refine⟨.str a,bF j,?_⟩;unfold eqV;simp
def MU(l:aE):(l.map D.str).all uw=γ:=by rw[n4,aC];intro x _;rfl
def R7(l:aE):(l.map D.str).map vD=l.map V.str:=by rw[aP];rfl
def Fp(neg:Bool)(a:Str)(l:aE):A? neg (.str a) (.b0 (l.map D.str))=Z (.I (if neg then !decide (a∈l)else decide (a∈l))):=by show (if uw (.str a)&&(l.map D.str).all uw then Z (D.I (if neg then !inV (vD (.str a)) ((l.map D.str).map vD)else inV (vD (.str a)) ((l.map D.str).map vD)))else U)=_;rw[MU,R7];show Z (D.I (if neg then !inV (V.str a) (l.map V.str)else inV (V.str a) (l.map V.str)))=_;rw[OQ]
def Jn(neg:Bool)(a:Str)(l:aE):A? neg (.str a) (.ea (l.map D.str))=Z (.I (if neg then !decide (a∈l)else decide (a∈l))):=Fp neg a l
theorem HQ:∀bs:List Bool,Ge (bs.map D.I)=Z bs
 |[]=>rfl
 |b::bs=>by rw[aR];unfold Ge;rw[HQ bs];rfl
def OR(bs:List Bool):vZ (.b0 (bs.map D.I))=Z (.I (bs.all id)):=by unfold vZ;simp only[HQ];rfl
def OS(bs:List Bool):Fg (.b0 (bs.map D.I))=Z (.I (bs.any id)):=by unfold Fg;simp only[HQ];rfl
def Lr{b:Type}(l:List b)(p:b->Bool):vZ (.b0 (l.map λa=>D.I (p a)))=Z (.I (l.all p)):=by rw[show (l.map λa=>D.I (p a))=(l.map p).map D.I by rw[aP];rfl,OR,n4];rfl
def R8{b:Type}(l:List b)(p:b->Bool):Fg (.b0 (l.map λa=>D.I (p a)))=Z (.I (l.any p)):=by rw[show (l.map λa=>D.I (p a))=(l.map p).map D.I by rw[aP];rfl,OS,List.any_map];rfl
theorem Fq:∀l:aE,Dy (l.map D.str)=Z (l.map Sum.inr)
 |[]=>rfl
 |x::l=>by rw[aR];unfold Dy;rw[Fq l];rfl
theorem OT:∀(l acc:List eu),(acc++l).Nodup->l.foldl η acc=acc++l
 |[],acc,_=>by rw[bI];rfl
 |k::l,acc,h=>by
  have i:acc.any (λz=>decide (z=k))=δ:=by rw[iy];intro z;obtain⟨y,j,b⟩:=fF.1 z;rw[cq]at h;exact h.2.2 y j k bc (bK b)
  rw[iJ,show η acc k=acc++[k] by unfold η;rw[i];rfl,OT l (acc++[k]) (by simpa using h)];simp
def Ax{l:aE}(h:l.Nodup):(l.map (Sum.inr:Str->eu)).Nodup:=by unfold List.Nodup at h ⊢;rw[mO];exact h.imp λhne z=>hne (kr z)
def DF{l:aE}(h:l.Nodup)(b:l.length<=1000):uj (l.map D.str)=Z (.int l.length):=by unfold uj;rw[Fq];simp only[ae,b,if_true];unfold xw;rw[OT _ [] (by simpa using Ax h)];simp
def wC(neg:Bool)(a b:Int):fh neg (.int a) (.int b)=Z (.I (if neg then !decide (a=b)else decide (a=b))):=by
 have e:Jb neg (.int a) (.int b)=Z (.I (if neg then !decide (V.int a=V.int b)else decide (V.int a=V.int b))):=rfl;have e2:decide (V.int a=V.int b)=decide (a=b):=by
  by_cases h:a=b
  .subst h;simp
  .rw[bx h,bx (λz=>h (by injection z))]
 unfold fh;rw[e,e2]
def rT(b:e ρ=Z (.I γ,ρ1)):sT e e' ρ=e' ρ1:=by unfold sT;rw[b]
def um{g:Nat->Option (aW->Option D)}{m:Str}{c:Nat}{b:aE}{i:aW->Option D}(j:e ρ=Z (.obj c b xs,ρ1))(l:g c=Z i)(o:b.contains m=δ)(p:a ρ1=Z (ys,ρ2))(q:i (.obj c b xs::ys)=Z d):se g m e a ρ=Z (d,ρ2):=by unfold se;rw[j];simp only[l,o,p,q];rfl
def Ay{c:Nat}{g:aW->Option (aE×aW)}{ns:aE}(b:a ρ=Z (ds,ρ1))(i:g ds=Z (ns,xs)):rJ c g a ρ=Z (.obj c ns xs,ρ1):=by unfold rJ;rw[b];simp only[i]
def yU(i:ds.length=j)(h:b (L4.C? n ds)=Z (.nx ρ)):e0 j n b ds=Z .E:=by unfold e0;rw[aj i,h]
def Bh(i:ds.length=j)(h:b (L4.C? n ds)=Z (.T xs ρ)):e0 j n b ds=Z (.b0 xs):=by unfold e0;rw[aj i,h]
theorem BU:∀{b:List eu} {ds:aW} {k:eu} {d:D},b.Nodup->(k,d)∈b.zip ds->wy b ds k=Z d
 |[],_,k,d,_,h=>by simp at h
 |j::b,[],k,d,_,h=>by simp at h
 |j::b,l::ds,k,d,i,h=>by
  unfold wy;rw[dO]at h;rcases aN.1 h with e|h
  .cases e;rw[aj J]
  .rw[eG]at i;rw[ak (λz=>i.1 (by subst z;exact(iG h).1))];exact BU i.2 h
end
end L4
namespace L4
open PySem PySem.Spec PyProof.Rows L2 L3
open PySem.W (nsIn findIn keepIn isFn makesIn fnOf)
def Kr{b:Type}:Nat->(List b->Prop)->Prop
 |0,P=>P []
 |n+1,P=>∀a,Kr n λl=>P (a::l)
theorem Ey{b:Type}:∀{n:Nat} {P:List b->Prop},Kr n P->∀l,l.length=n->P l
 |0,P,h,[],_=>h
 |n+1,P,h,a::l,e=>Ey (h a) l (ko e)
structure CF(K:ao)(C:Addr)(xs:aE):Prop where
 ci:Jc K C
 mks:makesIn K C=γ
 kp:keepIn K (.ref C)=γ
 na:(xs.all λx=>match findIn K (.ref C) x with|some U=>γ|_=>δ)=γ
set_option tactic.hygienic true
theorem CF.at{K:ao}(c:CF K C xs)(i:Nat)(h:xs[i]?=Z x):Ms K C/\xT K C x:=⟨c.ci.cl,by
 have e:=aC.1 c.na x (bU h);split at e
 .rename_i a;exact a
 .cases e⟩
set_option tactic.hygienic false
def uD{Q:Nat->Prop}{i:Nat}(h:Q i):∀c,(c==i)=γ->Q c:=λc e=>by rw[beq_iff_eq]at e;subst e;exact h
def ι{Q:Nat->Prop}{p:Nat->Bool}{i:Nat}(h:∀c,p c=γ->Q c)(a:Q i):∀c,(p c||c==i)=γ->Q c:=λc e=>by
 rw[iI]at e;rcases e with e|e
 .exact h c e
 .exact uD a c e
structure Yw(P:aI)(w:ay)(mg:Str->Option ab)(b1:Heap)(G:Bg):Prop where
 m:∃h:Heap,G.K.In h/\h.Ns aQ mg
section
variable{P:aI}{w:ay}{mg:Str->Option ab}{b1:Heap}{G:Bg}{x m qual:Str}{st:Stmt}{N ps:aE}{k c:Nat}{K:ao}
def Yw.g(y:Yw P w mg b1 G)(e:nsIn G.K aQ x=Z (Z v)):mg x=Z v:=by obtain⟨h,X,a⟩:=y.m;exact gM X a e
set_option tactic.hygienic true
def Yw.n(y:Yw P w mg b1 G){xs:aE}(h:(xs.all λx=>match nsIn G.K aQ x with|some U=>γ|_=>δ)=γ)(i:Nat)(hi:xs[i]?=Z x):mg x=U:=by
 obtain⟨d,X,a⟩:=y.m;have e:=aC.1 h x (bU hi);split at e
 .rename_i b;exact W.mg_none_of X a b
 .cases e
set_option tactic.hygienic false
def GC(K:ao)(x:Str)(i:Int):Prop:=∃t:Tok,nsIn K aQ x=Z (Z (.int i t))
def Yw.ci(y:Yw P w mg b1 G)(q:GC G.K x i):xA G mg x (.int i):=by obtain⟨h,X,a⟩:=y.m;obtain⟨t,e⟩:=q;exact XC X a e
def GS(K:ao)(x:Str)(d:aE):Prop:=∃(a:Addr) (o:Obj) (b:Array ab) (n:Nat),nsIn K aQ x=Z (Z (.ref a))/\K.lookup a=Z o/\o.cls=.type "tuple" /\ o.data=.seq b n/\b.size<=1000/\yS b.toList d
def Yw.cs(y:Yw P w mg b1 G)(q:GS G.K x b):xA G mg x (.ea (b.map D.str)):=by obtain⟨h,X,d⟩:=y.m;obtain⟨a,o,r,n,e,l,f,i,j,p⟩:=q;exact Kq b X d e l f i j p
def GD(K:ao)(x:Str)(st:Stmt):Prop:=∃(f:Addr) (a:bP),nsIn K aQ x=Z (Z (.ref f))/\ζ K x x st f a
def GM(K:ao)(C:Addr)(m qual:Str)(st:Stmt):Prop:=∃(f:Addr) (a:bP),findIn K (.ref C) m=Z (Z (.ref f))/\isFn K (.ref f)=γ/\ζ K m qual st f a
def GJ(K:ao)(C:Addr)(qual:Str)(st:Stmt)(b:bD):Prop:=∃(f:Addr) (a:bP) (T:Addr) (o:Obj) (dl:List ab) (n:Nat),findIn K (.ref C) "__init__" = Z (Z (.ref f))/\isFn K (.ref f)=γ/\Mw K "__init__" qual st f a T/\K.lookup T=Z o/\o.data=.seq dl.toArray n/\eg b dl
abbrev Bdy(P:aI)(w:ay)(K:ao)(mg:Str->Option ab)(b1:Heap)(N:aE)(qual:Str)(st:Stmt)(k:Nat)(t:TS):Prop:=∀(f:Addr) (cdv:ab) (A:aM) (d?:List Env) (s:af) (H:Hp) (E:XK),tR k (A.deeper (envOfC qual (rF st) s.heap.objs.size f cdv))->oz (Fc P w K mg b1 N qual st f cdv A d? s H E) (rZ st) t
abbrev μ(x qual:Str)(st:Stmt)(ps:aE):Prop:=Kr ps.length λa=>∀(kV doc pm:ab) (b:Option Addr) (cdv d:ab),bindArgs (fnOf x qual (uZ st) (rZ st) (rF st) .none kV doc pm b cdv d) ⟨a,[]⟩=pure (ps.zip a)
theorem μ.ok(b:μ x qual st ps)(F:ζ K x qual st f e):ki K e ps []:=F.pw λkV doc pm a cdv d i h=>Ey b i h kV doc pm a cdv d
theorem gD(y:Yw P w mg b1 G)(q:GD G.K x st)(d:μ x x st ps)(ok:∀f b,ζ G.K x x st f b->vv P w G.K mg b1 Dk k f b ps e):Dt P w G.K mg b1 k x ps e:=by obtain⟨f,b,a,F⟩:=q;exact⟨f,b,y.g a,F.kp,d.ok F,ok f b F⟩
def gF(d:g=e0 h n b)(y:Yw P w mg b1 G)(q:GD G.K x st)(S:uB N ps (rF st))(body:Bdy P w G.K mg b1 N x st k (l? G b))(e:ps.length=h:=by rfl)(hN:N.length=n:=by rfl)(a:μ x x st ps:=by (repeat intro _);rfl):Dt P w G.K mg b1 (k+1) x ps (e? G g):=
 gD y q a λf i F=>On d e hN F S (body f)
def gN'(d:g=pk h n b)(y:Yw P w mg b1 G)(q:GD G.K x st)(S:uB N ps (rF st))(body:Bdy P w G.K mg b1 N x st k (l? G b))(e:ps.length=h:=by rfl)(hN:N.length=n:=by rfl)(a:μ x x st ps:=by (repeat intro _);rfl):Dt P w G.K mg b1 (k+1) x ps (q0 G g):=
 gD y q a λf i F=>Td d e hN F S (body f)
def gI(h:g=tH c o n b)(y:Yw P w mg b1 G)(C:CF G.K (G.ca c) r)(a:nsIn G.K aQ x=Z (Z (.ref (G.ca c))))(q:GM G.K (G.ca c) "__init__" qual st)(S:uB N (p::ps) (rF st))(body:Bdy P w G.K mg b1 N qual st k (l? G b))(j:ps.length=o:=by rfl)(hN:N.length=n:=by rfl)(d:μ "__init__" qual st (p::ps):=by (repeat intro _);rfl):HM G P w mg b1 (k+1) x c (p::ps) [] g:=by obtain⟨f,e,i,l,F⟩:=q;exact⟨f,e,[],⟨C.mks,i,l,C.kp⟩,y.g a,d.ok F,.nil,Yu h j hN F S (body f)⟩
def Jo(h:eg d b):b.length=d.length:=by
 induction h with
 |nil=>rfl
 |cons _ _ a=>rw[aF,aF,a]
def MV(h:eg f e):∀j,eg (f.drop j) (e.drop j):=by
 induction h with
 |nil=>intro j;rw[nU,nU];exact .nil
 |cons a b d=>
  intro j;cases j with
  |zero=>exact .cons a b
  |succ j=>exact d j
theorem gJ(B:g=tH c M n b)(y:Yw P w mg b1 G)(C:CF G.K (G.ca c) O)(a:nsIn G.K aQ x=Z (Z (.ref (G.ca c))))(q:GJ G.K (G.ca c) qual st u)(S:uB N (p::ps) (rF st))(body:Bdy P w G.K mg b1 N qual st k (l? G b))(j:Nat)(H:ps.length=M:=by rfl)(hN:N.length=n:=by rfl)
  (z:Kr u.length λdl=>Kr ((p::ps).length - (u.drop j).length) λd=>∀(T:Addr) (kV doc pm:ab) (h:Option Addr) (cdv t:ab),∃k,bindArgs (fnOf "__init__" qual (uZ st) (rZ st) (rF st) (.ref T) kV doc pm h cdv t) ⟨d,[]⟩=seqItems? (.ref T)>>=k/\k (Z dl.toArray)=pure ((p::ps).zip (d++dl.drop j)):=by (repeat intro _);exact⟨_,J,J⟩):HM G P w mg b1 (k+1) x c (p::ps) (u.drop j) g:=by
 obtain⟨f,A,T,o,dl,n,i,I,F,l,e,r⟩:=q;refine⟨f,A,dl.drop j,⟨C.mks,i,I,C.kp⟩,y.g a,F.pw l e λkV doc pm h cdv t d E=>?_,MV r j,Vg B H hN F S (body f)⟩;exact Ey (Ey z dl (Jo r)) d (by rw[E,dP,dP,Jo r]) T kV doc pm h cdv t
end
end L4
namespace L4
open PySem PySem.Spec PySem.Calls PyProof.Rows PySem.W L2 L3
structure Sto(c:Nat->Nat->Bool)(n:Nat):Prop where
 tr:∀i j k,i<n->j<n->k<n->c i j=γ->c j k=γ->c i k=γ
 tot:∀i j,i<n->j<n->i≠j->c i j=δ->c j i=γ
section
variable{X:Cx}{G:Bg}{pins:cE}{σ:St}{H:Hp}{s:af}
def ZC(K:ao)(H:Hp)(y:V)(k:aE):Prop:=∃a p q,y=.ref a/\k=[p,q]/\fy K H a [.str p,.str q]
end
def R9:D->Option aE
 |.ea [.str p,.str q]=>Z [p,q]
 |_=>U
def DG:aW->Option (List aE)
 |[]=>Z []
 |d::a=>match R9 d,DG a with
  |some k,Z b=>Z (k::b)
  |_,_=>U
section
variable{X:Cx}{G:Bg}{H:Hp}
set_option tactic.hygienic true
def OU(r:ef G H d v)(e:R9 d=Z k):ZC G.K H v k:=by
 unfold R9 at e;split at e
 .rename_i p q;cases e;unfold ef at r;obtain⟨a,u,rfl,j,b⟩:=r;unfold b? at b;obtain⟨o,l,rfl,c,f⟩:=b;unfold b? at f;obtain⟨t,m,rfl,h,i⟩:=f;unfold b? at i;unfold ef at c h;subst i c h;exact⟨a,p,q,J,J,j⟩
 .cases e
end
set_option tactic.hygienic false
end L4
namespace L4
open PySem PySem.Spec PyProof.Rows L2 L3
structure Bz where
 P:aI
 w:ay
 mg:Str->Option ab
 b1:Heap
 G:Bg
structure ZE(X:Cx)(B:Bz)(e:Expr)(f:FE):Prop where p:PE X e (tF B.G f)
structure ZN(X:Cx)(B:Bz)(e:Expr)(f:FA):Prop where p:PE X e (G? B.G f)
structure ZT(X:Cx)(B:Bz)(e:Expr)(f:FT):Prop where p:PT X e (m5 B.G f)
structure ZW(X:Cx)(B:Bz)(e:Expr)(f:FT):Prop where p:PW X e (m5 B.G f)
structure ZF(X:Cx)(B:Bz)(e:List Expr)(f:FT):Prop where p:PIf X e (m5 B.G f)
structure ZA(X:Cx)(B:Bz)(e:List Expr)(f:FA):Prop where p:PA X e (vj B.G f)
structure ZS(X:Cx)(B:Bz)(e:Stmt)(f:FS):Prop where p:PS X e (l? B.G f)
structure ZB(X:Cx)(B:Bz)(e:List Stmt)(f:FS):Prop where p:oz X e (l? B.G f)
structure ZI(X:Cx)(B:Bz)(tg e:Expr)(f:FA):Prop where p:PI X tg e (Z8 B.G f)
structure ZO(X:Cx)(B:Bz)(e:Option Expr)(f:FO):Prop where p:PO X e (tFO B.G f)
structure ZG(X:Cx)(B:Bz)(e:Expr)(n:Nat)(f:FG):Prop where p:PG X e (tFG B.G n f)
structure ZH(X:Cx)(B:Bz)(e:List Expr)(n:Nat)(f:aW->aO->Option aO):Prop where p:N? X e (NZ B.G n f)
structure ZK(X:Cx)(e:Option Expr)(i:Option Int):Prop where p:PO X e (tO i)
structure ZP(X:Cx)(B:Bz)(pos:Pos)(ks:List (Option Expr))(vs:List Expr)(l:List (Str×FE)):Prop where p:PPs X pos ks vs (OP B.G l)
abbrev Gz(X:Cx)(x:Str):Prop:=X.b'.kindOf x=Z .globalImplicit
abbrev Dz(x:Str):Prop:=(x==("__debug__" : Str))=δ
abbrev Nz(x:Str):Prop:=(decide (x≠"__name__")&&!(x==("__debug__" : Str)))=γ
abbrev Sz(X:Cx)(e:Expr)(a:List Expr):Prop:=aw (e::a) X.b'=(δ,eval e X.b')::aw a X.b'
abbrev S1(X:Cx)(e:Expr):Prop:=aw [e] X.b'=[(δ,eval e X.b')]
abbrev Lz(X:Cx)(pos:Pos)(a:List Expr):Prop:=(bC pos (aw a X.b')).any (·.1)=δ
abbrev Wz(X:Cx)(e o:Expr)(pos:Pos):Prop:=cY e (Z o) pos.line X.b'=pure δ
abbrev Az(X:Cx)(o:Expr)(m:Str):Prop:=du o m X.b' (eval o X.b')=eval o X.b'
abbrev Ez(p pos:Pos):Prop:=(p.endLine==pos.line)=γ
abbrev Iz(e:Expr):Prop:=(λo i=>subscripted e δ o i)=λo i=>operate [o,i] (getItem o i)
abbrev Fz(X:Cx)(e:Expr):Prop:=(λx=>gm e X.b' x)=λx=>pure x
class Cz(X:Cx)(B:outParam Bz)(k:outParam Nat):Prop where
 P:X.prog=B.P
 w:X.w=B.w
 K:X.K=B.G.K
 mg:X.mg=B.mg
 b:X.b1=B.b1
 c:X.nr=γ
 r:tR k X.A
class Yb(B:Bz):Prop where y:Yw B.P B.w B.mg B.b1 B.G
class Df(B:Bz)(j:outParam Nat)(x:Str)(sp:Sp):Prop where p:∃ps,Dt B.P B.w B.G.K B.mg B.b1 j x ps sp
class Kf(B:Bz)(j:outParam Nat)(x:Str)(c:Nat)(g:aW->Option (aE×aW))(dds:aW):Prop where
 p:∃ps,HM B.G B.P B.w B.mg B.b1 j x c ps (dds.map vD) g
 f:dds.all uw=γ
class Mf(B:Bz)(j:outParam Nat)(m:Str)(g:Nat->Option (aW->Option D)):Prop where p:∀c h,g c=Z h->yL B.G B.P B.w B.mg B.b1 j m c h
class Ff(B:Bz)(ok:Nat->Bool)(f:Str):Prop where p:∀c,ok c=γ->Ms B.G.K (B.G.ca c)/\xT B.G.K (B.G.ca c) f
class Af(B:Bz)(c:Nat)(xs:outParam aE):Prop where p:CF B.G.K (B.G.ca c) xs
class Nb(B:Bz)(x:Str):Prop where p:B.mg x=U
class Co(B:Bz)(x:Str)(d:D):Prop where p:xA B.G B.mg x d
class Ic(B:Bz)(x:Str)(t:Ty->Option Bool):Prop where p:∃c,Fh B.G c t/\B.mg x=Z (.ref (B.G.ca c))
class Ij(B:Bz)(n:Nat):Prop where p:∀j k,j<n->k<n->B.G.ca j=B.G.ca k->j=k
class ψ(op:Operator)(g:D->D->Option D):Prop where p:∀(X:Cx) (G:Bg),∃r,g? X (cj op) r/\ke G r g
instance in1:ψ .Mod rM:=⟨λz z=>⟨_,Uj,U1⟩⟩
instance in2:ψ .FloorDiv sF:=⟨λz z=>⟨_,Qw,U2⟩⟩
instance in3:ψ .Mult vO:=⟨λz z=>⟨_,Ui,U0⟩⟩
instance in4:ψ .Sub E6:=⟨λz z=>⟨_,Uh,UZ⟩⟩
instance in5:ψ .Pow Oa:=⟨λz z=>⟨_,Uk,U3⟩⟩
instance in6:ψ .Add sC:=⟨λz z=>⟨_,Ug,UY⟩⟩
instance in7:ψ .Add AL:=⟨λz z=>⟨_,JR,Rv⟩⟩
instance in8:ψ .Mult Lj:=⟨λz z=>⟨_,J5,RZ⟩⟩
class E'(op:CmpOp)(g:D->D->Option D):Prop where p:∀(X:Cx) (G:Bg),X.K=G.K->X.A.units+64<cLine->∃r,g? X (bh op) r/\ke G r g
instance in9:E' .Eq (fh δ):=⟨λz z h u=>⟨_,U8 u h,Yq⟩⟩
instance in10:E' .NotEq (fh γ):=⟨λz z h u=>⟨_,U9 u h,Yr⟩⟩
instance in11:E' .In (A? δ):=⟨λz z h z=>⟨_,Va h,S9⟩⟩
instance in12:E' .NotIn (A? γ):=⟨λz z h z=>⟨_,ME h,S9⟩⟩
instance in13:E' .Is yK:=⟨λz z z z=>⟨_,Uo,U5⟩⟩
instance in14:E' .IsNot yk:=⟨λz z z z=>⟨_,Qx,Rx⟩⟩
instance in16:E' .Lt Ka:=⟨λz z z z=>⟨_,XT,Ym⟩⟩
instance in17:E' .LtE vY:=⟨λz z z z=>⟨_,XU,Yn⟩⟩
instance in18:E' .Gt MC:=⟨λz z z z=>⟨_,XW,Yo⟩⟩
instance in19:E' .GtE UX:=⟨λz z z z=>⟨_,XX,Yp⟩⟩
instance in20:E' .LtE Ob:=⟨λz z z z=>⟨_,Mu,U4⟩⟩
class B1(x:Str)(g:D->Option D):Prop where p:∀(X:Cx) (G:Bg),X.K=G.K->X.nr=γ->∃(id:String) (r:bD->Hp->VK->Prop),tG X (.builtin id) r/\Ds G r g/\c8 x=Z (.builtin id)
instance in21:B1 "len" ux:=⟨λz z h z=>⟨_,_,MG h,HK,nI⟩⟩
instance in22:B1 "all" vZ:=⟨λz z h c=>⟨_,_,MH c h,Vd,boot_all⟩⟩
instance in23:B1 "any" Fg:=⟨λz z h c=>⟨_,_,MM c h,Vh,boot_any⟩⟩
class KtC(x:Str)(T:outParam String):Prop where p:(∀(X:Cx) (G:Bg) y b,sG T y=Z b->cI X.K (y.val G) (.type T)=Z b)/\c8 x=Z (.type T)
instance in24:KtC "str" "str" := ⟨λz z=>RF,Pv.boot_str⟩
instance in25:KtC "int" "int" := ⟨λz z=>RX,ox⟩
instance in26:KtC "bool" "bool" := ⟨λz z=>OO,Pv.boot_bool⟩
instance in27:KtC "list" "list" := ⟨λz z=>Os,n8⟩
instance in28:KtC "tuple" "tuple" := ⟨λz z=>W',nV⟩
theorem Tf:∀{dds:aW},dds.all uw=γ->b? G H dds (dds.map vD)
 |[],_=>rW
 |d::a,h=>by rw[fK,aT]at h;exact sd (BO h.1 H) (Tf h.2)
def eqI{c:Sort u}{a b:c}(h:a=b):a=b:=h
def tz(X:Cx)(i:Nat)(x:Str):Bool:=decide (X.N[i]?=Z x)&&(match X.b'.scope.names.lookup x with|some .local=>γ|some .cell=>γ|some .free=>γ|_=>δ)&&!(x==("__debug__" : Str))&&!(x==("__classdict__" : Str))
def tp(X:Cx)(i:Nat)(x:Str):Bool:=decide X.N.Nodup&&decide (X.N[i]?=Z x)&&(match X.b'.scope.names.lookup x with|some .local=>γ|some .cell=>X.fn x|_=>δ)
section
variable{X:Cx}{B:Bz}{k j i n c0:Nat}{x m:Str}{e e' o tg it:Expr}{es:List Expr}{p p2 p3 pos apos:Pos}{f f' f2:FE}{a:FA}{g:D->D->Option D}
set_option tactic.hygienic true
def M'(h:tz X i x=γ):PE X (.Name x p) (zI i):=by
 unfold tz at h;simp only[aT,bR,eD]at h;obtain⟨⟨⟨c,b⟩,d⟩,l⟩:=h;refine pv i c ?_ d l;split at b
 .rename_i e;exact .inl e
 .rename_i e;exact .inr (.inl e)
 .rename_i e;exact .inr (.inr e)
 .cases b
set_option tactic.hygienic false
def YC(h:tz X i x=γ):ZE X B (.Name x p) (cV i):=⟨J7 (M' h)⟩
def Vv(h:tz X i x=γ):ZE X B (.Name x p) (vu i):=⟨Yl (M' h)⟩
def Sa(h:tz X i x=γ):ZN X B (.Name x p) (El i):=⟨Rq (M' h)⟩
set_option tactic.hygienic true
def HR(h:tp X i x=γ):X.N.Nodup/\X.N[i]?=Z x/\L2.Loc X.b'.scope x/\(X.fn x=γ\/X.b'.scope.names.lookup x=Z .local):=by
 unfold tp at h;simp only[aT,bR]at h;obtain⟨⟨c,d⟩,b⟩:=h;split at b
 .rename_i e;exact⟨c,d,.inl e,.inr e⟩
 .rename_i e;exact⟨c,d,.inr e,.inl b⟩
 .cases b
set_option tactic.hygienic false
def pgI(h:tp X i x=γ):PG X (.Name x p) (wQ i):=by obtain⟨b,c,d,l⟩:=HR h;exact KO b c d l
def Vw(h:tp X i x=γ)(b:Nat.blt i n=γ):ZG X B (.Name x p) n (gN i):=⟨N0 n (pgI h) (Nat.blt_eq.mp b)⟩
def stW(h:tp X i x=γ)(q:PE X e t)(r:Wz X e (.Name x p) pos):PS X (.Assign [.Name x p] e pos) (BB t (wQ i)):=by obtain⟨b,c,d,l⟩:=HR h;exact T9 b c d q r l
def Vx(h:tp X i x=γ)(b:ZE X B e f)(c:Wz X e (.Name x p) pos):ZS X B (.Assign [.Name x p] e pos) (rO i f):=⟨La (stW h b.p c)⟩
def Vy(h:tp X i x=γ)(b:ZN X B e a)(c:Wz X e (.Name x p) pos):ZS X B (.Assign [.Name x p] e pos) (sZ i a):=⟨IT (stW h b.p c)⟩
def Vz(h:tp X i x=γ)(b:Wz X (.Dict [] [] p2) (.Name x p) pos):ZS X B (.Assign [.Name x p] (.Dict [] [] p2) pos) (GO i):=⟨Ow (stW h II b)⟩
def VA [O:ψ l g](d:ZE X B e f)(h:ZE X B e' f'):ZE X B (.BinOp e l e' pos) (c2 g f f'):=by obtain⟨r,b,c⟩:=O.p X B.G;exact⟨Yd b c d.p h.p⟩
def VB [C:Cz X B k](b:ZE X B e f)(c:ZE X B e' f')(d:Iz e'):ZE X B (.Subscript e e' pos) (c2 ew f f'):=⟨Ye (Zy C.K) Ys b.p c.p λo i=>congrFun (congrFun d o) i⟩
def VC [C:Cz X B k](b:ZE X B e f)(c:ZE X B e' f')(d:Iz e'):ZE X B (.Subscript e e' pos) (c2 AM f f'):=⟨RJ (IJ C.r) b.p c.p λo i=>congrFun (congrFun d o) i⟩
section
variable{op op':CmpOp}{g':D->D->Option D}
def VE [O:E' op g][C:Cz X B k](d:ZE X B e f)(h:ZE X B e' f')(l:eJ op e'=δ):ZE X B (.Compare e [op] [e'] pos) (c2 g f f'):=by obtain⟨r,b,c⟩:=O.p X B.G C.K C.r.units;exact⟨UO b c d.p h.p l⟩
def VF [O:E' op g][C:Cz X B k](d:ZE X B e f)(h:ZE X B e' f')(l:eJ op e'=δ):ZT X B (.Compare e [op] [e'] pos) (cT (c2 g f f')):=by obtain⟨r,b,c⟩:=O.p X B.G C.K C.r.units;exact⟨QW b c d.p h.p l⟩
def VG [O:E' op g][b:E' op' g'][C:Cz X B k](q:ZE X B e f)(t:ZE X B e' f')(u:ZE X B o f2)(w:lastMarks [op,op'] [e',o]=δ):ZE X B (.Compare e [op,op'] [e',o] pos) (uG g g' f f' f2):=by obtain⟨r,c,d⟩:=O.p X B.G C.K C.r.units;obtain⟨y,h,l⟩:=b.p X B.G C.K C.r.units;exact⟨Ol c h d l q.p t.p u.p w⟩
def VH [O:E' op g][b:E' op' g'][C:Cz X B k](q:ZE X B e f)(t:ZE X B e' f')(u:ZE X B o f2)(w:lastMarks [op,op'] [e',o]=δ):ZT X B (.Compare e [op,op'] [e',o] pos) (cT (uG g g' f f' f2)):=by obtain⟨r,c,d⟩:=O.p X B.G C.K C.r.units;obtain⟨y,h,l⟩:=b.p X B.G C.K C.r.units;exact⟨MJ c h d l q.p t.p u.p w⟩
end
def VI(h:ZE X B e f)(b:(λwhole=>isTrue e X.b' whole)=λwhole=>(do let v<-whole;standAt e.pos;holding [v] (truthy v))):ZT X B e (cT f):=⟨QX h.p λw=>congrFun b w⟩
def VJ(d:ZT X B e b)(h:ZW X B (.BoolOp .Or (e'::es) pos) c):ZT X B (.BoolOp .Or (e::e'::es) pos) (vX b c):=⟨PW.pt (NU d.p h.p)⟩
def VL(d:ZT X B e b)(h:ZW X B (.BoolOp .And (e'::es) pos) c):ZT X B (.BoolOp .And (e::e'::es) pos) (vw b c):=⟨PW.pt (Q1 d.p h.p)⟩
def VM [C:Cz X B k][Q:Co B x d](b:Gz X x)(hd:Dz x):ZE X B (.Name x pos) (cC d):=⟨Oo (C.mg▸Q.p) b hd⟩
def VN [C:Cz X B k][Q:Ff B ok m](c:ZE X B e f)(b:Az X e m):ZE X B (.Attribute e m pos) (c1 (ra ok m) f):=⟨N3 c.p (C.K▸Q.p) b⟩
section
variable(hg:Gz X x)(hd:Dz x)(hs:Sz X e es)(hl:Lz X pos es)
include hg hd
theorem dz [C:Cz X B k][Q:Df B j x d]:∃c,Dt X.prog X.w X.K X.mg X.b1 j x c d:=by rw[C.P,C.w,C.K,C.mg,C.b];exact Q.p
theorem VO{g:aW->Option aW}[C:Cz X B k][Q:Df B j x (q0 B.G g)](b:cQ j k=γ):ZN X B (.Call (.Name x p) [] [] pos) (sQ g rK):=by obtain⟨c,q⟩:=dz hg hd (Q:=Q);exact⟨Om q (C.r.mono (d4.mp b)) hg hd⟩
include hs hl
theorem VP{g:aW->Option D}[C:Cz X B k][Q:Df B j x (e? B.G g)](b:ZA X B (e::es) a)(c:cQ j k=γ):ZE X B (.Call (.Name x p) (e::es) [] pos) (qY g a):=by obtain⟨d,q⟩:=dz hg hd (Q:=Q);exact⟨Vf q (C.r.mono (d4.mp c)) b.p hg hd hs hl⟩
theorem VQ{g:aW->Option aW}[C:Cz X B k][Q:Df B j x (q0 B.G g)](b:ZA X B (e::es) a)(c:cQ j k=γ):ZN X B (.Call (.Name x p) (e::es) [] pos) (sQ g a):=by obtain⟨d,q⟩:=dz hg hd (Q:=Q);exact⟨RD q (C.r.mono (d4.mp c)) b.p hg hd hs hl⟩
theorem VR{g:aW->Option (aE×aW)}{dds:aW}[C:Cz X B k][Q:Kf B j x c0 g dds](d:ZA X B (e::es) a)(h:cQ (j+1) k=γ):ZE X B (.Call (.Name x p) (e::es) [] pos) (rJ c0 (λc=>g (c++dds)) a):=by obtain⟨l,q⟩:=Q.p;exact⟨RE (by rw[C.P,C.w,C.mg,C.b];exact q) (λH=>Tf Q.f) (C.r.mono (d4.mp h)) d.p C.K hg hd hs hl⟩
end
def mz{g:Nat->Option (aW->Option D)}[C:Cz X B k][Q:Mf B j m g]:∀c h,g c=Z h->yL B.G X.prog X.w X.mg X.b1 j m c h:=by rw[C.P,C.w,C.mg,C.b];exact Q.p
def VS{g:Nat->Option (aW->Option D)}{pl:Sem Bool}[C:Cz X B k][Q:Mf B j m g](d:ZE X B o f)(c:cQ j k=γ)
  (h:eval (.Call (.Attribute o m apos) [] [] pos) X.b'=(do
   let b<-eval o X.b'
   standAt apos.atName
   let (f,first)<-holding [b] (getMethod b m pl)
   callWith pos f first (bC pos (aw [] X.b')) (backToKw pos (cW [] X.b')))):ZE X B (.Call (.Attribute o m apos) [] [] pos) (se g m f rK):=⟨Kc mz (C.r.mono (d4.mp c)) d.p C.K h⟩
def VT{g:Nat->Option (aW->Option D)}{pl:Sem Bool}[C:Cz X B k][Q:Mf B j m g](l:ZE X B o f)(c:ZA X B (e::es) a)(d:cQ j k=γ)(q:Sz X e es)(h:Lz X pos es)
  (t:eval (.Call (.Attribute o m apos) (e::es) [] pos) X.b'=(do
   let b<-eval o X.b'
   standAt apos.atName
   let (f,first)<-holding [b] (getMethod b m pl)
   callWith pos f first (bC pos (aw (e::es) X.b')) (backToKw pos (cW [] X.b')))):ZE X B (.Call (.Attribute o m apos) (e::es) [] pos) (se g m f a):=⟨MK mz (C.r.mono (d4.mp d)) l.p c.p C.K q h t⟩
section
variable(hg:Gz X x)(hd:Nz x)(hs:S1 X e)
include hg hd hs
theorem cbI{id:String}[C:Cz X B k][N:Nb B x](c:tG X (.builtin id) r)(d:c8 x=Z (.builtin id))(b:PA X [e] t):PE X (.Call (.Name x p) [e] [] pos) (tCB r t):=by simp only[aT,bR,eD]at hd;exact BE c hg (C.mg▸N.p) d b hd.1 hd.2 hs J
theorem ctI [C:Cz X B k][N:Nb B x](c:tG X (.type T) r)(d:c8 x=Z (.type T))(b:PA X [e] t):PE X (.Call (.Name x p) [e] [] pos) (tCB r t):=by simp only[aT,bR,eD]at hd;exact Mi c hg (C.mg▸N.p) d b hd.1 hd.2 hs J
theorem VU{g:D->Option D}[Q:B1 x g][C:Cz X B k][N:Nb B x](l:ZE X B e f):ZE X B (.Call (.Name x p) [e] [] pos) (c1 g f):=by obtain⟨id,r,b,d,h⟩:=Q.p X B.G C.K C.c;exact⟨Of d (cbI hg hd hs b h (uu l.p vG hs))⟩
end
section
variable(hs:S1 X e)
include hs
theorem VW [C:Cz X B k][N:Nb B "list"](c:Gz X "list")(b:ZE X B e f):ZN X B (.Call (.Name "list" p) [e] [] pos) (ue f):=⟨Oh (ctI c (by decide) hs (Kb C.K) n8 (uu b.p vG hs))⟩
theorem VX [C:Cz X B k][N:Nb B "tuple"](c:Gz X "tuple")(b:ZE X B e f):ZE X B (.Call (.Name "tuple" p) [e] [] pos) (Lg f):=⟨Oi (ctI c (by decide) hs (MI C.K) nV (uu b.p vG hs))⟩
theorem VY [C:Cz X B k][N:Nb B "range"](c:Gz X "range")(b:ZE X B e f):ZI X B tg (.Call (.Name "range" p) [e] [] pos) (D? f):=⟨J9 (L9 c (C.mg▸N.p) (uu b.p vG hs) hs)⟩
end
section
variable(hi:Gz X "isinstance")(hg:Gz X x)(hs:aw [e,.Name x p2] X.b'=[(δ,eval e X.b'),(δ,eval (.Name x p2) X.b')])(hs':S1 X (.Name x p2))
include hi hg hs hs'
theorem VZ [Q:KtC x T][C:Cz X B k][N:Nb B "isinstance"][c:Nb B x](d:ZE X B e f)(hd:Nz x):ZE X B (.Call (.Name "isinstance" p) [e,.Name x p2] [] pos) (c1 (r6 (sG T)) f):=by
 simp only[aT,bR,eD]at hd;refine⟨Lf (BE (GN (.b T) (Q.p.1 X B.G) Oq C.K) hi (C.mg▸N.p) jW (uh d.p (uh (Qo hg (C.mg▸c.p) Q.p.2 J hd.1 hd.2) wU ?_) ?_) (by decide) (by decide) ?_ ?_)⟩
 .exact hs'
 .rw[hs,hs']
 .rw[hs,hs']
 .rw[hs'];rfl
theorem V0 [Q:Ic B x t][C:Cz X B k][N:Nb B "isinstance"](b:ZE X B e f)(hd:Dz x):ZE X B (.Call (.Name "isinstance" p) [e,.Name x p2] [] pos) (c1 (r6 t) f):=by
 obtain⟨c,d,h⟩:=Q.p;refine⟨Lf (BE (Ki d C.K) hi (C.mg▸N.p) jW (uh b.p (uh (Ep hg (C.mg▸h) J hd) wU ?_) ?_) (by decide) (by decide) ?_ ?_)⟩
 .exact hs'
 .rw[hs,hs']
 .rw[hs,hs']
 .rw[hs'];rfl
end
section
variable(hb:Az X o m)(hl:Ez apos pos)(hs:S1 X e)
include hb hl hs
theorem bmI{id:String}[C:Cz X B k](h:i4 T)(slot:Slot T m id)(hty:typeOf (.builtin id)=pure (.type "method_descriptor"))(c:MtR X id r)(d:PE X o to)(b:PA X [e] t):PE X (.Call (.Attribute o m apos) [e] [] pos) (tBM B.G.K T r to t):=
 J6 B.G.K h slot hty c d b hb (by rw[hs];rfl) hl hs J C.K
end
section
variable(h:tz X i x=γ)(hb:Az X (.Name x p) m)(hl:Ez apos pos)(hs:S1 X e)
include h hb hl hs
theorem V1 [C:Cz X B k](c:m="append")(b:ZE X B e f):ZE X B (.Call (.Attribute (.Name x p) m apos) [e] [] pos) (uP i f):=by subst c;exact⟨MA (bmI hb hl hs fD jJ mE Cw (M' h) (uu b.p vG hs))⟩
theorem V2 [C:Cz X B k](c:m="extend")(b:ZE X B e f):ZE X B (.Call (.Attribute (.Name x p) m apos) [e] [] pos) (zQ i f):=by subst c;exact⟨Kk (bmI hb hl hs fD il mF (C.K▸Kj) (M' h) (uh b.p wU hs))⟩
end
def V3 [C:Cz X B k](h:ZE X B e f)(l:ZE X B e' f')(c:Az X e "get")(d:Ez apos pos)(b:S1 X e'):ZE X B (.Call (.Attribute e "get" apos) [e'] [] pos) (c2 zP f f'):=⟨Ov (IJ C.r) h.p l.p ⟨c,by rw[b];rfl,d,by rw[b];rfl⟩⟩
def V4 [C:Cz X B k][Q:Af B c0 l](d:l.contains m=γ)(h:tz X i x=γ)(c:ZE X B e f)(b:Wz X e (.Attribute (.Name x p) m apos) pos):ZS X B (.Assign [.Attribute (.Name x p) m apos] e pos) (rY c0 i m f):=⟨Ro (Uq (M' h) c.p b) (by obtain⟨i,_,e⟩:=jD (ju.1 d);exact C.K▸Q.p.at i (bZ.2 ⟨_,e⟩))⟩
def V5 [C:Cz X B k](h:tz X i x=γ)(b:ZE X B e' f')(d:ZE X B e f)(c:Wz X e (.Subscript (.Name x p) e' apos) pos):ZS X B (.Assign [.Subscript (.Name x p) e' apos] e pos) (v5 i f' f):=⟨Ox (QL (IJ C.r) (M' h) b.p d.p c)⟩
def V6 [Q:Ij B n](h:ZE X B e f):ZE X B e (AN n f):=⟨RU Q.p h.p⟩
section
variable{ks:List (Option Expr)}{kfs:List (Str×FE)}
def V7:ZP X B pos [] [] []:=⟨QM⟩
def V8(c:ZE X B e f)(b:ZP X B pos ks es kfs):ZP X B pos (Z (.Constant (.str y) j p)::ks) (e::es) ((y,f)::kfs):=⟨NL Ni c.p b.p⟩
def V9(h:ZP X B pos ks es kfs)(c:(ks.all (·.isSome)&&decide (ks.length=es.length)&&!ks.isEmpty&&decide (ks.length<=15)&&decide (kfs.map λq=>(Sum.inr q.1:eu)).Nodup&&decide (kfs.length<=15))=γ):ZE X B (.Dict ks es pos) (DE kfs):=by simp only[aT,bR,eD]at c;obtain⟨⟨⟨⟨⟨a1,d⟩,b⟩,l⟩,r⟩,a6⟩:=c;exact⟨RY (QN h.p a1 d (λz=>by rw[z]at b;cases b) l) r a6⟩
end
def Wa{lo:Option Expr}{fl:FO}[C:Cz X B k](c:ZE X B e f)(l:ZO X B lo fl)(d:ZO X B h b):ZN X B (.Subscript e (.Slice lo h U p) pos) (Gg f fl b):=⟨Kh (ID (Zz C.K) c.p l.p d.p)⟩
def Wb:ZK X (Z (.Constant (.int y) j pos)) (Z y):=⟨Oj⟩
def Wc:ZK X U U:=⟨Yt⟩
def Wd [C:Cz X B k](h:ZE X B e f):ZI X B tg e (iL f):=⟨IY (EX B.G.K h.p C.K)⟩
def We [C:Cz X B k](h:ZE X B e f):ZI X B tg e (iT f):=⟨Rt (QS B.G.K h.p C.K)⟩
def Wf(h:ZE X B e f):ZI X B tg e (iD f):=⟨OH (RR h.p)⟩
def Wg(h:ZE X B e f):ZI X B tg e (iS f):=⟨RK (UG h.p)⟩
section
variable{gg:FG}{gs:aW->aO->Option aO}
def Sb:ZH X B [] n zv:=⟨Q7 Qr⟩
def Sd(b:ZG X B e n gg)(c:ZH X B es n gs)(d:(cN (e::es) X.b').map (·.2)=assign e X.b'::(cN es X.b').map (·.2)):ZH X B (e::es) n (rP gg gs):=⟨N1 (Nk b.p c.p d)⟩
def Se [C:Cz X B k](h:ZH X B es n gs)(b:(cN es X.b').length=l)(d:(cN es X.b').findIdx? (·.1)=U):ZG X B (.Tuple es q pos) n (gT gs l):=⟨Q8 (QT B.G.K C.c h.p b d C.K)⟩
end
def tgN:Expr->aE
 |.Name x _=>[x]
 |.Tuple es _ _=>es.filterMap λe=>match e with|.Name x _=>Z x|_=>U
 |_=>[]
def cpN(X:Cx)(tg:Expr)(er:List Nat):aE:=tgN tg++er.map λj=>X.N.getD j ""
instance inCz [C:Cz X B k]{d:aE}{q:cz}{h:List (Str×Addr)}{A:Addr}{l:List Addr}{s:af}{H:Hp}:Cz (sX X d q h A l s H) B k:=⟨C.P,C.w,C.K,C.mg,C.b,C.c,C.r⟩
def Wh(X:Cx)(b:aE)(sc:cz)(n:Nat)(er:List Nat):Bool:=decide er.Nodup&&decide (sc.kind=.function)&&(sc.names.all λy=>y.2 != .cell)&&(sc.names.all λy=>y.2 != .local||sc.names.lookup y.1==Z .local)&&(sc.names.all λy=>y.2 != .free||(X.b'.kindOf y.1==Z .cell||X.b'.kindOf y.1==Z .free))&&decide (b.length=n+er.length)&&decide ((b.drop n).map Z=er.map λj=>X.N[j]?)&&((b.drop n).all λx=>sc.names.lookup x==Z .free)
section
variable{sc:cz}{er:List Nat}{ifs:List Expr}{gg:FG}{ft:FT}{s:FA}
 (h0:Wh X (cpN X tg er) sc n er=γ) (hs:Fz X it) (hi:ZI X B tg it s)
 (h1:∀(cl:List (Str×Addr)) (A:Addr) (fp:List Addr) (s:af) (H:Hp),ZG (sX X (cpN X tg er) sc cl A fp s H) B tg n gg)
 (h2:∀(cl:List (Str×Addr)) (A:Addr) (fp:List Addr) (s:af) (H:Hp),ZF (sX X (cpN X tg er) sc cl A fp s H) B ifs ft)
 (h3:∀(cl:List (Str×Addr)) (A:Addr) (fp:List Addr) (s:af) (H:Hp),ZE (sX X (cpN X tg er) sc cl A fp s H) B e f)
include h0 hs hi h1 h2 h3
theorem Wi [C:Cz X B k]:ZN X B (.ListComp e [⟨tg,it,ifs,0⟩] sc pos) (rh n er s gg ft f):=by unfold Wh at h0;simp only[aT,bR]at h0;obtain⟨⟨⟨⟨⟨⟨⟨a1,b⟩,d⟩,h⟩,l⟩,a6⟩,q⟩,r⟩:=h0;exact⟨N8 a1 (QR C.c hi.p (λcl A fp s H=>⟨(h1 cl A fp s H).p,(h2 cl A fp s H).p,(h3 cl A fp s H).p⟩) b d h l a6 q r λx=>congrFun hs x)⟩
theorem cpW [C:Cz X B k](h:tp X i x=γ)(E:cY (.ListComp e [⟨tg,it,ifs,0⟩] sc pos) (Z (.Name x p)) apos.line X.b'=pure γ):PS X (.Assign [.Name x p] (.ListComp e [⟨tg,it,ifs,0⟩] sc pos) apos) (BB (Dr (Z8 B.G s) (tFG B.G n gg) (m5 B.G ft) (tF B.G f) n er) (wQ i))/\er.Nodup:=by unfold Wh at h0;simp only[aT,bR]at h0;obtain⟨⟨⟨⟨⟨⟨⟨a1,b⟩,d⟩,l⟩,q⟩,a6⟩,r⟩,t⟩:=h0;obtain⟨u,w,y,z⟩:=HR h;exact⟨RG C.c u w y hi.p (λcl A fp s H=>⟨(h1 cl A fp s H).p,(h2 cl A fp s H).p,(h3 cl A fp s H).p⟩) b d l q a6 r t (λx=>congrFun hs x) E z,a1⟩
theorem Wj [C:Cz X B k](h:tp X i x=γ)(b:cY (.ListComp e [⟨tg,it,ifs,0⟩] sc pos) (Z (.Name x p)) apos.line X.b'=pure γ):ZS X B (.Assign [.Name x p] (.ListComp e [⟨tg,it,ifs,0⟩] sc pos) apos) (rO i (cL (rh n er s gg ft f))):=by have z:=cpW h0 hs hi h1 h2 h3 h b;exact⟨Ot z.2 z.1⟩
theorem Wk [C:Cz X B k](h:tp X i x=γ)(b:cY (.ListComp e [⟨tg,it,ifs,0⟩] sc pos) (Z (.Name x p)) apos.line X.b'=pure γ):ZS X B (.Assign [.Name x p] (.ListComp e [⟨tg,it,ifs,0⟩] sc pos) apos) (sZ i (rh n er s gg ft f)):=by have z:=cpW h0 hs hi h1 h2 h3 h b;exact⟨ML z.2 z.1⟩
end
section
variable{st:Stmt}{sts:List Stmt}{fs fs':FS}{ft:FT}{a':FA}{z1:Nat}
def YD(b:ZE X B e f)(c:ZA X B es a)(d:Sz X e es):ZA X B (e::es) (ax f a):=⟨uu b.p c.p d⟩
def YE:ZA X B [] rK:=⟨vG⟩
def Wl(h:ZN X B e a):ZE X B e (cL a):=⟨UU h.p⟩
def YF:ZE X B (.Constant (.str y) j pos) (cC (.str y)):=⟨UM⟩
def YG:ZE X B (.Constant (.int y) j pos) (cC (.int y)):=⟨UK⟩
def YH:ZE X B (.Constant (.bool y) j pos) (cC (.I y)):=⟨Yc⟩
def YI:ZE X B (.Constant .none j pos) (cC .E):=⟨UN⟩
def Jp(b:ZS X B st fs)(c:ZB X B sts fs'):ZB X B (st::sts) (bt fs fs'):=⟨NW b.p c.p⟩
def YJ(b:ZS X B st fs):ZB X B [st] fs:=⟨Q5 b.p⟩
def YK:ZB X B [] rG:=⟨Q4⟩
def Wm(h:ZE X B e f):ZS X B (.Return (Z e) pos) (rj f):=⟨Q6 h.p⟩
def Wn(h:ZN X B e a):ZS X B (.Return (Z e) pos) (sq a):=⟨NX h.p⟩
def Wo(h:ZE X B e f)(b:cY e U pos.line X.b'=pure δ):ZS X B (.Expr e pos) (rq f):=⟨NY h.p b⟩
def Wp(h:ZT X B e ft)(b:ZB X B sts fs)(c:ZB X B sts' fs'):ZS X B (.If e sts sts' pos) (fu ft fs fs'):=⟨UW h.p b.p c.p⟩
def Wq(h:ZA X B es a):ZN X B (.List es pos) (rB a):=⟨Q2 h.p⟩
def Wr(h:ZA X B es a):ZE X B (.Tuple es z1 pos) (rN a):=⟨UT h.p⟩
def Wt(b:ZE X B e f)(c:ZE X B e' f'):ZN X B (.BinOp e .Add e' pos) (tS f f'):=⟨RA b.p c.p⟩
def Wu [C:Cz X B k](b:ZE X B e f)(c:ZE X B e' f'):ZE X B (.BinOp e .Add e' pos) (wX f f'):=⟨RM b.p c.p C.K⟩
def Wv(b:ZE X B e f)(c:ZE X B (.BoolOp .And (e'::es) pos) f'):ZE X B (.BoolOp .And (e::e'::es) pos) (sT f f'):=⟨UR b.p c.p⟩
def Ww(b:ZE X B e f)(c:ZE X B (.BoolOp .Or (e'::es) pos) f'):ZE X B (.BoolOp .Or (e::e'::es) pos) (M? f f'):=⟨Yg b.p c.p⟩
def Wx{c}(b:ZE X B e f):ZE X B (.BoolOp c [e] pos) f:=⟨UQ b.p⟩
def WA(b:ZE X B e f):ZE X B (.UnaryOp .Not e pos) (EY f):=⟨US b.p⟩
def WB(b:ZT X B e ft):ZT X B (.UnaryOp .Not e pos) (tT ft):=⟨QY b.p⟩
def WC(h:ZT X B o ft)(b:ZE X B e f)(c:ZE X B e' f'):ZE X B (.IfExp o e e' pos) (C' ft f f'):=⟨Yh h.p b.p c.p⟩
def YL(h:ZT X B e ft):ZF X B [e] ft:=⟨QQ h.p⟩
def YM:ZF X B [] sf:=⟨N9⟩
def WE(h:ZE X B e f):ZE X B e (HL f):=⟨Ve h.p⟩
def WG(h:ZT X B e ft):ZT X B e (Fb ft):=⟨RB h.p⟩
def WH(h:ZE X B e f):ZO X B (Z e) (T1 f):=⟨Vj h.p⟩
def WI:ZO X B U oNo:=⟨Vi⟩
def WJ(c:ZT X B e ft)(d:ZW X B (.BoolOp .Or (e'::es) pos) b):ZW X B (.BoolOp .Or (e::e'::es) pos) (vX ft b):=⟨NU c.p d.p⟩
def WK(h:ZT X B e ft):ZW X B (.BoolOp .Or [e] pos) ft:=⟨QZ h.p⟩
def WL(h:ZT X B e ft):ZW X B (.BoolOp .And [e] pos) ft:=⟨NT h.p⟩
end
def WM [C:Cz X B k](r:kE (model X.prog X.w) X.A X.b' X.xe)(u:X.N.length=n)(q:ZI X B tg it s)(l:ZG X B tg n d)(h:ZB X B body b)(t:Fz X it):ZS X B (.For tg it body [] pos) (uH s d b):=⟨Ru (JO r C.c q.p l.p h.p λx=>congrFun t x)⟩
end
end L4
namespace L4
open PySem PySem.Spec PyProof.Rows L2 L3
open PySem.W (fnOf)
def H?(st:Stmt):aE:=(rF st).names.filterMap λy=>match y.2 with|.local=>Z y.1|.cell=>Z y.1|_=>U
def Z?(st:Stmt):aE:=(uZ st).args.map (·.arg)
def okO(N a:aE)(st:Stmt)(b n:Nat):Bool:=decide ((rF st).kind=.function)&&(rF st).isCoroutine==δ&&(rF st).isGenerator==δ&&decide N.Nodup&&decide (N.take a.length=a)&&(a.all λx=>match (rF st).names.lookup x with|some .local=>γ|some .cell=>γ|_=>δ)&&((rF st).names.all λy=>y.2 != .free)&&decide (a.length=b)&&decide (N.length=n)
set_option tactic.hygienic true
def v3{st:Stmt}(h:okO N ps st np n=γ):uB N ps (rF st)/\ps.length=np/\N.length=n:=by
 unfold okO at h;simp only[aT,bR,beq_iff_eq]at h;obtain⟨⟨⟨⟨⟨⟨⟨⟨a,b⟩,c⟩,d⟩,f⟩,i⟩,j⟩,l⟩,m⟩:=h;refine⟨⟨a,b,c,d,f,λx o=>?_,λy p e=>?_⟩,l,m⟩
 .have z:=aC.1 i x o;split at z
  .rename_i e;exact .inl e
  .rename_i e;exact .inr e
  .cases z
 .have z:=aC.1 j y p;rw[e]at z;exact ar z (by decide)
section
variable{B:Bz}[Y:Yb B]{x m qual:Str}{st s0:Stmt}{l:List Stmt}{k c np n:Nat}{b:FS}{p:Str}{ps xs:aE}{N:aE}
set_option tactic.hygienic false
abbrev Z7(B:Bz)(N:aE)(qual:Str)(st:Stmt)(l:List Stmt)(k:Nat)(b:FS):Prop:=∀{f:Addr} {cdv:ab} {A:aM} {d?:List Env} {s:af} {H:Hp} {E:XK} [Cz (Fc B.P B.w B.G.K B.mg B.b1 N qual st f cdv A d? s H E) B k],ZB (Fc B.P B.w B.G.K B.mg B.b1 N qual st f cdv A d? s H E) B l b
omit Y in
def Z7.ok(h:Z7 B N qual st l k b)(a:rZ st=l):Bdy B.P B.w B.G.K B.mg B.b1 N qual st k (l? B.G b):=λf cdv A d? s H E d=>by subst a;exact(@h f cdv A d? s H E ⟨J,J,J,J,J,J,d⟩).p
def fm(d:g=e0 np n b)(q:GD B.G.K x st)(e:rZ st=s0::l)(body:Z7 B (H? st) x st (s0::l) k b)(S:okO (H? st) (Z? st) st np n=γ:=by kernel_rfl)(a:μ x x st (Z? st):=by (repeat intro _);rfl):Df B (k+1) x (e? B.G g):=
 ⟨_,gF d Y.y q (v3 S).1 (body.ok e) (v3 S).2.1 (v3 S).2.2 a⟩
def gF5(N:aE)(d:g=e0 np n b)(q:GD B.G.K x st)(e:rZ st=s0::l)(body:Z7 B N x st (s0::l) k b)(S:okO N (Z? st) st np n=γ:=by kernel_rfl)(a:μ x x st (Z? st):=by (repeat intro _);rfl):Df B (k+1) x (e? B.G g):=
 ⟨_,gF d Y.y q (v3 S).1 (body.ok e) (v3 S).2.1 (v3 S).2.2 a⟩
def S'(d:g=pk np n b)(q:GD B.G.K x st)(e:rZ st=s0::l)(body:Z7 B (H? st) x st (s0::l) k b)(S:okO (H? st) (Z? st) st np n=γ:=by kernel_rfl)(a:μ x x st (Z? st):=by (repeat intro _);rfl):Df B (k+1) x (q0 B.G g):=
 ⟨_,gN' d Y.y q (v3 S).1 (body.ok e) (v3 S).2.1 (v3 S).2.2 a⟩
theorem p?(C:CF B.G.K (B.G.ca c) xs)(h:g=e0 np n b)(q:GM B.G.K (B.G.ca c) m qual st)(j:rZ st=s0::l)(body:Z7 B (H? st) qual st (s0::l) k b)(S:okO (H? st) (Z? st) st np n=γ:=by kernel_rfl)(d:μ m qual st (Z? st):=by (repeat intro _);rfl):yL B.G B.P B.w B.mg B.b1 (k+1) m c g:=by obtain⟨f,e,a,i,F⟩:=q;exact⟨f,e,_,C.ci.cl,⟨a,i,F.kp⟩,d.ok F,On h (v3 S).2.1 (v3 S).2.2 F (v3 S).1 (body.ok j f)⟩
def π(C:CF B.G.K (B.G.ca c) xs)(a:gO B.G.K aQ x=Z (Z (.ref (B.G.ca c))))(e:g=tH c np n b)(q:GM B.G.K (B.G.ca c) "__init__" qual st)(f:rZ st=s0::l)(h:Z? st=p::ps)(body:Z7 B (H? st) qual st (s0::l) k b)(S:okO (H? st) (p::ps) st (np+1) n=γ:=by kernel_rfl)(d:μ "__init__" qual st (p::ps):=by (repeat intro _);rfl):Kf B (k+1) x c g []:=
 ⟨⟨_,gI e Y.y C a q (v3 S).1 (body.ok f) (ko (v3 S).2.1) (v3 S).2.2 d⟩,J⟩
def gJ4{dds:aW}(C:CF B.G.K (B.G.ca c) xs)(a:gO B.G.K aQ x=Z (Z (.ref (B.G.ca c))))(t:g=tH c np n b)(q:GJ B.G.K (B.G.ca c) qual st (dds.map vD))(u:rZ st=s0::l)(w:Z? st=p::ps)(body:Z7 B (H? st) qual st (s0::l) k b)(j:Nat)(S:okO (H? st) (p::ps) st (np+1) n=γ:=by kernel_rfl)(e:dds.all uw=γ:=by rfl)
  (o:Kr (dds.map vD).length λdl=>Kr ((p::ps).length - ((dds.map vD).drop j).length) λf=>∀(T:Addr) (kV doc pm:ab) (i:Option Addr) (cdv r:ab),∃k,bindArgs (fnOf "__init__" qual (uZ st) (rZ st) (rF st) (.ref T) kV doc pm i cdv r) ⟨f,[]⟩=seqItems? (.ref T)>>=k/\k (Z dl.toArray)=pure ((p::ps).zip (f++dl.drop j)):=by (repeat intro _);exact⟨_,J,J⟩):Kf B (k+1) x c g (dds.drop j):=
 ⟨⟨_,by rw[iQ];exact gJ t Y.y C a q (v3 S).1 (body.ok u) j (ko (v3 S).2.1) (v3 S).2.2 o⟩,by
  rw[aC]at e ⊢;exact λd h=>e d (l7 h)⟩
def zS(n:Nat)(ca:Nat->Addr):∀k,k<n->((av n).map ca).getD k 0=ca k:=λk h=>by rw[cp,bp,jB h];rfl
def ZD{n:Nat}{ca:Nat->Addr}(h:decide ((av n).map ca).Nodup=γ):∀j k,j<n->k<n->ca j=ca k->j=k:=λj k a d e=>by rw[<-zS n ca j a,<- zS n ca k d]at e;exact Vu (bK h) (by simpa using a) (by simpa using d) e
def yV:Nat->(Nat->Prop)->Prop
 |0,_=>True
 |n+1,Q=>Q 0/\yV n λk=>Q (k+1)
theorem yV.at:∀{n:Nat} {Q:Nat->Prop},yV n Q->∀k,k<n->Q k
 |_+1,_,h,0,_=>h.1
 |_+1,_,h,k+1,a=>yV.at h.2 k (Nat.lt_of_succ_lt_succ a)
end
section
variable{X:Cx}{B:Bz}{k j i n:Nat}{x y:Str}{e e' tg:Expr}{es:List Expr}{p p2 p3 pos apos:Pos}{f f':FE}{a:FA}{st:Stmt}{sts:List Stmt}{fs fs':FS}{ft:FT}
def WN [C:Cz X B k](m:ZE X B e f)(o:ZE X B e' f')(q:ZE X B b d)(h:Az X e "get")(l:Ez apos pos)(c:aw [e',b] X.b'=[(δ,eval e' X.b'),(δ,eval b X.b')]):ZE X B (.Call (.Attribute e "get" apos) [e',b] [] pos) (Dw f f' d):=⟨Oy (IJ C.r) m.p o.p q.p ⟨h,by rw[c];rfl,l,by rw[c];rfl⟩⟩
def WO(o:X.N.length=n)(d:ZE X B e f)(h:ZG X B tg n b)(l:swapsWithSole [tg] e pos.line X.b'=pure δ)(m:swappedStores [tg] e X.b'=pure U)(c:(cN [tg] X.b').map (·.2)=[assign tg X.b']):ZS X B (.Assign [tg] e pos) (EZ f b):=⟨Q9 (T8 d.p h.p l m c)⟩
def WQ [C:Cz X B k][N:Nb B "int"](d:Gz X "int")(b:S1 X e)(c:ZE X B e f):ZE X B (.Call (.Name "int" p) [e] [] pos) (c1 Ry f):=⟨Of Vc (ctI d (by decide) b Mb ox (uu c.p vG b))⟩
end
end L4
namespace L4
open PySem PySem.Spec PyProof.Rows L2 L3
def OV(f:FE)(lo c:Option Int):FE:=λd=>match f d with
 |some (.ea a,b)=>if HT.f? a.length 0 lo=0/\HT.f? a.length a.length c=a.length then U else Z (.ea (n3 a lo c),b)
 |_=>U
section
variable{X:Cx}{G:Bg}
set_option tactic.hygienic true
def MW{lo:Option Int}(h:PE X e (tSl (Ut G.K) (tF G f) (tO lo) (tO t))):PE X e (tF G (OV f lo t)):=PE.ee h λC H Q q=>by
 obtain⟨F,w,j,A,x,R,e,k⟩:=q;unfold OV at e;split at e
 .rename_i B y m;split at e
  .cases e
  .rename_i i;cases e;refine⟨F,w,j,_,_,R,m,λv z l s b r=>?_⟩;unfold ef at r;obtain⟨a,u,rfl,o,d⟩:=r;rw[q9 d]at i;exact⟨a,u,J,fy.mono b.sub o,i,λp c=>k _ _ _ (s.t (rp (b.ff c) _)) (b.Bx c _) (As (fy.of rb) (b?.mono (rp (b.ff c) _) _ _ (Jd d)))⟩
 .cases e
set_option tactic.hygienic false
def ZJ(hK:X.K=G.K:=by rfl):SlR X (Ut G.K):=by rw[<-hK];exact Uu
end
section
variable{X:Cx}{B:Bz}{k:Nat}{e:Expr}{f:FE}{p pos:Pos}
def WR{lo:Option Expr}[C:Cz X B k](a:ZE X B e f)(d:ZK X lo l)(b:ZK X c h):ZE X B (.Subscript e (.Slice lo c U p) pos) (OV f l h):=⟨MW (ID (ZJ C.K) a.p d.p b.p)⟩
end
theorem OW{f:Type}[DecidableEq f]:∀{l L:List f},l.Nodup->(∀x∈l,x∈L)->l.length<=L.length
 |[],L,_,_=>cb _
 |a::l,L,i,h=>by have c:=h a bc;have b:=eG.1 i;have:=OW b.2 λx d=>(List.mem_erase_of_ne (λe:x=a=>b.1 (by rw[<-e];exact d))).2 (h x (aY _ d));rw[List.length_erase_of_mem c]at this;have:=lG c;rw[aF];omega
structure Tb(t:cO)(m n:Nat):Prop where
 mask:t.mask=m
 dm:t.dummies=#[]
 pl:t.place.size=n
section
variable{t:cO}{m n:Nat}
theorem Tb.slot(T:Tb t m n)(j:Nat):(∃i,t.slot j=.live i/\t.place[i]?=Z j)\/t.slot j=.empty:=by
 unfold SetTable.slot;by_cases h:(t.place[nM t.place j]?==Z j)=γ
 .left;simp only[h,if_true];exact⟨_,J,eL h⟩
 .right;rw[mY]at h;rw[T.dm];simp[h,n9]
def Tb.free(T:Tb t m n)(h:n<=m):∃r,r<=m/\t.slot r=.empty:=by
 apply lb;intro no;have:(av (m+1)).length<=t.place.toList.length:=OW mZ λr a=>by
  rcases T.slot r with ⟨i,_,e⟩|e
  .rw[<-jt]at e;exact bU e
  .exact ar ⟨r,by have:=bz.1 a;omega,e⟩ no
 rw[bL,cK,T.pl]at this;omega
def qi(t:cO):Nat->dY->Prop
 |0,_=>False
 |f+1,p=>t.slot p.j=.empty\/qi t f (t.advance p)
theorem qi.mono:∀{f a:Nat} {p:dY},qi t f p->f<=a->qi t a p
 |0,_,_,h,_=>h.elim
 |f+1,0,_,_,h=>ar h (by omega)
 |f+1,a+1,p,h,b=>h.imp id λh=>h.mono (by omega)
def rs(m i q:Nat):dY:=⟨i,dX m i - i,i,q,U⟩
def WS(m i:Nat):dX m i - i<=9:=by unfold dX;split<;>omega
theorem qi.run(T:Tb t m n)(h:qi t f (rs m ((i * 5+1+q / 32) % (m+1)) (q / 32))):∀(k j:Nat),qi t (f+k+1) ⟨j,k,i,q,U⟩
 |0,j=>.inr (by
   have e:t.advance ⟨j,0,i,q,U⟩=rs m ((i * 5+1+q / 32) % (m+1)) (q / 32):=by unfold jQ SetTable.leap;rw[T.mask];rfl
   rw[e];exact h)
 |k+1,j=>.inr (by
   have e:t.advance ⟨j,k+1,i,q,U⟩=⟨j+1,k,i,q,U⟩:=by unfold jQ;rw[aj (kq k)];rfl
   rw[e];exact qi.run T h k (j+1))
def qi.leap(T:Tb t m n)(h:qi t f (rs m ((i * 5+1+q / 32) % (m+1)) (q / 32))):qi t (f+10) (rs m i q):=
 (qi.run T h (dX m i - i) i).mono (by have:=WS m i;omega)
def orb(m:Nat):Nat->Nat->List Nat
 |0,_=>[]
 |k+1,i=>i::orb m k ((i * 5+1) % (m+1))
theorem qi.orb(T:Tb t m n)(a:t.slot r=.empty):∀(k i:Nat),r∈orb m k i->qi t (10 * k) (rs m i 0)
 |0,i,h=>by cases h
 |k+1,i,h=>by
  rcases aN.1 h with e|h
  .exact qi.mono (f:=1) (.inl (by rw[e]at a;exact a)) (by omega)
  .have:=qi.leap T (q:=0) (qi.orb T a k _ h);exact this.mono (by omega)
def Ls(a:m=7\/m=31)(b:i<=m)(c:r<=m):r∈orb m (m+1) i:=by
 have h:∀m∈[7,31],((av (m+1)).all λi=>(av (m+1)).all λr=>(orb m (m+1) i).contains r)=γ:=by decide +kernel
 have:=aC.1 (aC.1 (h m (by rcases a with rfl|rfl<;>simp)) i (bz.2 (by omega))) r (bz.2 (by omega));exact ju.1 this
theorem qi.all(T:Tb t m n)(c:m=7\/m=31)(d:n<=m):∀(k i q:Nat),i<=m->q<32 ^ k->qi t (10 * (k+(m+1))) (rs m i q)
 |0,i,q,b,a=>by
  obtain⟨r,f,e⟩:=T.free d;have h:=by simpa using a
  rw[h,gA];exact qi.orb T e _ _ (Ls c b f)
 |k+1,i,q,b,a=>by have:=qi.leap T (qi.all T c d k ((i * 5+1+q / 32) % (m+1)) (q / 32) (mQ (aD _ (kq m))) (by rw[iV]at a;omega));exact this.mono (by omega)
def qi.start(T:Tb t m n)(b:m=7\/m=31)(c:n<=m)(h:Int):qi t (10 * (m+14)) (t.probeStart h):=by
 have a:cG h<32 ^ 13:=by unfold cG;omega
 have:=qi.all T b c 13 (cG h % (m+1)) (cG h) (mQ (aD _ (kq m))) a;have e:t.probeStart h=rs m (cG h % (m+1)) (cG h):=by unfold SetTable.probeStart;rw[T.mask];rfl
 rw[e];exact this.mono (by omega)
def OX{p:dY}(h:p.dummy=U):(t.advance p).dummy=U:=by unfold jQ;split<;>exact h
theorem OY(T:Tb t m n)(F:Nat->Int)(h:Int):∀(f:Nat) (p:dY),p.dummy=U->qi t f p->∀g,f<=g->(∃j,t.slot j=.empty/\gr t F h g p=Z (.empty j U))\/
  ∃j i next c,c<f/\t.slot j=.live i/\t.place[i]?=Z j/\F i=h/\gr t F h g p=Z (.candidate j i next)/\next.dummy=U/\qi t c next
 |0,p,_,a,g,_=>a.elim
 |f+1,p,hd,a,0,o=>ar o (by omega)
 |f+1,p,hd,a,g+1,o=>by
  unfold gr;rcases T.slot p.j with ⟨i,b,q⟩|b
  .have a:=a.resolve_left λe=>by rw[b]at e;cases e
   rw[b];dsimp only;by_cases d:F i=h
   .right;exact⟨p.j,i,t.advance p,f,fE f,b,q,d,by rw[aj (by rw[d];simp)],OX hd,a⟩
   .rw[ak (by simpa using d)];rcases OY T F h f (t.advance p) (OX hd) a g (by omega)with l|⟨j,w,x,c,l,r,u⟩
    .exact .inl l
    .exact .inr ⟨j,w,x,c,by omega,r,u⟩
  .left;rw[b];exact⟨p.j,b,by rw[hd]⟩
end
def WT(e:∀i,F i=F' i)(g:Nat)(p:dY):gr t F h g p=gr t F' h g p:=by obtain rfl:F=F':=funext e;rfl
section
variable{prog:aI}{w:ay}{A:aM}{E:ab->af->Prop}{s:af}
def OZ(b:∀v∈l,∃k a,v=.ref a/\TK prog w s.heap k a)(f:TK prog w s.heap j i)(h:Q δ s):ah (model prog w) A (searchCouldBeSeen (.ref i) l) Q E s:=by
 refine aq ?_;refine jP _ (λe8 r d=>r=(U,())/\d=s/\∀v∈e8,∃k a,v=.ref a/\TK prog w s.heap k a) _ ?_ ?_ _ _ ⟨J,J,b⟩
 .rintro v e8 r d ⟨rfl,rfl,hall⟩;obtain⟨k,a1,rfl,b⟩:=hall v bc;have e:=λu c=>hall u (aY _ c);dsimp only;split
  .exact aA ⟨J,J,e⟩
  .refine aq (lO f ?_);refine aq (lO b ?_);refine aq (Ln f ?_);refine aq (Ln b ?_);exact aA ⟨J,J,e⟩
 .rintro r d ⟨rfl,rfl,_⟩;exact aA h
structure Els(prog:aI)(w:ay)(h:Heap)(L:List (List eu×Addr))(es:Array (Int×ab)):Prop where
 tk:∀q∈L,TK prog w h q.1 q.2
 p:(es.toList.map cm).Perm (L.map λq=>Value.ref q.2)
variable{L:List (List eu×Addr)}{es:Array (Int×ab)}{t:cO}{m n ep:Nat}{S a2:Addr}{k2:List eu}{o:Obj}{h:Int}
theorem Jq(G:A.units<cLine)(T:Tb t m n)(F:m=7\/m=31)(c:t.fits es.size=γ)(l:Els prog w s.heap L es)(B:TK prog w s.heap k2 a2)(H:k2∉L.map cc)
  (z:s.heap.get? S=Z o) (hd:o.data=.set es ep t) (hQ:∀j,t.slot j=.empty->Q (.free j δ) s):∀(fuel f:Nat) (st:Option dY),f<fuel->f<=10 * fI m->(st.getD (t.probeStart h)).dummy=U->qi t f (st.getD (t.probeStart h))->
   ah (model prog w) A (setSearchFrom S (.ref a2) h γ fuel st) Q E s
 |0,f,st,C,_,_,_=>ar C (by omega)
 |fuel+1,f,st,C,Y,hdm,b=>by
  have sz:=by unfold iR at c;rw[aT,beq_iff_eq,T.pl]at c;exact c.1.symm
  refine aq (gu z hd c ?_);dsimp only;rw[ak (by unfold SetTable.gaveWay;rw[T.mask];rcases F with rfl|rfl<;>decide)];unfold SetTable.probe;rw[WT (F':=λi=>(es[i]?.map (·.1)).getD 0),T.mask]
  rotate_left
  .intro i;rfl
  rcases OY T (λi=>(es[i]?.map (·.1)).getD 0) h f _ hdm b (10 * fI m) Y with ⟨j,I,u⟩|⟨j,i,nx,M,h1,O,P,h4,R,W,X⟩
  .rw[u];exact aA (hQ j I)
  .rw[R];dsimp only;have hi:i<es.size:=by rw[sz,<- T.pl];exact(la.1 P).1
   obtain⟨⟨N,y⟩,d⟩:∃e,es[i]?=Z e:=⟨es[i],jr hi⟩;have my:y∈es.toList.map cm:=az.2 ⟨(N,y),by rw[<-jt]at d;exact bU d,J⟩;obtain⟨q,r,rfl⟩:=az.1 (l.p.mem_iff.1 my);have t1:=l.tk q r;have nk:=λe=>H (az.2 ⟨q,r,e⟩);have si:t.sameMemory t.moves m=Z γ:=by unfold SetTable.sameMemory;simp
   have e8:=Jq G T F c l B H z hd hQ fuel M (Z nx) (by omega) (by omega) W X;have sb:∀v∈cP (λx:Int×ab=>x.snd) (Array.filter (λx=>x.fst==h) es).toList,∃k a,v=Value.ref a/\TK prog w s.heap k a:=λv hv=>by
    obtain⟨e,b,rfl⟩:=az.1 hv;have b:=by rw[Array.toList_filter]at b;exact(bg.1 b).1
    obtain⟨q,r,u⟩:=az.1 (l.p.mem_iff.1 (az.2 ⟨e,b,J⟩));exact⟨q.1,q.2,u.symm,l.tk q r⟩
   cases hb:t.led;refine aq (OZ sb B ?_)
   all_goals
    rw[d];refine aq (dZ (wpAny_eqBool_tuple G t1 B ?_));refine aq (gu z hd c ?_);rw[bx nk];rw[ak (by decide),si];dsimp only;rw[aj J,O];dsimp only;rw[d];refine aq (wpAny_isSame_ref_self ?_);refine aq (aA ?_);exact e8
end
def Nn(a:Array (Option Nat))(j:Nat):Prop:=(a.getD j (Z 0)).isNone=γ
section
variable{ow:Array (Option Nat)}
def WU(i:Nat):0<dX 31 i+1 - i:=by unfold dX;split<;>omega
def GR:(∃j,Nn ow j/\dq 31 ow (f+1) i q=Z j)\/(¬Nn ow i/\dq 31 ow (f+1) i q=dq 31 ow f ((i * 5+1+q / 32) % 32) (q / 32)):=by
 have a:dq 31 ow (f+1) i q=match (av (dX 31 i+1 - i)).find? λk=>(ow.getD (i+k) (Z 0)).isNone with
  |some k=>Z (i+k)
  |none=>dq 31 ow f ((i * 5+1+q / 32) % 32) (q / 32):=rfl
 rw[a];cases e:(av (dX 31 i+1 - i)).find? λk=>(ow.getD (i+k) (Z 0)).isNone with
 |some k=>exact .inl ⟨i+k,List.find?_some (p:=λk=>(ow.getD (i+k) (Z 0)).isNone) e,J⟩
 |none=>refine .inr ⟨λh=>?_,J⟩;have:=List.find?_eq_none.1 e 0 (bz.2 (WU i));exact this h
theorem Jr(c:Nn ow r):∀(k f i:Nat),k<=f->r∈orb 31 k i->∃j,Nn ow j/\dq 31 ow f i 0=Z j
 |0,f,i,_,h=>by cases h
 |k+1,0,i,b,_=>ar b (by omega)
 |k+1,f+1,i,b,h=>by
  rcases GR with a|⟨a,d⟩
  .exact a
  .rcases aN.1 h with e|h
   .exact ar (e▸c) a
   .rw[d];exact Jr c k f _ (by omega) h
theorem Js(e:Nn ow r)(a:r<=31):∀(k f i q:Nat),k+32<=f->i<=31->q<32 ^ k->∃j,Nn ow j/\dq 31 ow f i q=Z j
 |0,f,i,q,b,d,c=>by
  have m:=by simpa using c
  rw[m];exact Jr e 32 f i (by omega) (Ls (.inr J) d a)
 |k+1,0,i,q,b,_,_=>ar b (by omega)
 |k+1,f+1,i,q,b,d,c=>by
  rcases GR with h|⟨_,l⟩
  .exact h
  .rw[l];exact Js e a k f _ _ (by omega) (by omega) (by rw[iV]at c;omega)
def lv(ow:Array (Option Nat)):List (Nat×Nat):=(av 32).filterMap λj=>(ow.getD j U).map (j,·)
def YN(b:ow.size=32)(h:Nn ow j):j<32/\ow.getD j U=U:=by
 unfold Nn at h;by_cases a:j<ow.size
 .refine⟨by omega,?_⟩;rw[fw,jr a]at h ⊢;simpa using h
 .rw[fw,Array.getElem?_eq_none (by omega)]at h;cases h
def WV(q:ow.size=32)(h:Nn ow j):(lv (ow.setIfInBounds j (Z k))).Perm ((j,k)::lv ow):=by
 obtain⟨p,e⟩:=YN q h;have get:∀i,(ow.setIfInBounds j (Z k)).getD i U=if i=j then Z k else ow.getD i U:=λi=>by
  rw[fw,fw,Array.getElem?_setIfInBounds];by_cases c:j=i
  .subst c;rw[aj J,aj (by omega),aj J];rfl
  .rw[ak c,ak (λe=>c e.symm)]
 obtain⟨a,b,o⟩:=List.append_of_mem (bz.2 p);have d:(av 32).Nodup:=mZ;rw[o,cq,eG]at d;unfold lv;rw[o,lQ,lQ,dH,dH,get j,aj J,e];have f:∀l:List Nat,j∉l->l.filterMap (λi=>((ow.setIfInBounds j (Z k)).getD i U).map (i,·))=l.filterMap λi=>(ow.getD i U).map (i,·):=λl m=>by
  induction l with
  |nil=>rfl
  |cons i l r=>rw[dH,dH,r λz=>m (aY _ z),get i,ak λe=>m (by rw[<-e];exact bc)]
 rw[f a λz=>d.2.2 j z j bc J,f b d.2.1.1];exact List.perm_middle
theorem O0:∀(b:List Int) (ow:Array (Option Nat)) (k:Nat),ow.size=32->((lv ow).map cm).Perm (av k)->k+b.length<=31->∃a,a.size=32/\((lv a).map cm).Perm (av (k+b.length))/\
  (b.foldl (λacc h=>do
   let (owner,k)<-acc;let j<-dq 31 owner (fI 31) (cG h % (31+1)) (cG h)
   pure (owner.setIfInBounds j (Z k),k+1)) (Z (ow,k)))=Z (a,k+b.length)
 |[],ow,k,c,d,_=>⟨ow,c,d,J⟩
 |h::b,ow,k,c,d,o=>by
  rw[aF]at o ⊢;have fr:∃r,r<=31/\Nn ow r:=by
   apply lb;intro no;have len:(lv ow).length=32:=by
    have:∀l:List Nat,(∀j∈l,j<=31)->(l.filterMap λj=>(ow.getD j U).map (j,·)).length=l.length:=λl i=>by
     induction l with
     |nil=>rfl
     |cons j l w=>
      have f:=i j bc;have q:=λe=>no ⟨j,f,e⟩;cases e:ow.getD j U with
      |none=>refine ar ?_ q;unfold Nn;rw[fw,jr (by omega)]at e ⊢;simpa using e
      |some x=>rw[dH,e];show (List.filterMap _ l).length+1=l.length+1;rw[w λz u=>i z (aY _ u)]
    exact(this (av 32) λj f=>by have:=bz.1 f;omega).t bL
   have:=d.length_eq;rw[ae,bL,len]at this;omega
  obtain⟨r,t,A⟩:=fr;have p:cG h<32 ^ 13:=by unfold cG;omega
  obtain⟨j,y,m⟩:=Js A t 13 (fI 31) (cG h % (31+1)) (cG h) (by decide) (by omega) p;obtain⟨a,B,C,E⟩:=O0 b (ow.setIfInBounds j (Z k)) (k+1) (by rw[Array.size_setIfInBounds];exact c) (by
   refine((WV c y).map cm).t ?_;rw[aR,iK];exact((List.Perm.cons k d).t (jo k _).symm)) (by omega)
  refine⟨a,B,by rw[show k+(b.length+1)=k+1+b.length by omega];exact C,?_⟩;rw[iJ,show k+(b.length+1)=k+1+b.length by omega,<- E];congr 1;show (dq 31 ow (fI 31) (cG h % (31+1)) (cG h)).bind _=_;rw[m];rfl
def Sf(a:Array Int)(i:a.size<=31):∃t order,nW 31 f l led pl a=Z (t,order)/\Tb t 31 a.size/\t.led=led/\t.plain=pl/\order.toList.Perm (av a.size):=by
 obtain⟨ow,h,b,c⟩:=O0 a.toList (nu 32 U) 0 (by simp) (by
  have:lv (nu 32 U)=[]:=by unfold lv;rw[List.filterMap_eq_nil_iff];intro j d;rw[fw,Array.getElem?_replicate,aj (bz.1 d)];rfl
  rw[this];exact .nil) (by rw[cK];omega)
 rw[gA,cK]at b c;have e:mR 31 a=Z ow:=by unfold mR;rw[<-Array.foldl_toList];exact bG (Option.map cc) c
 refine⟨_,_,by unfold nW;rw[e];rfl,⟨J,J,?_⟩,J,J,?_⟩
 .have:=b.length_eq;rw[ae,bL]at this;show (cP _ (lv ow)).toArray.size=_;rw[aZ,ae,this]
 .exact b
end
def Cz2(m n:Nat):Prop:=(m=7/\n<=4)\/(m=31/\n<=18)\/(m=127/\19<=n/\n<=63)
section
variable{prog:aI}{w:ay}{A:aM}{E:ab->af->Prop}{s:af}
theorem O1(d:TK prog w s.heap (Sum.inr x::p) a)(h:Q δ s):ah (model prog w) A (hashByValue 8 (.ref a)) Q E s:=by
 have hT:=d.typeIs;obtain⟨o,items,n,i,_,hd,c⟩:=d;refine aq (iH hT F.slot_tuple_hash.lookup ?_);refine aq (nF i hd ?_);refine aq ?_;show ah _ _ (forIn items _ _) _ _ s;rw[<-mC];generalize items.toList=l at c ⊢;cases c with
 |@cons _ v _ j f m=>
  obtain⟨t,rfl⟩:∃t,v=.str x t:=Lp f;refine jP _ (λe8 r b=>b=s/\∃u,e8=.str x t::u) _ ?_ ?_ _ _ ⟨J,j,J⟩
  .rintro v e8 r b ⟨rfl,u,e⟩;cases e;refine aq (aA ?_);exact aA (aA h)
  .rintro r b ⟨rfl,u,e⟩;cases e
variable{L:List (List eu×Addr)}{es:Array (Int×ab)}{t:cO}{m n ep:Nat}{S a2:Addr}{k2:List eu}{o:Obj}{h:Int}
def O2(p:t.mask=7)(a:s.heap.get? S=Z o)(hd:o.data=.set es ep t)(l:t.fits es.size=γ)(j:es.size=5)
  (hQ:∀h' es' t',fM S s.heap h'->h'.get? S=Z { o with data:=.set es' (ep+1) t' }->Tb t' 31 5->t'.led=t.led->t'.plain=t.plain->es'.toList.Perm es.toList->Q () { s with heap:=h' }):ah (model prog w) A (setRelay S (jZ 5)) Q E s:=by
 refine aq (gu a hd l ?_);dsimp only;rw[ak (by rw[cw];decide)];obtain⟨t',order,d,T,e,f,b⟩:=Sf (es.map (·.1)) (by rw[nN];omega)
 rw[nN]at T b;have c:(order.filterMap (es[·]?)).toList.Perm es.toList:=by rw[Array.toList_filterMap];exact(b.filterMap _).t (by rw[filterMap_getElem?_range])
 have i:t.relaid (es.map (·.1)) (jZ 5)=Z (t',order):=d
 rw[i];have sz:=by have:=c.length_eq;rw[cK,cK]at this;exact this
 refine aq ?_;wp_delta;rw[ak (by rw[sz];simp)];refine aA ?_;refine mS a hd ?_ (by show (order.filterMap (es[·]?)).size<=aB;rw[sz,cw];omega)
 exact hQ _ _ _ (jE ..) (OE a hd) (by rw[j]at T;exact T) e f c
set_option tactic.hygienic true
def add_n(O:A.units<cLine)(T:Tb t m n)(b:Cz2 m n)(Y:n<=8)(c:t.fits es.size=γ)(l:Els prog w s.heap L es)(B:TK prog w s.heap (Sum.inr x::k2) a2)(ne:(Sum.inr x::k2)∉L.map cc)
  (d:s.heap.get? S=Z o) (hd:o.data=.set es ep t)
  (hQ:∀h' es' t' p z,fM S s.heap h'->h'.get? S=Z { o with data:=.set es' p t' }->Tb t' z (n+1)->Cz2 z (n+1)->t'.led=t.led->t'.plain=δ->(es'.toList.map cm).Perm (.ref a2::es.toList.map cm)->Q γ { s with heap:=h' }):
  ah (model prog w) A (setAddHashed S (.ref a2) h) Q E s:=by
 have b:(m=7/\n<=4)\/(m=31/\n<=9):=by unfold Cz2 at b;omega
 have hm:=b.imp And.left And.left;have sz:=by unfold iR at c;rw[aT,beq_iff_eq,T.pl]at c;exact c.1.symm
 refine dZ (aq (gu d hd c ?_));dsimp only;rw[ak (by simp[byScan,Value.scannable])];have nm:n<=m:=by rcases b with ⟨rfl,h⟩|⟨rfl,h⟩<;>omega
 refine aq (Jq O T hm c l B ne d hd (λj hj=>?_) 100000 (10 * (m+14)) U (by rcases hm with rfl|rfl<;>decide) (by unfold fI;omega) J (qi.start T hm nm h));refine aq (gu d hd c ?_);have P:=T.mask;have R:(t.put j).1.dummies=#[]:=by show (if n9 t.dummies j then _ else t.dummies)=_;rw[T.dm];rfl
 have W:=by have:=(lI t.place (nM t.place j) j).length_eq;rw[cK,cK,Array.size_push,T.pl]at this;exact this
 have q:(iz es (t.put j).2 (h,Value.ref a2)).toList.Perm ((h,.ref a2)::es.toList):=by refine(lI es _ _).t ?_;rw[Array.toList_push];exact jo _ _
 have r:=by have:=q.length_eq;rw[cK,aF,cK,sz]at this;exact this
 let f:={ (t.put j).1 with plain:=δ };have a:Tb f m (n+1):=⟨P,R,W⟩;have N:f.fits (iz es (t.put j).2 (h,Value.ref a2)).size=γ:=by unfold iR j7;rw[r,a.pl,a.dm,a.mask,aT];exact⟨by simp,bN (by rcases b with ⟨rfl,h⟩|⟨rfl,h⟩<;>simp<;>omega)⟩
 have fin:∀i:cO,i=f->ah (model prog w) A (do
   storeSet S (iz es (t.put j).2 (h,.ref a2)) i
   if (!δ&&i.tooFull)=γ then do setRelay S (jZ (es.size+1));pure γ else pure γ) Q E s:=λi e=>by
  subst e;refine aq (mS d hd ?_ (by rw[r,cw];omega));have g1:=OE (es':=iz es (t.put j).2 (h,Value.ref a2)) (t':=f) d hd;have X:f.tooFull=decide ((n+1) * 5 >= m * 3):=by unfold SetTable.tooFull j7;rw[a.pl,a.dm,a.mask];rfl
  rw[X];by_cases u:(n+1) * 5 >= m * 3
  .rw[bN u,aj (by decide)];obtain⟨rfl,rfl⟩:m=7/\n=4:=by rcases b with ⟨rfl,h⟩|⟨rfl,h⟩<;>omega
   rw[sz];refine aq (O2 a.mask g1 J N r λh' es' t' C F G H I M=>?_);refine aA (hQ h' es' t' _ 31 ((jE ..).t C) F G (.inr (.inl ⟨J,by decide⟩)) H I ?_);exact(M.map _).t (q.map _)
  .rw[bx u,ak (by decide)];refine aA (hQ _ _ _ _ m (jE ..) g1 a ?_ J J (q.map _));rcases b with ⟨rfl,h⟩|⟨rfl,h⟩
   .exact .inl ⟨J,by omega⟩
   .exact .inr (.inl ⟨J,by omega⟩)
 split
 .refine aq (O1 B ?_);exact fin _ J
 .rename_i y;refine aq (aA (fin _ ?_));rw[mY]at y;rw[aj J];show (t.put j).1={ (t.put j).1 with plain:=δ };rw[<-y]
end
set_option tactic.hygienic false
structure HS(h:Heap)(S:Addr)(L:List (List eu×Addr))(led:Bool)(n:Nat)(o:Obj)(es:Array (Int×ab))(ep:Nat)(t:cO):Prop where
 xo:h.get? S=Z o
 ex:o.ExactSet
 d:o.data=.set es ep t
 c:∃m,Tb t m n/\Cz2 m n
 led:t.led=led
 pl:0<n->t.plain=δ
 p:(es.toList.map cm).Perm (L.map λq=>Value.ref q.2)
def HS.sz{h:Heap}{S:Addr}{L:List (List eu×Addr)}{led:Bool}{n:Nat}{o:Obj}{a:Array (Int×ab)}{b:Nat}{t:cO}(x:HS h S L led n o a b t):a.size=L.length:=by have:=x.p.length_eq;rw[ae,ae,cK]at this;exact this
theorem HS.fits{h:Heap}{S:Addr}{L:List (List eu×Addr)}{led:Bool}{n:Nat}{o:Obj}{a:Array (Int×ab)}{b:Nat}{t:cO}(x:HS h S L led n o a b t)(d:L.length=n):t.fits a.size=γ:=by obtain⟨m,T,c⟩:=x.c;unfold iR j7;rw[x.sz,d,T.pl,T.dm,T.mask,aT];exact⟨by simp,bN (by unfold Cz2 at c;simp;omega)⟩
section
variable{prog:aI}{w:ay}{A:aM}{R:eU->af->Prop}{I:Addr}{fp wr:List Addr}{GG:Array eQ->Array eQ->Prop}{n:Nat}{PP:Nat->ab->Prop}{SS:Nat->af->Prop}
def MX(W:WalksS prog w A.in1 I fp wr GG n PP SS){S:Addr}{led:Bool}(hSf:S∉fp)(X:A.in1.units<cLine)(L:List (List eu×Addr))(hn:L.length=n)(h8:n<=8)(nd:(L.map cc).Nodup)(hk:∀q∈L,∃x k,q.1=Sum.inr x::k)(far:∀q∈L,q.2∉S::wr)
  (hval:∀i v,PP i v->∃q,L[i]?=Z q/\v=.ref q.2):∀(k i:Nat) (s:af) (o:Obj) (es:Array (Int×ab)) (ep:Nat) (t:cO),n - i=k->i<=n->SS i s->(∀q∈L,TK prog w s.heap q.1 q.2)->HS s.heap S (L.take i) led i o es ep t->
   (∀f o es ep t,Moved (S::wr) GG s f->HS f.heap S L led n o es ep t->R (.ok (.ret .none)) f)->
   cn (model prog w) A (.builtin "set.update.loop" ⟨[.ref S,.ref I],[]⟩) R s:=by
 have hSw:=λz=>hSf ((W).sub _ z);have M:∀b∈wr,b∈S::wr:=λb z=>aY _ z;intro k
 induction k with
 |zero=>
  intro i s o es ep t F hi hst tk x hR;obtain rfl:i=n:=by omega
  refine fH ic ?_;rw[gh fz _];refine aq (W.done s _ _ hst λf hm=>?_);rw[ie (by omega)]at x;exact aA (hR f o es ep t (hm.mono M) { x with xo:=hm.heap S _ hSw x.xo })
 |succ k ih=>
  intro i s o es ep t F hi hst tk x hR;have hlt:i<n:=by omega
  refine fH ic ?_;rw[gh fz _];refine aq (W.item i s _ _ hlt hst λv f hP hst' hm=>?_);obtain⟨q,N,rfl⟩:=hval i v hP;have G:=bU N;have a:=λq Q=>(tk q Q).i0 λo=>hm.heap q.2 o λz=>far q Q (M _ z);refine aq (dZ ?_);unfold setAdd;refine dZ ?_;refine aq (wpAny_pyHash_tuple X (a q G) ?_);obtain⟨m,T,c⟩:=x.c;obtain⟨z,kk,O⟩:=hk q G;have tq:TK prog w f.heap (Sum.inr z::kk) q.2:=by rw[<-O];exact a q G
  have split:L.take (i+1)=L.take i++[q]:=by rw[fC,N];rfl
  have ne:=λw'=>by have P:((L.take (i+1)).map cc).Nodup:=nd.sublist ((iu _ _).map _);rw[split,aJ,cq]at P;exact P.2.2 _ w' _ (bV.2 O.symm) J
  have sub:∀r∈L.take i,r∈L:=λr hr=>(iu _ _).subset hr;have u:={ x with xo:=hm.heap S _ hSw x.xo };refine add_n X T c (by omega) (u.fits (by rw[b9];omega)) ⟨λr hr=>a r (sub r hr),u.p⟩ tq ne u.xo u.d λh' j Y h m' B b2 b3 b4 b5 b6 b7=>?_;have y:HS h' S (L.take (i+1)) led (i+1) { o with data:=.set j h Y } j h Y:=by refine⟨b2,x.ex,J,⟨m',b3,b4⟩,b5.t x.led,λ_=>b6,b7.t ?_⟩;rw[split,aJ];exact(List.Perm.cons _ x.p).t (jo _ _).symm
  refine aA ⟨j6 fz _,ih (i+1) _ _ _ _ _ (by omega) hlt (W.frame _ f h' _ hst' (m7 _ _) λb z o e=>?_) (λr hr=>(a r hr).i0 λo e=>?_) y λH o2 E C t2 l x2=>?_⟩
  .rw[B.2 b (λy:b=S=>hSf (by rw[<-y];exact z))];exact e
  .rw[B.2 r.2 (λy:r.2=S=>far r hr (by rw[y];exact bc))];exact e
  .refine hR H o2 E C t2 (ou W.gtrans ((hm.mono M).then_heap (m7 _ _) λb o z e=>?_) l) x2;rw[B.2 b (λy:b=S=>z (by rw[y];exact bc))];exact e
end
end L4
namespace L4
open PySem PySem.Spec PySem.Calls PyProof.Rows PySem.W L2 L3
section
variable{prog:aI}{w:ay}{A:aM}{E:ab->af->Prop}{s:af}
abbrev TkS(k:aE):List eu:=k.map Sum.inr
end
section
variable{X:Cx}{G:Bg}{H:Hp}{pins:cE}{σ:St}{s:af}
def ZL{A:aM}{L:List (aE×Addr)}(I:eb X pins σ H s)(hh:A.handled=U)(hu:A.units+8<cLine)(d:fx X.K H a (L.map λq=>V.ref q.2))(h8:L.length<=8)(nd:(L.map cc).Nodup)
  (P:∀q∈L,∃p r,q.1=[p,r]/\fy X.K H q.2 [.str p,.str r])
  (h:∀c k2 o es ep t,HS c s.heap.objs.size (L.map λq=>(TkS q.1,q.2)) (!X.w.params.followText "set-order") L.length o es ep t->(∀b o,b<s.heap.objs.size->s.heap.get? b=Z o->c.get? b=Z o)->Q (.ref s.heap.objs.size) { s with heap:=c,toks:=k2 }):
  ah (model X.prog X.w) A (call (.type "set") [.ref a]) Q E s:=by
 have h3:A.in1.in1.in1.handled=U:=by simp[hh]
 obtain⟨f,r,pp,_⟩:=I.list d;obtain⟨o,l,C,n,hd⟩:=pp.isList;have hne:=bu (eC (aV l));have tk:∀q∈L,TK X.prog X.w s.heap (TkS q.1) q.2:=λq d=>by obtain⟨p,r,e,h1⟩:=P q d;rw[e];exact Yz I h1
 have M:=by have:=r.length;rw[ae]at this;exact this
 have ev:∀(i:Nat) (v:ab),f[i]?=Z v->∃q,L[i]?=Z q/\v=.ref q.2:=λi v e=>by
  have hi:i<L.length:=by rw[M];exact(bZ.1 e).1
  obtain⟨u,j,ru⟩:=r.get (by rw[bp,bb hi];rfl);rw[e]at j;cases j;exact⟨L[i],bb hi,ru⟩
 have notin:s.heap.objs.size∉[s.heap.objs.size+1,a]:=by
  intro z;rcases aN.1 z with z|z
  .exact ar z (bu (fE _))
  .exact ar (bV.1 z) (ka (aV l))
 let PS:=λc=>∃o es ep t,HS c s.heap.objs.size (L.map λq=>(TkS q.1,q.2)) (!X.w.params.followText "set-order") L.length o es ep t;refine Fi (PS:=PS) l C nH l6 (by decide)
  (λA Q E s1 e k=>gk ⟨o,e,C,n,hd⟩ k) (λtk' R hR=>?_) λc k2 ⟨o,es,ep,t,x⟩ kk=>h c k2 o es ep t x kk
 have F:∀{b:Addr} {S:Obj},s.heap.get? b=Z S->((s.heap.push (yP (!X.w.params.followText "set-order"))).push { cls:=.type "list_iterator", data:=.fields #[.ref a,.int 0 0] }).get? b=Z S:=λe=>aX _ (aX _ e);have it:((s.heap.push (yP (!X.w.params.followText "set-order"))).push { cls:=.type "list_iterator", data:=.fields #[.ref a,.int 0 0] }).get? (s.heap.objs.size+1)=Z { cls:=.type "list_iterator", data:=.fields #[.ref a,.int 0 0] }:=by rw[show s.heap.objs.size+1=(s.heap.push (yP (!X.w.params.followText "set-order"))).objs.size from(eI _ _).symm];exact bH _ J
 refine MX (led:=!X.w.params.followText "set-order") (i6 h3 _ a hne f.toArray).toS notin (by show A.units+1+1+1<cLine;omega) (L.map λq=>(TkS q.1,q.2)) (by rw[ae,aZ,M]) (by rw[aZ];omega) ?_ ?_ ?_ ?_ (f.toArray.size - 0) 0 _ (yP (!X.w.params.followText "set-order")) #[] 0 (.fresh 0 0 (!X.w.params.followText "set-order")) J (cb _) ⟨⟨_,it,J,J⟩,⟨o,F l,C,n,hd⟩⟩ ?_ ?_ λs2 o2 B m t2 mv N=>?_
 .rw[aP,show (cc∘λq:aE×Addr=>(TkS q.1,q.2))=λq=>TkS q.1 from J];have:(L.map λq=>TkS q.1)=(L.map cc).map TkS:=by rw[aP];rfl
  rw[this];exact qS _ (λx y hxy e=>hxy ((List.map_inj_right λ_ _ h=>kr h).1 e)) nd
 .intro q d;obtain⟨r,hr,rfl⟩:=az.1 d;obtain⟨p,z,e,_⟩:=P r hr;exact⟨p,[.inr z],by show TkS r.1=_;rw[e];rfl⟩
 .intro q d z;obtain⟨r,hr,rfl⟩:=az.1 d;obtain⟨ob,_,_,e,_⟩:=tk r hr;have:=aV e;rcases aN.1 z with z|z
  .exact ar z (bu this)
  .exact ar (bV.1 z) (bu (eC this))
 .intro i v e;rw[lN]at e;obtain⟨q,T,j⟩:=ev i v e;exact⟨(TkS q.1,q.2),by rw[bp,T];rfl,j⟩
 .intro q d;obtain⟨r,hr,rfl⟩:=az.1 d;exact(tk r hr).i0 λo=>F
 .exact⟨aX _ (bH _ J),⟨J,J,J⟩,J,⟨7,⟨J,J,J⟩,.inl ⟨J,by decide⟩⟩,J,λz=>ar z (by decide),.nil⟩
 .obtain⟨c,g2,d2,k2,o2'⟩:=s2;have Y:=mv.gens;have W:=mv.drawn;have eo:=mv.os;subst Y W eo;have el:f.toArray.size=L.length:=by rw[aZ,M]
  rw[el]at N;refine hR c k2 ⟨o2,B,m,t2,N⟩ λb o O e=>mv.heap b o (λz=>?_) (F e);rcases aN.1 z with z|z
  .exact ar z (bu O)
  .exact ar (bV.1 z) (bu (eC O))
end
section
variable{X:Cx}{G:Bg}{H:Hp}{pins:cE}{σ:St}{s:af}
theorem Lu:∀{b:aW} {f:List aE} {h:bD},b? G H b h->DG b=Z f->∃L:List (aE×Addr),h=L.map (λq=>V.ref q.2)/\f=L.map cc/\∀q∈L,∃p r,q.1=[p,r]/\fy G.K H q.2 [.str p,.str r]
 |[],f,h,r,e=>by cases e;unfold b? at r;subst r;exact⟨[],J,J,λq o=>by cases o⟩
 |d::b,f,h,r,e=>by
  unfold DG at e;cases c:R9 d with
  |none=>rw[c]at e;cases e
  |some k=>
   cases i:DG b with
   |none=>rw[c,i]at e;cases e
   |some t=>
    rw[c,i]at e;cases e;unfold b? at r;obtain⟨v,x,rfl,u,w⟩:=r;obtain⟨L,rfl,rfl,m⟩:=Lu w i;obtain⟨a,p,q,rfl,rfl,l⟩:=OU u c;refine⟨([p,q],a)::L,J,J,λz j=>?_⟩;rcases aN.1 j with rfl|j
    .exact⟨p,q,J,l⟩
    .exact m z j
end
noncomputable abbrev cS(s:Str):FE:=cC (.str s)
noncomputable abbrev a1(e:FE):FA:=ax e rK
section
variable{X:Cx}{G:Bg}{H:Hp}{pins:cE}{σ:St}{s:af}
def YO(K:ao)(H:Hp)(a:Addr)(n:Nat):Prop:=Vm K H a n\/
 ∃L:List (aE×Addr),fx K H a (L.map λq=>V.ref q.2)/\L.length<=8/\(L.map cc).Nodup/\(∀q∈L,∃p r,q.1=[p,r]/\fy K H q.2 [.str p,.str r])/\n=L.length
def YQ:Vn X YO:=by
 intro pins σ H s A E Q a n I c e b h;rcases b with b|⟨L,j,m,u,p,rfl⟩
 .exact YA I c e b h
 .refine ZL I c e j m u p λl q o i f t x r=>h l q ⟨o,i,f,t,x.xo,x.ex,x.d,?_,x.fits (ae _),x.sz.t (ae _)⟩ r;rw[x.sz,ae];unfold scanBound;omega
def Bi(a:aW):Option D:=match DG a with
 |some b=>if b.Nodup/\a.length<=8 then Z (.int a.length)else U
 |none=>U
set_option tactic.hygienic true
def MY(hK:X.K=G.K):∀{c d f b a j},Bi c=Z d->fx X.K b a j->b? G f c j->ro f b->∃n:Nat,YO X.K b a n/\d=.int n:=λ{c d f b a j} e i l s=>by
 unfold Bi at e;cases h:DG c with
 |none=>simp only[h]at e;cases e
 |some w=>
  simp only[h]at e;split at e
  .rename_i u;cases e;obtain⟨L,rfl,rfl,t⟩:=Lu l h;have o:=q9 l;rw[ae]at o;refine⟨_,.inr ⟨L,i,by omega,u.1,λq i=>?_,o⟩,J⟩;obtain⟨p,r,e,m⟩:=t q i;rw[<-hK]at m;exact⟨p,r,e,fy.mono s m⟩
  .cases e
end
set_option tactic.hygienic false
section
variable{X:Cx}{B:Bz}{k:Nat}{e:Expr}{f:FE}{p p2 p3 pos:Pos}
def WW [C:Cz X B k][N:Nb B "len"][b:Nb B "set"](i:S1 X e)(h:Gz X "len")(a:Gz X "set")(d:ZE X B e f)(z:aw [Expr.Call (.Name "set" p2) [e] [] p3] X.b'=[(δ,eval (.Call (.Name "set" p2) [e] [] p3) X.b')]):ZE X B (.Call (.Name "len" p) [.Call (.Name "set" p2) [e] [] p3] [] pos) (c1 (BQ Bi) f):=⟨Kn C.K .inl (MY C.K) (MO YQ C.r.units C.c h (C.mg▸N.p) a (C.mg▸b.p) d.p z i)⟩
end
section
variable{X:Cx}{G:Bg}{C:Addr}{x:Str}{p pos:Pos}{e:Expr}{c:Nat}
structure Mk0(K:ao)(C:Addr):Prop where
 U':makesIn K C=γ
 init:findIn K (.ref C) "__init__" = Z (Z (.builtin "object.__init__"))
 kp:keepIn K (.ref C)=γ
def MZ(M:Mk0 X.K C)(l:Gl X x)(m:X.mg x=Z (.ref C))(d:(x==("__debug__" : Str))=δ):PE X (.Call (.Name x p) [] [] pos) (λt H Q=>∀y a,H y=U->H a=U->a≠y->Q (.ref y) (e3 (e3 H a (.gi y)) y (.ll C a []))):=by
 intro f s t H Q I h;refine dM (BA I l m ?_ d);refine j4 I.nq M.kp ?_;have q:=h (s.heap.objs.size+1) s.heap.objs.size (I.fc.fresh (iW _)) (I.fc.fresh (aK _)) (bu (fE _));have i:=eb.made (C:=C) I;have Y:=kD (M:=model X.prog X.w) I.nq M.U';refine iZ (Md I.nq M.U' M.init (λself=>Looks.of_pure (oi_bind self)) ?_);have j:((s.heap.push emptyDict).push (instObj C s.heap.objs.size)).get? (s.heap.objs.size+1)=Z (instObj C s.heap.objs.size):=by rw[<-eI s.heap emptyDict];exact bH _ J
 have r:Looks (model X.prog X.w) ((s.heap.push emptyDict).push (instObj C s.heap.objs.size)) (isInstance (.ref (s.heap.objs.size+1)) (.type "object")) γ:=
  ((Looks.ld j).andThen .now:Looks (model X.prog X.w) _ (typeOf (.ref (s.heap.objs.size+1))) (.ref C)).andThen (Y.top.keeps λb o e=>aX _ (aX _ e))
 refine lZ oi_plain entry_oi (check_slot oi_kind oi_split r (oi_args _) ?_);rw[oi_run];exact aA (And.intro rfl ⟨V.ref (s.heap.objs.size+1),_,i,rfl,q⟩)
def WX(c:Nat):FE:=λa=>Z (.obj c [] [],a)
def M0(h:PE X e (λB H Q=>∀y a,H y=U->H a=U->a≠y->Q (.ref y) (e3 (e3 H a (.gi y)) y (.ll (G.ca c) a [])))):PE X e (tF G (WX c)):=PE.ee h λB H Q u=>by
 obtain⟨F,I,E,d,A,R,e,k⟩:=u;cases e;intro x a f hdx w;have j:(e3 H a (.gi x)) x=U:=by rw[rg (λz=>w z.symm)];exact f
 have m:ro H (e3 (e3 H a (.gi x)) x (.ll (G.ca c) a [])):=(rp hdx _).t (rp j _);have R2:=R.f5 m (λs s e=>e) (R.sub.t m) (λb o e=>.inl e);have l:=R.ff f;have q:=R2.rz rb l (R.jj f) (λi t r to z=>R.apart f i t r to z);refine k _ _ _ (rp l _) q ?_;unfold ef;exact⟨x,a,[],J,rb,J,rW⟩
end
section
variable{X:Cx}{B:Bz}{k:Nat}{p pos:Pos}{x:Str}{c:Nat}
class K0f(B:Bz)(x:Str)(c:Nat):Prop where p:Mk0 B.G.K (B.G.ca c)/\B.mg x=Z (.ref (B.G.ca c))
def WY [C:Cz X B k][Q:K0f B x c](a:Gz X x)(hd:(x==("__debug__" : Str))=δ):ZE X B (.Call (.Name x p) [] [] pos) (WX c):=⟨M0 (MZ (by rw[C.K];exact Q.p.1) a (by rw[C.mg];exact Q.p.2) hd)⟩
end
end L4
namespace L4
open PySem PySem.Spec PyProof.Rows L2 L3
section
variable{X:Cx}{B:Bz}{k j i m:Nat}{x:Str}{e e':Expr}{es:List Expr}{d:D}{p pos:Pos}{g:D->D->Option D}
def YR:ZB X B l Ke:=⟨λa s f H D I h=>by
 obtain⟨F,c,b,o,R,e,_⟩:=h;cases e⟩
end
theorem yL.mono(M:yL G P w i b1 j m c h)(e:cQ j k=γ):yL G P w i b1 k m c h:=by obtain⟨f,d,l,a,b,c,F⟩:=M;exact⟨f,d,l,a,b,c,F.mono (d4.mp e)⟩
end L4
namespace L2
open PySem PySem.Spec PyProof.Rows
section
variable{X:Cx}
def YS(K:ao):R2:=λx y H Q=>∃a b c d,x=.ref a/\y=.ref b/\fy K H a c/\fy K H b d/\c.length+d.length<=aB/\
 (c=[]->Q (.ref b) H)/\(d=[]->Q (.ref a) H)/\∀p,H p=U->Q (.ref p) (e3 H p (.ea (c++d)))
def Sg:g? X (cj .Add) (YS X.K):=by
 intro i s W H x y v u Q I w z h;obtain⟨a,b,A,T,rfl,rfl,p,q,E,N,O,P⟩:=h;by_cases l:A=[]
 .cases w;cases z;obtain⟨m,R,G,_⟩:=I.tuple p;obtain⟨f,Y,M,_⟩:=I.tuple q;have C:=R.t?.2 l;obtain⟨⟨cls,B,data,S⟩,t,r,n,hd⟩:=id G;obtain⟨⟨cls2,j,data2,o⟩,e,c,F,d⟩:=id M;simp only at r hd c d;subst r hd c d;exact km ⟨_,t,J⟩ ⟨_,e,J⟩ jN j5 jO jL (jI _ _)
   (tuple_addW0 _ _ m.toArray f.toArray n F B j S o (by simp[C])) ⟨t,e,⟨.ref b,H,I,J,N l⟩⟩
 .exact K3 i s W H _ _ v u Q I w z ⟨a,b,A,T,J,J,p,q,l,E,O,λk=>P⟩
end
end L2
namespace L4
open PySem PySem.Spec PyProof.Rows L2 L3
section
variable{X:Cx}{G:Bg}
def Z6(f:FE)(lo e:FO):FE:=λi=>match f i with
 |some (.ea d,a)=>match lo a with
  |some (l,b)=>match e b with
   |some (h,c)=>Z (.ea (n3 d l h),c)
   |none=>U
  |none=>U
 |_=>U
def DH(f g:FE):FE:=λe=>match f e with
 |some (.ea c,a)=>match g a with
  |some (.ea d,b)=>if c.length+d.length<=900 then Z (.ea (c++d),b)else U
  |_=>U
 |_=>U
set_option tactic.hygienic true
def Sh(W:PE X a (tF G f))(Y:PE X b (tF G g))(hK:X.K=G.K:=by rfl):PE X (.BinOp a .Add b pos) (tF G (DH f g)):=PE.ee (KR Sg W Y) λσ H Q hh=>by
 rw[hK];obtain⟨F,ρ,y,d,ρ',R,e,k⟩:=hh;unfold DH at e;split at e
 .rename_i xs c M;split at e
  .rename_i ys ρ2 N;split at e
   .rename_i hl;cases e;refine⟨F,ρ,y,_,c,R,M,λv A B s E r=>⟨F,c,A,_,_,E,N,λu H2 C h R2 o=>?_⟩⟩;have m:=ef.mono h _ _ r;have r0:=m;have r3:=o;unfold ef at m o;obtain⟨a1,q,rfl,S,w⟩:=m;obtain⟨I,t,rfl,T,x⟩:=o;have j:=q9 w;have l:=q9 x;refine⟨a1,I,q,t,J,J,fy.mono R2.sub S,fy.mono R2.sub T,by rw[<-j,<- l];exact uq (by omega),λz=>?_,λz=>?_,λp i=>?_⟩
    .have O:xs=[]:=by rw[z]at j;exact fZ.1 j
     subst O;exact k _ _ _ (s.t h) R2 r3
    .have P:ys=[]:=by rw[z]at l;exact fZ.1 l
     subst P;rw[bI]at k;exact k _ _ _ (s.t h) R2 r0
    .exact k _ _ _ ((s.t h).t (rp (R2.ff i) _)) (R2.Bx i _) (As (fy.of rb) (b?.mono (rp (R2.ff i) _) _ _ (sV w x)))
   .cases e
  .cases e
 .cases e
end
set_option tactic.hygienic false
section
variable{X:Cx}{B:Bz}{k j:Nat}{x:Str}{e e':Expr}{es:List Expr}{f f':FE}{a n:FA}{p pos:Pos}{g:aW->aW->Option (D×aW)}
def WZ [C:Cz X B k](b:ZE X B e f)(c:ZE X B e' f'):ZE X B (.BinOp e .Add e' pos) (DH f f'):=⟨Sh b.p c.p C.K⟩
end
mutual
def YT:D->Bool
 |.E=>γ
 |.I _=>γ
 |.int _=>γ
 |.str _=>γ
 |.ea a=>Ks a
 |.b0 a=>Ks a
 |_=>δ
def Ks:aW->Bool
 |[]=>γ
 |d::a=>YT d&&Ks a
end
section
variable{t:cO}{m n:Nat}
def tM(m:Nat):cO:=⟨m,#[],#[],0,δ,0,δ⟩
def Wy(m:Nat)(O:Nat->Prop)(j:Nat):Nat->dY->Prop
 |0,_=>False
 |f+1,p=>p.j=j\/(O p.j/\Wy m O j f ((tM m).advance p))
end
end L4
namespace L4
open PySem PySem.Spec PySem.Calls PyProof.Rows PySem.W L2 L3
section
variable{prog:aI}{w:ay}{A:aM}{E:ab->af->Prop}{s:af}
theorem M3(h:Q 0xFCA86420 { s with toks:=s.toks+1 }):ah (model prog w) A (pyHash .none) Q E s:=by
 refine aq ?_;rw[cRoomFor,ak (by rw[show [Value.none].any Value.onHeap=δ from J];exact br)];refine aA ?_;refine aq (iH (iX s) ig.lookup ?_);rw[ak (by rw[beq_builtin_none];exact br)];refine aq (iH (iX s) ig.lookup ?_);refine aq (wpAny_callSpecialIfBoundUnlessNone?_slot (iX s) ig
  (mV ig (iX s) F.entry_NoneType_hash
   (show ah _ _ (do ret (<-mkInt 0xFCA86420)) _ _ s from wpAny_ret_mkInt ?_) (F.args_NoneType_hash_1 _)))
 exact aA h
def Si(h:Q γ s):ah (model prog w) A (eqBool .none .none) Q E s:=by refine dZ ?_;rw[aj (show (Value.none==Value.none)=γ from J)];exact aq (wpAny_rule (aA h))
def oIs:Option eu->ab->Bool
 |none,.none=>γ
 |none,_=>δ
 |some k,v=>EF k v
def wL(h:oIs k v=γ):(k=U/\v=.none)\/(∃i t,k=Z (Sum.inl i)/\v=Value.int i t)\/∃x t,k=Z (Sum.inr x)/\v=Value.str x t:=by
 cases k with
 |none=>cases v<;>first|exact .inl ⟨J,J⟩|cases h
 |some k=>
  rcases sv h with ⟨i,t,rfl,rfl⟩|⟨x,t,rfl,rfl⟩
  .exact .inr (.inl ⟨i,t,J,J⟩)
  .exact .inr (.inr ⟨x,t,J,J⟩)
def T?(prog:aI)(w:ay):nP prog w (Option eu) where
 is:=oIs
 hash:=λk=>match k with|none=>0xFCA86420|some k=>Xz w k
 inj:=λv a b ha f=>by rcases wL ha with ⟨rfl,rfl⟩|⟨i,t,rfl,rfl⟩|⟨x,t,rfl,rfl⟩<;>rcases wL f with ⟨rfl,e⟩|⟨j,u,rfl,e⟩|⟨y,u,rfl,e⟩<;>first|rfl|(cases e;rfl)|cases e
 byValue:=λk v h=>by rcases wL h with ⟨rfl,rfl⟩|⟨i,t,rfl,rfl⟩|⟨x,t,rfl,rfl⟩<;>rfl
 pyHash:=λ{A E s k v Q} c h=>by
  cases k with
  |some k=>exact(rA prog w).pyHash (k:=k) c h
  |none=>
   rcases wL c with ⟨_,rfl⟩|⟨i,t,e,_⟩|⟨x,t,e,_⟩
   .exact M3 h
   .cases e
   .cases e
 eqBool:=λ{A E s a b u v Q} d c h=>by
  rcases wL d with ⟨rfl,rfl⟩|⟨i,t,rfl,rfl⟩|⟨x,t,rfl,rfl⟩<;>rcases wL c with ⟨rfl,rfl⟩|⟨j,u,rfl,rfl⟩|⟨y,u,rfl,rfl⟩
  .exact Si h
  .exact l8 j u _ _ _ _ h
  .exact l9 y u _ _ _ _ h
  .exact ma i t _ _ _ _ h
  .exact(rA prog w).eqBool (a:=Sum.inl i) (b:=Sum.inl j) d c (by simpa using h)
  .exact(rA prog w).eqBool (a:=Sum.inl i) (b:=Sum.inr y) d c (by simpa using h)
  .exact mf x t _ _ _ _ h
  .exact(rA prog w).eqBool (a:=Sum.inr x) (b:=Sum.inl j) d c (by simpa using h)
  .exact(rA prog w).eqBool (a:=Sum.inr x) (b:=Sum.inr y) d c (by simpa using h)
 «strs»:=λk x t v h=>by
  cases k with
  |none=>cases h
  |some k=>exact(rA prog w).strs k x t v h
def Sj{h:Heap}(m:h.MapOf (rA prog w) a f):h.MapOf (T? prog w) a (λk=>match k with|none=>U|some k=>f k):=by
 obtain⟨o,p,l,q,r,u,j,y⟩:=m;refine⟨o,p,l,q,r,u,λe b=>?_,λk=>?_⟩
 .obtain⟨k,c,z⟩:=j e b;exact⟨Z k,c,z⟩
 .cases k with
  |some k=>exact y k
  |none=>
   unfold findBy;rw[Array.find?_eq_none.2 λe b=>?_]
   .rfl
   .obtain⟨k,c,_⟩:=j e b;rcases sv c with ⟨i,t,_,d⟩|⟨x,t,_,d⟩<;>(rw[d];exact br)
end
section
variable{X:Cx}{G:Bg}{H:Hp}{pins:cE}{σ:St}{s:af}
def W0(I:eb X pins σ H s)(e:Rd H a (.dK kvs))(h:∀c,eb X pins σ H c->Q .none c):ah (model X.prog X.w) A (call (.builtin "dict.get") [.ref a,.none]) Q E s:=by obtain⟨z,hd,d,rel,b⟩:=Dp I.fc e;exact fO dU b.typeIs gw (jM _ _) (nE (T? X.prog X.w) a (k:=U) J hd) ⟨_,Sj b.mapOf,h _ (I.tj _)⟩
def W1(d e:TE):TE:=λσ H Q=>d σ H λx c=>∃a,x=.ref a/\IsD c a/\e σ c λy b=>(∃o,p' b a y o/\Q (o.getD .E) b)\/(y=.E/\(∃kvs,Rd b a (.dK kvs))/\Q .E b)
def O3(B:X.A.units+1<cLine)(z:PE X o R)(w:PE X e S)(m:M1 X o "get" apos e cpos):PE X (.Call (.Attribute o "get" apos) [e] [] cpos) (W1 R S):=by
 intro pins s σ H Q I h;refine iw m.b1 m.few m.line ix dU jU (fg (z pins s σ H _ I h) λu M c=>?_);obtain⟨x,r,l,F,a,t,d,E⟩:=c;subst t;obtain rfl:u=Value.ref a:=F;obtain⟨O,P,_⟩:=HE l d;refine⟨O,P,?_⟩;rw[m.I?];refine fA J (gf (dJ (fg (w pins M σ r _ l E) λC W c=>fB ?_)));obtain⟨y,j,p,q,⟨T,g,f⟩|⟨rfl,⟨kvs,e⟩,f⟩⟩:=c
 .exact NM B p g q λY N b i=>⟨_,j,b,i,f⟩
 .obtain rfl:C=.none:=q;exact W0 p e λN b=>⟨.E,j,b,J,f⟩
def Jt:D->D->Option D:=λx y=>match y with
 |.E=>match x with
  |.M _ _=>Z .E
  |_=>U
 |y=>zP x y
def O4(hu:X.A.units+1<cLine)(ha:PE X a (tF G f))(hb:PE X b (tF G f'))(m:M1 X a "get" apos b cpos):PE X (.Call (.Attribute a "get" apos) [b] [] cpos) (tF G (c2 Jt f f')):=PE.ee (O3 hu ha hb m) λσ H Q hh=>by
 obtain⟨F,ρ,P,d,C,R,e,k⟩:=hh;obtain⟨x,y,l,Y,e2,c⟩:=BM e;cases x with
 |M N W=>
  refine⟨F,ρ,P,_,l,R,Y,λv S T B E r1=>?_⟩;have t:=r1;obtain⟨p,ob,xs,rfl,r,h2,h3⟩:=t;refine⟨p,J,.inl ⟨_,.inr ⟨_,E.sub _ _ r⟩⟩,F,l,S,y,C,E,e2,λu o h i R2 O=>?_⟩;by_cases M:y=.E
  .subst M;cases c;subst O;exact .inr ⟨J,⟨_,.inr ⟨_,R2.sub _ _ (i _ _ r)⟩⟩,k _ o h (B.t i) R2 wB⟩
  .left;have c:=by
    unfold Jt at c;split at c
    .exact ar J M
    .exact c
   unfold zP at c;cases q:ym y with
   |none=>simp only[q]at c;cases c
   |some j=>
    simp only[q]at c;cases c;have lv:=zO j (b?.mono i _ _ h3) h2;refine⟨uY (N.zip xs) j,?_,?_⟩
    .rw[yO O q];exact p'.kf (R2.sub _ _ (i _ _ r))
    .cases I:wy N W j with
     |none=>rw[I]at lv k;rw[lv];exact k _ o h (B.t i) R2 wB
     |some z=>rw[I]at lv k;obtain⟨w,w1,w2⟩:=lv;rw[w1];exact k _ o h (B.t i) R2 w2
 |_=>
  unfold Jt at c;split at c
  .cases c
  .unfold zP at c;cases c
end
section
variable{X:Cx}{B:Bz}{k:Nat}{e e':Expr}{f f':FE}{apos pos:Pos}
def W3 [C:Cz X B k](d:ZE X B e f)(h:ZE X B e' f')(b:Az X e "get")(c:Ez apos pos)(a:S1 X e'):ZE X B (.Call (.Attribute e "get" apos) [e'] [] pos) (c2 Jt f f'):=⟨O4 (IJ C.r) d.p h.p ⟨b,by rw[a];rfl,c,by rw[a];rfl⟩⟩
end
section
variable{X:Cx}{G:Bg}
def dStrI:D->Option D
 |.int i=>if i.natAbs.log2<1920 then Z (.str (toString i))else U
 |_=>U
set_option tactic.hygienic true
def cd_str:Ds G (λc H Q=>∃i,c=[.int i]/\i.natAbs.log2<1920/\Q (.str (toString i)) H) dStrI:=λx z d H v Q e s a k=>by
 cases x with
 |int i=>
  rw[show dStrI (.int i)=if i.natAbs.log2<1920 then Z (.str (toString i))else U from J]at e;split at e
  .rename_i b;cases e;unfold ef at a;subst a;exact⟨i,J,b,k _ λw w=>u4 _⟩
  .cases e
 |_=>cases e
end
set_option tactic.hygienic false
def tOr(t a:Ty->Option Bool):Ty->Option Bool:=λy=>match t y with
 |some γ=>match a y with
  |some _=>Z γ
  |none=>U
 |some δ=>a y
 |none=>U
def inst_or(h:Fh G c t)(l:Fh G d i):Ll G [c,d] (tOr t i):=by
 refine⟨λy b e=>?_,λj b e=>?_⟩
 .unfold tOr at e;show kitAny G.K (y.val G) [.ref (G.ca c),.ref (G.ca d)]=Z b;unfold kitAny;cases a:t y with
  |none=>simp only[a]at e;cases e
  |some v=>
   simp only[a]at e;rw[h.1 y v a];cases v with
   |true=>
    cases f:i y with
    |none=>simp only[f]at e;cases e
    |some w=>simp only[f]at e;cases e;rfl
   |false=>simp only at e;unfold kitAny;simp only;rw[l.1 y b e];cases b<;>rfl
 .unfold tOr at e;cases a:t (.c j)with
  |none=>simp only[a]at e;cases e
  |some v=>exact h.2 j v a
section
variable{X:Cx}{B:Bz}{k:Nat}{e:Expr}{f:FE}{p p2 p3 p4 pos:Pos}{x y:Str}
def zr_i2I{d}[Q:Ic B x t][o:Ic B y F][C:Cz X B k][N:Nb B "isinstance"](u:Gz X "isinstance")(r:Gz X x)(i:Gz X y)(m:aw [e,.Tuple [.Name x p2,.Name y p3] d p4] X.b'=[(δ,eval e X.b'),(δ,eval (.Tuple [.Name x p2,.Name y p3] d p4) X.b')])(a:S1 X (.Tuple [.Name x p2,.Name y p3] d p4))(j:aw [.Name x p2,.Name y p3] X.b'=[(δ,eval (.Name x p2) X.b'),(δ,eval (.Name y p3) X.b')])(b:S1 X (.Name y p3))(q:ZE X B e f)(hd:Dz x)(h:Dz y):ZE X B (.Call (.Name "isinstance" p) [e,.Tuple [.Name x p2,.Name y p3] d p4] [] pos) (c1 (r6 (tOr t F)) f):=by
 obtain⟨c,w,z⟩:=Q.p;obtain⟨l,A,E⟩:=o.p;refine⟨OD (cs:=[c,l]) (BE (Kl (inst_or w A) C.K) u (C.mg▸N.p) jW (uh q.p (uh (Ny (uh (Ep (v:=.ref (B.G.ca c)) r (C.mg▸z) J hd) (uh (Ep (v:=.ref (B.G.ca l)) i (C.mg▸E) J h) wU b) ?_)) wU a) ?_) (by decide) (by decide) ?_ ?_) (by show 2<=1000;decide)⟩
 .rw[j,b]
 .rw[m,a]
 .rw[m,a]
 .rw[a];rfl
end
section
variable{P:aI}{w:ay}{mg:Str->Option ab}{b1:Heap}{G:Bg}{x:Str}
def GX(K:ao)(x s:Str):Prop:=∃t:Tok,nsIn K aQ x=Z (Z (.str s t))
def W?(X:G.K.In h)(a:h.Ns aQ mg)(e:nsIn G.K aQ x=Z (Z (.str z t))):xA G mg x (.str z):=
 ⟨.str z,_,gM X a e,⟨_,J⟩,λw=>u4 _⟩
def Yw.cx(y:Yw P w mg b1 G)(q:GX G.K x s):xA G mg x (.str s):=by obtain⟨h,X,a⟩:=y.m;obtain⟨t,e⟩:=q;exact W? X a e
end
section
variable{X:Cx}{B:Bz}{k i:Nat}{e:Expr}{f:FE}{a:FA}{x:Str}{p p2 p3 pos apos:Pos}
def zr_xeI [C:Cz X B k](h:tz X i x=γ)(d:Az X (.Name x p) "extend")(j:Ez apos pos)(b:S1 X e)(c:ZN X B e a):ZE X B (.Call (.Attribute (.Name x p) "extend" apos) [e] [] pos) (yj i a):=
 ⟨MB (bmI d j b fD il mF Ml (M' h) (uh c.p wU b))⟩
end
end L4
namespace L4
open PySem PySem.Spec PyProof.Rows L2 L3
section
variable{B:Bz}[Y:Yb B]{x m qual:Str}{st s0:Stmt}{l:List Stmt}{k c c0 np n:Nat}{b:FS}{p:Str}{ps xs:aE}{N:aE}
omit Y in
end
end L4
namespace L4
open PySem PySem.Spec PySem.Calls PyProof.Rows PySem.W L2 L3
section
variable{X:Cx}{G:Bg}
def rEqN(K:ao)(r:R2):R2:=λx y H Q=>(∃a b c,x=.ref a/\y=.ref b/\H a=Z (.b0 c)/\H b=Z (.b0 [])/\c≠[]/\Q (.I δ) H)\/r x y H Q
def op_eqN{r:R2}(C:X.A.units+64<cLine)(i:g? X (bh .Eq) r):g? X (bh .Eq) (rEqN X.K r):=by
 intro c s B H x y v u Q I e f h;rcases h with ⟨a,b,E,rfl,rfl,j,l,m,q⟩|h
 .cases e;cases f;obtain⟨o,w,p,_⟩:=I.list (.inl (.inl j));obtain⟨d,z,t,_⟩:=I.list (.inl (.inl l));cases z;refine lj p.isList t.isList ?_ (by omega) (rV I q J);cases w with
  |nil=>exact ar J m
  |cons _ _=>simp
 .exact i c s B H x y v u Q I e f h
def X':D->D->Option D
 |.b0 (_::_),.b0 []=>Z (.I δ)
 |x,y=>fh δ x y
def od_eqN{r:R2}(j:ke G r (fh δ)):ke G (rEqN G.K r) X':=λx y z i H v u Q e s c d k=>by
 unfold X' at e;split at e
 .cases e;have c:=ef.mono s _ _ c;have d:=ef.mono s _ _ d;unfold ef at c d;obtain⟨a,o,rfl,l,f⟩:=c;obtain⟨b,p,rfl,m,h⟩:=d;unfold b? at f h;subst h;obtain⟨_,_,rfl,_⟩:=f;exact .inl ⟨a,b,_,J,J,l,m,(by intro z;cases z),k _ λw w=>ur _⟩
 .exact .inr (j x y z i H v u Q e s c d k)
instance inN9:E' .Eq X':=⟨λX G h u=>by
 obtain⟨r,a,b⟩:=in9.p X G h u;exact⟨rEqN G.K r,by rw[<-h];exact op_eqN u a,od_eqN b⟩⟩
end
end L4
namespace L4
open PySem PySem.Spec PyProof.Rows L2 L3
def dV(g:aW->Option (Option D)):aW->Option D:=λa=>match g a with
 |some (Z d)=>Z d
 |_=>U
mutual
def noFz:D->Bool
 |.O _=>δ
 |.R _ _=>δ
 |.ea a=>J? a
 |.b0 a=>J? a
 |.obj _ _ a=>J? a
 |.M _ a=>J? a
 |_=>γ
def J?:aW->Bool
 |[]=>γ
 |d::a=>noFz d&&J? a
end
section
variable{G:Bg}
def dShrI:=dI (λz b=>decide (0<=b)) λa b=>.int (a / 2 ^ b.toNat)
def dAndI:=dI (λz z=>γ) λa b=>.int (iO a b)
def od_shr:ke G (rI (λz j=>0<=j) λi j=>.int (i / 2 ^ j.toNat)) dShrI:=Ja (λa b h=>by simpa using h) λz z=>⟨J,J⟩
def od_and:ke G (K' λi j=>.int (iO i j)) dAndI:=Bc λz z=>⟨J,J⟩
end
instance in104:ψ .RShift dShrI:=⟨λz z=>⟨_,Ul,od_shr⟩⟩
instance in105:ψ .BitAnd dAndI:=⟨λz z=>⟨_,Um,od_and⟩⟩
end L4
namespace L4
open PySem PySem.Spec PySem.Calls PyProof.Rows PySem.W L2 L3
def kN(K:ao):Bool:=K.all λp=>p.2.dict.isNone
class Hz(B:Bz):Prop where
 h:B.G.hs=tupleKeyHash (rA B.P B.w)
 k:kN B.G.K=γ
section
variable{X:Cx}{G:Bg}
def rJoin(K:ao):V->bD->Hp->VK->Prop:=λx c H Q=>∃(z:Str) (a:Addr) (b:aE),x=.str z/\c=[.ref a]/\fx K H a (b.map V.str)/\(b.map (·.length)).sum+b.length * z.length<=16777216/\Q (.str (gG z b)) H
def mt_joinL:MtR X "str.join" (rJoin X.K):=by intro b s y H x o v m Q I j i h;obtain⟨z,a,w,rfl,rfl,c,d,q⟩:=h;obtain⟨t,rfl⟩:=j;obtain⟨u,rfl,f⟩:=i.one;cases f;obtain⟨e,r,p,_⟩:=I.list c;exact join_list p.isList (by simpa using GE r) d λl k=>⟨.str _,H,I.tj _,⟨l,J⟩,q⟩
def j0:D->D->Option D:=λx y=>match x,y with
 |.str z,.b0 b=>match Fl b with
  |some a=>if (a.map (·.length)).sum+a.length * z.length<=16777216 then Z (.str (gG z a))else U
  |none=>U
 |_,_=>U
set_option tactic.hygienic true
def pf_join(h:PE X e (tBM G.K "str" (rJoin G.K) (tF G f) (vj G (ax E rK)))):PE X e (tF G (c2 j0 f E)):=PE.ee h λσ H Q I=>by
 obtain⟨F,Y,p,d,j,R,e,k⟩:=I;obtain⟨x,y,c,A,B,b⟩:=BM e;unfold j0 at b;split at b
 .rename_i z w;split at b
  .rename_i T C;split at b
   .rename_i M;cases b;refine⟨F,Y,p,_,c,R,A,λv q r P u m=>?_⟩;unfold ef at m;subst m;refine⟨J,F,c,q,[.b0 w],j,u,by unfold ax;rw[B];rfl,λW t i S R2 rs=>?_⟩;unfold b? at rs;obtain⟨v,r0,rfl,O,o⟩:=rs;unfold b? at o;subst o;obtain⟨a,xs,rfl,l,N⟩:=O;rw[Fm N C]at l;exact⟨z,a,T,J,J,fx.of (R2.sub _ _ l),M,k _ t i (P.t S) R2 (u4 _)⟩
   .cases b
  .cases b
 .cases b
set_option tactic.hygienic false
def oy:D->Option D
 |.str x=>Z (.str x)
 |x=>dStrI x
def Xi:tG X (.type "str") (λa H Q=>(∃i,a=[.int i]/\i.natAbs.log2<1920/\Q (.str (toString i)) H)\/∃x,a=[.str x]/\Q (.str x) H):=by
 intro b s e H a d Q I r h;rcases h with ⟨i,rfl,c,q⟩|⟨x,rfl,q⟩
 .obtain⟨u,rfl,t,rfl⟩:=mi r;exact PySem.P.str_of_int c ⟨.str _,H,I.tj _,⟨_,J⟩,q⟩
 .obtain⟨u,rfl,t,rfl⟩:=mi r;exact PySem.P.str_of_str ⟨.str _,H,I,⟨_,J⟩,q⟩
def cd_strX:Ds G (λb H Q=>(∃i,b=[.int i]/\i.natAbs.log2<1920/\Q (.str (toString i)) H)\/∃x,b=[.str x]/\Q (.str x) H) oy:=λx z c H v Q e s a k=>by
 cases x with
 |int i=>exact .inl (cd_str (.int i) z c H v Q e s a k)
 |str y=>cases e;unfold ef at a;subst a;exact .inr ⟨y,J,k _ λw w=>u4 _⟩
 |_=>cases e
def l'{a:Type}(l:List a)(n:Nat)(y:a):List a:=l.take n++y::l.drop n
def rIns:V->bD->Hp->VK->Prop:=λx b H Q=>∃l a y n,x=.ref l/\b=[.int n,y]/\H l=Z (.b0 a)/\0<=n/\n.toNat<=a.length/\a.length<aB/\Q .E (e3 H l (.b0 (l' a n.toNat y)))
def vals_ins{b:bD}{a:List ab}(h:eg b a){y:V}{u:ab}(r:en y u)(n:Nat):eg (l' b n y) (l' a n u):=(h.take n).append (.cons r (h.drop n))
def eg.two{x y:V}{e:List ab}(h:eg [x,y] e):∃u v,e=[u,v]/\en x u/\en y v:=by
 cases h with
 |cons a b=>cases b with
  |cons c d=>cases d;exact⟨_,_,J,a,c⟩
theorem V?:MtM X "list.insert" rIns:=by
 intro i s O H x N v M Q I p o h;obtain⟨l,w,y,n,rfl,rfl,hH,A,C,E,q⟩:=h;cases p;obtain⟨u,c,rfl,j,b⟩:=eg.two o;obtain⟨t,rfl⟩:=j;obtain⟨z,a,m,r,B,e⟩:=I.Hj hH;have d:a.length=w.length:=by have:=r.length;omega
 refine gE mG ⟨_,e,J⟩ F.entry_list_insert (F.args_list_insert_3 _ _ _) (AutoSeq1.list_insert_list_int_val_1 l a.toArray m n t c (by simp[fitsIndex_both (show -(2 ^ 63)<=n by omega) (show n<2 ^ 63 by have:=cw;omega)]) (by rw[aZ];omega)) ⟨e,?_⟩;refine⟨.E,_,I.lset (its':=l' a n.toNat c) hH e ?_ (vals_ins r b _) ?_,J,q⟩
 .show (a.toArray.extract 0 (if n<0 then (n+(a.toArray.size:Int)).toNat else min n.toNat a.toArray.size)).push c++a.toArray.extract (if n<0 then (n+(a.toArray.size:Int)).toNat else min n.toNat a.toArray.size)=_;rw[ak (by omega),aZ,gz (by omega)];apply Array.toList_inj.1;simp[l'];exact ie (by simp)
 .unfold l';rw[au,aF,b9,dP];omega
def ZX(i:Nat)(f e:FE):FE:=λd=>match uv d i with
 |some _=>match f d with
  |some (.int n,c)=>match e c with
   |some (y,a)=>match uv a i with
    |some b=>if 0<=n/\n.toNat<=b.length/\b.length<1000 then Z (.E,putAt a i (l' b n.toNat y))else U
    |none=>U
   |none=>U
  |_=>U
 |none=>U
def reps_ins{H:Hp}{a:aW}{b:bD}{d:D}{v:V}(n:Nat)(h:b? G H a b)(r:ef G H d v):b? G H (l' a n d) (l' b n v):=sV (CC n h) (sd r (CB n h))
set_option tactic.hygienic true
def Y'(h:PE X e (tBM G.K "list" rIns (zI i) (vj G (ax f (ax M rK))))):PE X e (tF G (ZX i f M)):=PE.ee h λσ H Q N=>by
 obtain⟨F,w,x,d,Y,R,e,k⟩:=N;unfold ZX at e;cases c:uv w i with
 |none=>simp only[c]at e;cases e
 |some B=>
  simp only[c]at e;split at e
  .rename_i n ρ1 C;split at e
   .rename_i y p E;split at e
    .rename_i ds I;split at e
     .rename_i j;cases e;obtain⟨a,W,t,O,s3,_⟩:=vM R c;refine⟨.ref a,t,.inl ⟨J,W,fx.of O⟩,F,w,x,[.int n,y],p,R,by unfold ax;rw[C];simp only[E];rfl,λys H1 z s A rs=>?_⟩;unfold b? at rs;obtain⟨v,r0,rfl,r,q⟩:=rs;unfold b? at q;obtain⟨T,r1,rfl,l,b⟩:=q;unfold b? at b;subst b;unfold ef at r;subst r;obtain⟨a',o,u,P,m,S⟩:=vM A I;rw[t]at u;cases u;exact⟨a,o,T,n,J,J,P,j.1,by rw[<-q9 m];exact j.2.1,by rw[<-q9 m];exact yf (fL j.2.2),k _ _ _ s (S _ _ (reps_ins _ m l)) wB⟩
     .cases e
    .cases e
   .cases e
  .cases e
end
set_option tactic.hygienic false
section
variable{X:Cx}{B:Bz}{k i:Nat}{x:Str}{e e':Expr}{f f':FE}{p p2 pos apos:Pos}
theorem zr_jnI [C:Cz X B k](d:ZE X B e f)(h:ZE X B e' f')(b:Az X e "join")(c:Ez apos pos)(a:S1 X e'):ZE X B (.Call (.Attribute e "join" apos) [e'] [] pos) (c2 j0 f f'):=⟨pf_join (bmI b c a F.plainAttrs_str F.slot_str_join F.type_str_join (C.K▸mt_joinL) d.p (uu h.p vG a))⟩
def zr_sxI [C:Cz X B k][N:Nb B "str"](c:Gz X "str")(a:S1 X e)(b:ZE X B e f):ZE X B (.Call (.Name "str" p) [e] [] pos) (c1 oy f):=⟨Of cd_strX (ctI c (by decide) a Xi (by decide +kernel) (uu b.p vG a))⟩
theorem zr_insI [C:Cz X B k](h:tz X i x=γ)(j:ZE X B e f)(l:ZE X B e' f')(c:Az X (.Name x p) "insert")(d:Ez apos pos)(b:aw [e,e'] X.b'=[(δ,eval e X.b'),(δ,eval e' X.b')])(a:S1 X e'):ZE X B (.Call (.Attribute (.Name x p) "insert" apos) [e,e'] [] pos) (ZX i f f'):=
 ⟨Y' (J6 B.G.K fD mG F.type_list_insert V? (M' h) (uu j.p (uu l.p vG a) (by rw[b,a])) c (by rw[b];rfl) d (by rw[b,a]) (by rw[a];rfl) C.K)⟩
end
def MethN(G:Bg)(P:aI)(w:ay)(d:Str->Option ab)(b1:Heap)(k:Nat)(m:Str)(c:Nat)(h:aW->Option aW):Prop:=
 ∃(f:Addr) (a:bP) (b:aE),Ms G.K (G.ca c)/\Meth G.K (G.ca c) m f/\ki G.K a b []/\vv P w G.K d b1 Dk k f a b (q0 G h)
class Mn(B:Bz)(j:outParam Nat)(m:Str)(c:Nat)(h:aW->Option aW):Prop where p:MethN B.G B.P B.w B.mg B.b1 j m c h
theorem hN4{st:Stmt}[Y:Yb B](C:CF B.G.K (B.G.ca c) r)(h:g=pk o n b)(q:GM B.G.K (B.G.ca c) m qual st)(j:rZ st=p::l)(body:Z7 B (H? st) qual st (p::l) k b)(S:okO (H? st) (Z? st) st o n=γ:=by kernel_rfl)(d:μ m qual st (Z? st):=by (repeat intro _);rfl):Mn B (k+1) m c g:=by obtain⟨f,e,a,i,F⟩:=q;exact⟨f,e,_,C.ci.cl,⟨a,i,F.kp⟩,d.ok F,Td h (v3 S).2.1 (v3 S).2.2 F (v3 S).1 (body.ok j f)⟩
section
variable{X:Cx}{G:Bg}
abbrev MS:=List (Str×(aW->Option aW))
def tMs(G:Bg)(j c:Nat)(h:MS):TA:=λl H Q=>∃(e:Hp) (b:aE) (f:aW) (v:V),l[j]?=Z (Z v)/\ro e H/\ef G e (.obj c b f) v/\(∀q∈h,b.contains q.1=δ/\(q.2 [.obj c b f]).isSome=γ)/\
 ∀(d:List Addr) a,ro H a->(∀p∈d,H p=U/\∃i,a p=Z (.b0 i))->d.length=h.length->Q (d.map V.ref) a
def pa_ms0:PA X [] (tMs G j c []):=PA.ee wU λf H Q a=>by obtain⟨b,e,d,v,_,_,_,_,k⟩:=a;exact k [] H (ro.refl _) (λp h=>by cases h) J
def pa_ms1{m:Str}{h:aW->Option aW}{I:MS}{pl:Sem Bool}(M:MethN G X.prog X.w X.mg X.b1 O m c h)(hr:tR O X.A)(hK:X.K=G.K)(ho:PE X o (zI j))(t:PA X l (tMs G j c I))
  (ht:eval (.Call (.Attribute o m apos) [] [] pos) X.b'=(do
   let P<-eval o X.b'
   standAt apos.atName
   let (f,first)<-holding [P] (getMethod P m pl)
   callWith pos f first (bC pos (aw [] X.b')) (backToKw pos (cW [] X.b'))))
  (u:aw (.Call (.Attribute o m apos) [] [] pos::l) X.b'=(δ,eval (.Call (.Attribute o m apos) [] [] pos) X.b')::aw l X.b'):PA X (.Call (.Attribute o m apos) [] [] pos::l) (tMs G j c ((m,h)::I)):=by
 refine PA.ee (uh (GK (dvs:=[]) (E:=E0) (λC sp=>C=G.ca c/\sp=q0 G h) (λC sp i=>?_) ho ht) t u) λσ H Q hh=>?_
 .obtain⟨rfl,rfl⟩:=i;obtain⟨f,fd,x,R,S,T,W⟩:=M;rw[<-hK]at R S T W;exact⟨O,f,fd,x,[],R,S,W,hr,T,.nil,Gx⟩
 .obtain⟨F,ns,ds,v,N,y,Y,i,k⟩:=hh;obtain⟨c1,c2⟩:=i _ bc;obtain⟨dr,edr⟩:=lg.1 c2;have d:=Y;obtain⟨a,dx,xs,rfl,h1,h2,h3⟩:=Y;refine⟨_,N,a,_,dx,_,_,J,y _ _ h1,⟨J,J⟩,yI c1,F,_,dr,y,sd d rW,edr,λp ys H0' H' t1 t2 B fr hp r s s=>?_⟩;refine⟨F,ns,ds,_,N,y.t B,d,λq b=>i q (aY _ b),λx H2 u1 u2 u3=>?_⟩;refine k (p::x) H2 (B.t u1) (λq b=>?_) (by rw[aF,aF,u3]);rcases aN.1 b with rfl|b
  .exact⟨hp,_,u1 _ _ r⟩
  .refine⟨?_,(u2 q b).2⟩;cases e:H q with
   |none=>rfl
   |some o=>exact ar (B _ _ e) (by rw[(u2 q b).1];exact λz=>by cases z)
def d6.unset(R:d6 G F σ ρ H0 H)(i:Nat):d6 G F σ (ρ.set i .un) H0 H where
 sub:=R.sub
 g0:=R.g0
 keep:=R.keep
 fr:=R.fr
 am:=R.am
 len:=by rw[dW,R.len]
 sl:=λj t e=>by
  rw[b8]at e;split at e
  .split at e
   .cases e;trivial
   .cases e
  .exact R.sl j t e
 ap:=λj k s t a n b c d f=>by
  rw[b8]at b c;split at b
  .split at b
   .cases b;cases d
   .cases b
  .split at c
   .split at c
    .cases c;cases f
    .cases c
   .exact R.ap j k s t a n b c d f
def S?(i j c:Nat)(b:MS):FS:=λa=>match a[j]? with
 |some (.q (.obj e d f))=>if e=c/\i<a.length/\b.length<=10/\(b.all λq=>!d.contains q.1&&(q.2 [.obj c d f]).isSome)=γ then Z (.nx (a.set i .un))else U
 |_=>U
def B'{H a:Hp}{p:Addr}{o:HO}(s:ro H a)(h:H p=U):ro H (e3 a p o):=λb u e=>by rw[rg (λz=>by rw[z,h]at e;cases e)];exact s _ _ e
set_option tactic.hygienic true
def pfs_clrs{st:Stmt}{O:MS}(B:PS X st (Qt (KQ G.K (Ur (tMs G j c O))) (wQ i) (KN (X6 G.K "list" NG (zI i))))):PS X st (l? G (S? i j c O)):=PS.ee B λE A H B=>by
 obtain⟨F,ρ,I,o,R,e,k,k2⟩:=B;unfold S? at e;split at e
 .rename_i c' ns S W;split at e
  .rename_i hc;obtain⟨rfl,hi,hl,hall⟩:=hc;cases e;obtain⟨v,Y,rv⟩:=R.sl j _ W;refine⟨I,ns,S,v,u5 Y,R.sub,rv,λq C=>?_,λw H1 P hps N=>⟨by rw[ae,cw];omega,λl r=>⟨l,J,⟨_,fx.of (rb ..)⟩,?_⟩⟩⟩
   .have:=aC.1 hall q C;rw[aT,eD]at this;exact this
   have iσ:i<A.length:=by rw[R.len];exact hi
   have hln:∀p∈w,p≠l:=λp d z=>by obtain⟨_,f,e⟩:=hps p d;rw[z,r]at e;cases e
   refine Np (xs:=w.map V.ref) (λ_ a m=>(a=A\/∃p,a=A.set i (Z (.ref p)))/\ro H m/\(∀p∈w,∃f,m p=Z (.b0 f))/\m l=Z (.b0 (w.map V.ref))) ⟨.inl J,?_,λp d=>?_,rb ..⟩ (λ_ _ _ _ h=>fx.of h.2.2.2) (λn x a m t hP=>?_) λa m hP=>?_
   .refine B' P ?_;cases eH:H l with
    |none=>rfl
    |some u=>rw[P _ _ eH]at r;cases r
   .obtain⟨_,f,e⟩:=hps p d;exact⟨f,by rw[rg (hln p d)];exact e⟩
   .obtain⟨p,d,rfl⟩:=az.1 (bU t);obtain⟨hσ,y,Q,t3⟩:=hP;have T:a.set i (Z (.ref p))=A.set i (Z (.ref p)):=by
     rcases hσ with rfl|⟨q,rfl⟩
     .rfl
     .rw[oa]
    obtain⟨f,t⟩:=Q p d;show KN _ _ (a.set i (Z (.ref p))) m;rw[T];refine⟨.ref p,by rw[f6 iσ],.inl ⟨J,f,fx.of t⟩,p,f,J,J,t,.inr ⟨p,J⟩,B' y (hps p d).1,λq C=>?_,?_⟩
    .by_cases hqp:q=p
     .subst hqp;exact⟨[],rb ..⟩
     .obtain⟨ys,ey⟩:=Q q C;exact⟨ys,by rw[rg hqp];exact ey⟩
    .rw[rg (λz=>hln p d z.symm)];exact t3
   .obtain⟨hσ,y,_,_⟩:=hP;have M:=(R.f5 y (ro.refl _) (R.sub.t y) λb o e=>.inl e).unset i;refine k a I m (ro.refl _) ?_;rcases hσ with rfl|⟨q,rfl⟩
    .exact M
    .have:=M.set (i:=i) (v:=.ref q) (s:=.un) trivial λz=>by cases z
     rwa [oa]at this
  .cases e
 .cases e
end
set_option tactic.hygienic false
section
variable{X:Cx}{B:Bz}{k i j:Nat}{x y m:Str}{es:List Expr}{p p1 p2 p3 p4 p5 p6 pos apos:Pos}
structure ZQc(X:Cx)(B:Bz)(es:List Expr)(j c:Nat)(hs:MS):Prop where p:PA X es (tMs B.G j c hs)
def zr_q0:ZQc X B [] j c []:=⟨pa_ms0⟩
def zr_q1{h:aW->Option aW}{d:MS}{pl:Sem Bool}[C:Cz X B k][Q:Mn B u m c h](o:tz X j y=γ)(q:ZQc X B es j c d)(l:cQ u k=γ)
  (t:eval (.Call (.Attribute (.Name y p) m apos) [] [] pos) X.b'=(do
   let e<-eval (.Name y p) X.b'
   standAt apos.atName
   let (f,first)<-holding [e] (getMethod e m pl)
   callWith pos f first (bC pos (aw [] X.b')) (backToKw pos (cW [] X.b'))))
  (a:Sz X (.Call (.Attribute (.Name y p) m apos) [] [] pos) es):ZQc X B (.Call (.Attribute (.Name y p) m apos) [] [] pos::es) j c ((m,h)::d):=
 ⟨pa_ms1 (by rw[C.P,C.w,C.mg,C.b];exact Q.p) (C.r.mono (d4.mp l)) C.K (M' o) q.p t a⟩
theorem zr_qF{b:MS}[C:Cz X B k](l:ZQc X B es j c b)(h:kE (model X.prog X.w) X.A X.b' X.xe)(e:tp X i x=γ)(o:tz X i x=γ)(d:Az X (.Name x p2) "clear")(f:Ez p3 p4)(q:cY (.Call (.Attribute (.Name x p2) "clear" p3) [] [] p4) U p5.line X.b'=pure δ)(a:Fz X (.List es p1)):
  ZS X B (.For (.Name x p) (.List es p1) [.Expr (.Call (.Attribute (.Name x p2) "clear" p3) [] [] p4) p5] [] pos) (S? i j c b):=
 ⟨pfs_clrs (JO h C.c (EX B.G.K (JX l.p) C.K) (pgI e) (Er (Ho (by rw[<-C.K];exact Uy fD mM F.type_list_clear NH (M' o) d f) q)) λx=>congrFun a x)⟩
end
end L4
namespace K84x
open PySem L2 L3 L4
abbrev D:=L4.D
def top(i:Nat):Stmt:=PySem.Challenge.pw_tellworld_k84_worlds_written.main.body.getD i (.Pass ⟨0,0,0,0⟩)
def vz:Nat->Bool:=λc=>c==14
def wM:Nat->Bool:=λc=>c==13
def zT:Nat->Bool:=λc=>c==2
def CL:Nat->Bool:=λc=>c==9
def uz:Nat->Bool:=λc=>c==2
def xU:Nat->Bool:=λc=>c==14
def wY:Nat->Bool:=λc=>c==14
def wZ:Nat->Bool:=λc=>c==14
def v8:Nat->Bool:=λc=>c==14
def u7:Nat->Bool:=λc=>c==14
def xV:Nat->Bool:=λc=>c==14
def sr:Nat->Bool:=λc=>c==0||c==7
def w5:Nat->Bool:=λc=>c==1
def xB:Nat->Bool:=λc=>c==14
def rD:Nat->Bool:=λc=>c==0||c==1||c==2
def HU:Nat->Bool:=λc=>c==10
def CM:Nat->Bool:=λc=>c==10
def t7:Nat->Bool:=λc=>c==2
def AA:Nat->Bool:=λc=>c==3||c==11
def vP:Nat->Bool:=λc=>c==13
def yn:Nat->Bool:=λc=>c==14
def yp:Nat->Bool:=λc=>c==14
def sU:Nat->Bool:=λc=>c==0||c==1
def u9:Nat->Bool:=λc=>c==3||c==4||c==5||c==6||c==7||c==11||c==12
def yq:Nat->Bool:=λc=>c==13
def BV:Nat->Bool:=λc=>c==13
def w6:Nat->Bool:=λc=>c==14
def CN:Nat->Bool:=λc=>c==6||c==12
def uI:Nat->Bool:=λc=>c==13
def xC:Nat->Bool:=λc=>c==14
def Fs:Nat->Bool:=λc=>c==8
def tJ:Nat->Bool:=λc=>c==0
def xW:Nat->Bool:=λc=>c==14
abbrev YU:Ty->Option Bool:=u6 16 3
abbrev Kt:Ty->Option Bool:=u6 16 10
abbrev Tg:Ty->Option Bool:=u6 16 4
abbrev O5:Ty->Option Bool:=u6 16 7
abbrev Ti:Ty->Option Bool:=u6 16 15
abbrev O6:Ty->Option Bool:=u6 16 1
abbrev Ju:Ty->Option Bool:=u6 16 6
abbrev O7:Ty->Option Bool:=u6 16 11
abbrev O8:Ty->Option Bool:=u6 16 9
abbrev Tj:Ty->Option Bool:=u6 16 12
abbrev O9:Ty->Option Bool:=u6 16 13
abbrev Pa:Ty->Option Bool:=u6 16 5
abbrev Lv:Ty->Option Bool:=u6 16 0
abbrev Pb:Ty->Option Bool:=u6 16 2
abbrev Pc:Ty->Option Bool:=u6 16 8
def zU:L4.D:=(D.int 8)
def zV:L4.D:=(D.int 12)
def Ft:L4.D:=(D.ea [(D.str "it"),(D.str "other"),(D.str "here"),(D.str "the"),(D.str "a"),(D.str "undo"),(D.str "restart")])
def Fu:L4.D:=(D.ea [(D.str "the"),(D.str "a")])
def AB:L4.D:=(D.ea [(D.str "room"),(D.str "plain"),(D.str "fixed"),(D.str "box"),(D.str "lamp"),(D.str "you")])
def Lw:L4.D:=(D.ea [(D.str "alone"),(D.str "one"),(D.str "two"),(D.str "way")])
def xD:L4.D:=(D.ea [(D.str "room"),(D.str "box"),(D.str "you")])
def xE:L4.D:=(D.ea [(D.str "box"),(D.str "lamp")])
def AO:L4.D:=(D.ea [(D.str "room"),(D.str "you")])
def BW:L4.D:=(D.int 5)
def BX:L4.D:=(D.int 4)
def DI:L4.D:=(D.int 4)
def BY:L4.D:=(D.int 60)
def xF:L4.D:=(D.int 3)
def BZ:L4.D:=(D.int 5)
def AQ:L4.D:=(D.int 7)
def yW:L4.D:=(D.int 4)
def zW:L4.D:=(D.int 3)
def DJ:L4.D:=(D.int 10)
def B2:L4.D:=(D.int 6)
def yX:L4.D:=(D.int 4)
def w9:L4.D:=(D.ea [(D.str "the"),(D.str "a"),(D.str "undo"),(D.str "restart")])
def B3:L4.D:=(D.int 20)
def CO:L4.D:=(D.str "-")
abbrev aa:=(cV 0)
abbrev aL:=(cC (.int 1))
abbrev ag:=(cV 1)
def xa:FS:=(rj (sT (c1 (r6 (sG "str")) aa) (sT (uG vY vY aL (c1 ux aa) ag) (c1 vZ (cL (rh 1 [] (iS aa) (gN 0) sf (uG Ob Ob (cS "a") aa (cS "z"))))))))
def uQ:=e0 2 2 xa
def GT:FS:=(rj (sT (qY uQ (ax aa (a1 (cC zU)))) (c2 (A? γ) aa (cC Ft))))
def uE:=e0 1 1 GT
def GU:FS:=(rj (sT (qY uQ (ax aa (a1 (cC zV)))) (c2 (A? γ) aa (cC Fu))))
def tK:=e0 1 1 GU
def DK:FS:=(rj (sT (c1 (r6 (sG "str")) aa) (c2 (A? δ) aa ag)))
def rX:=e0 2 2 DK
def Fv:FS:=(rj (sT (c1 (r6 (sG "int")) aa) (EY (c1 (r6 (sG "bool")) aa))))
def xb:=e0 1 1 Fv
def zw:FS:=(rj (sT (c1 (r6 (sG "list")) aa) (c2 vY (c1 ux aa) ag)))
def sh:=e0 2 2 zw
def Fw:FS:=(rj (C' (cT (c1 (r6 (sG "list")) aa)) (cL (ue aa)) aa))
def Bj:=e0 1 1 Fw
abbrev ai:=(cV 2)
abbrev aG:=(cV 3)
abbrev aU:=(cV 4)
def yY:FS:=(bt (rY 0 0 "name" ag)
 (bt (rY 0 0 "words" ai)
 (bt (rY 0 0 "kind" aG)
 (rY 0 0 "start" aU))))
def tu:=tH 0 4 5 yY
def DL:FS:=(bt (rY 1 0 "name" ag)
 (bt (rY 1 0 "start" ai)
 (rY 1 0 "most" aG)))
def DM:=tH 1 3 4 DL
abbrev bq:=(cC D.E)
def zX:FS:=(bt (rY 2 0 "name" ag)
 (bt (rY 2 0 "others" (C' (cT (c2 yK ai bq)) (rN rK) ai))
 (bt (rY 2 0 "form" aG)
 (rY 2 0 "joining" aU))))
def tU:=tH 2 4 5 zX
def GV:FS:=(bt (rY 3 0 "term" ag)
 (rY 3 0 "place" ai))
def AC:=tH 3 2 3 GV
def Fy:FS:=(rY 4 0 "term" ag)
def yZ:=tH 4 1 2 Fy
def DN:FS:=(rY 5 0 "term" ag)
def DO:=tH 5 1 2 DN
def AR:FS:=(bt (rY 6 0 "term" ag)
 (rY 6 0 "value" ai))
def sS:=tH 6 2 3 AR
def DP:FS:=(bt (rY 7 0 "term" ag)
 (rY 7 0 "kind" ai))
def tV:=tH 7 2 3 DP
def DQ:FS:=(rY 8 0 "word" ag)
def zY:=tH 8 1 2 DQ
def FB:FS:=(rY 9 0 "inner" ag)
def t8:=tH 9 1 2 FB
def DR:FS:=(bt (rY 10 0 "one" ag)
 (rY 10 0 "other" ai))
def DS:=tH 10 2 3 DR
def DT:FS:=(bt (rY 11 0 "term" ag)
 (rY 11 0 "place" ai))
def uV:=tH 11 2 3 DT
def FC:FS:=(bt (rY 12 0 "term" ag)
 (rY 12 0 "value" ai))
def vA:=tH 12 2 3 FC
abbrev bw:=(cV 5)
abbrev bQ:=(a1 ai)
abbrev gX:=(a1 aG)
def zZ:FS:=(bt (rY 13 0 "verb" ag)
 (bt (rY 13 0 "tests" (qY Bj bQ))
 (bt (rY 13 0 "deeds" (qY Bj gX))
 (bt (rY 13 0 "text" aU)
 (rY 13 0 "refuses" bw)))))
def tW:=tH 13 5 6 zZ
def yt:FS:=(rj (c2 (A? δ) (c1 (ra sr "kind") aa) (cC xD)))
def yu:=e0 1 1 yt
def sM:Nat->Option (List D->Option D):=λc=>match c with
 |0=>Z yu
 |_=>U
def yw:FS:=(rj (c2 (A? δ) (c1 (ra sr "kind") aa) (cC xE)))
def yx:=e0 1 1 yw
def tL:Nat->Option (List D->Option D):=λc=>match c with
 |0=>Z yx
 |_=>U
def xc:FS:=(rj (c2 (A? γ) (c1 (ra sr "kind") aa) (cC AO)))
def xf:=e0 1 1 xc
def vC:Nat->Option (List D->Option D):=λc=>match c with
 |0=>Z xf
 |_=>U
def zx:FS:=(fu (tT (cT aa)) Ke rG)
def ri:=e0 2 2 zx
def FD:FS:=(rj (c1 ux (cL (rh 1 [1] (iL aa) (gN 0) (cT (c2 (fh δ) (c1 (ra sr "kind") aa) ag)) aa))))
def y3:=e0 2 2 FD
def B4:FS:=(sq (rh 1 [] (iL aa) (gN 0) (cT (se vC "is_plainly" aa rK)) aa))
def va:=pk 1 1 B4
abbrev aS:=(cC (.int 0))
abbrev cJ:=(cC (.I δ))
abbrev o6:=(a1 (c1 (ra sU "start") aa))
abbrev pq:=(a1 (c1 (ra w5 "most") aa))
def CP:FS:=(bt (fu (vX (tT (cT (c1 (r6 O6) aa))) (vX (tT (cT (qY xb o6))) (tT (cT (qY xb pq))))) (rj cJ) rG)
 (rj (sT (uG vY vY aL (c1 (ra w5 "most") aa) (cC zW)) (uG vY vY aS (c1 (ra sU "start") aa) (c1 (ra w5 "most") aa)))))
def CQ:=e0 1 1 CP
abbrev dE:=(cS "room")
abbrev gU:=(cS "you")
abbrev bE:=(a1 aa)
abbrev fW:=(a1 dE)
def xg:FS:=(bt (rO 1 (sT (c1 (r6 (sG "list")) aa) (c1 vZ (cL (rh 1 [] (iL aa) (gN 0) sf (c1 (r6 Lv) aa))))))
 (bt (rq (qY ri (ax ag (a1 (cS "things are a list of things")))))
 (bt (rq (qY ri (ax (c1 vZ (cL (rh 1 [] (iL aa) (gN 0) sf (qY rX (ax (c1 (ra sr "kind") aa) (a1 (cC AB))))))) (a1 (cS "a thing is of no kind")))))
 (bt (rq (qY ri (ax (uG vY vY aL (qY y3 (ax aa fW)) (cC BZ)) (a1 (cS "a world has 1 to 5 rooms")))))
 (bt (rq (qY ri (ax (c2 (fh δ) (qY y3 (ax aa (a1 gU))) aL) (a1 (cS "a world has just one you")))))
 (rq (qY ri (ax (c2 vY (c1 ux (cL (sQ va bE))) (cC AQ)) (a1 (cS "a world has at most 7 things beside rooms and you"))))))))))
def xh:=e0 1 2 xg
def xX:FS:=(bt (rO 1 (sT (qY sh (ax aa (a1 (cC yW)))) (c1 vZ (cL (rh 1 [] (iL aa) (gN 0) sf (qY CQ bE))))))
 (rq (qY ri (ax ag (a1 (cS "marks are a list of at most 4 marks, each from 0 to at most 3"))))))
def xY:=e0 1 2 xX
def B5:FS:=(rj (c2 (fh δ) (c1 (BQ Bi) aa) (c1 ux aa)))
def tw:=e0 1 1 B5
def xZ:FS:=(bt (rO 2 (cL (tS (cL (rh 1 [] (iL aa) (gN 0) sf (c1 (ra rD "name") aa))) (cL (rh 1 [] (iL ag) (gN 0) sf (c1 (ra rD "name") aa))))))
 (bt (rq (qY ri (ax (c1 vZ (cL (rh 1 [] (iL ai) (gN 0) sf (qY uE bE)))) (a1 (cS "a name is no name")))))
 (rq (qY ri (ax (qY tw bQ) (a1 (cS "two things or marks have one name")))))))
def x3:=e0 2 3 xZ
def B6:FS:=(sq (tS (cL (rh 1 [] (iL aa) (gN 0) (cT (se tL "has_mark" aa rK)) (c1 (ra rD "name") aa))) (cL (rh 1 [] (iL ag) (gN 0) sf (c1 (ra rD "name") aa)))))
def y4:=pk 2 2 B6
def Bk:FS:=(bt (fu (cT (c2 (fh δ) (c1 (ra sr "kind") ag) dE)) (rj (c2 yK (c1 (ra sU "start") ag) bq)) rG)
 (bt (fu (cT (c2 (fh δ) (c1 (ra sr "kind") ag) gU)) (rj (qY rX (ax (c1 (ra sU "start") ag) (a1 (cL (rh 1 [] (iL aa) (gN 0) (cT (c2 (fh δ) (c1 (ra sr "kind") aa) dE)) (c1 (ra rD "name") aa))))))) rG)
 (rj (qY rX (ax (c1 (ra sU "start") ag) (a1 (cL (rh 1 [] (iL aa) (gN 0) (cT (se sM "can_hold" aa rK)) (c1 (ra rD "name") aa)))))))))
def Bl:=e0 2 2 Bk
abbrev eX:=(cC (.I γ))
def zy:FS:=(bt (rO 2 (c2 AM aa ag))
 (bt (uH (D? (c1 ux aa)) (gN 3) (bt (fu (cT (c2 yK ai bq)) (rj eX) rG)
 (rO 2 (c2 AM aa ai))))
 (rj (c2 yK ai bq))))
def wb:=e0 2 4 zy
abbrev hG:=(ax ag bE)
def xi:FS:=(bt (rq (qY ri (ax (c1 vZ (cL (rh 1 [0] (iL aa) (gN 0) sf (qY Bl hG)))) (a1 (cS "a start is none")))))
 (bt (GO 1)
 (bt (uH (iL aa) (gN 2) (v5 1 (c1 (ra rD "name") ai) (c1 (ra sU "start") ai)))
 (rq (qY ri (ax (c1 vZ (cL (rh 1 [1] (iD (vu 1)) (gN 0) sf (qY wb hG)))) (a1 (cS "a thing starts within itself"))))))))
def xj:=e0 1 3 xi
def z4:FS:=(bt (fu (vX (tT (cT (c1 (r6 (sG "tuple")) aa))) (tT (cT (uG vY vY aL (c1 ux aa) (cC yX))))) (rj cJ) rG)
 (rj (sT (c1 vZ (cL (rh 1 [] (iT aa) (gN 0) sf (qY tK bE)))) (qY tw bE))))
def vQ:=e0 1 1 z4
def GW:FS:=(rj (c1 vZ (cL (rh 1 [0] (iT ag) (gN 0) sf (c2 (A? δ) aa ag)))))
def wN:=e0 2 2 GW
def wc:FS:=(bt (rO 2 (cL (rh 1 [1] (iL aa) (gN 0) (cT (c2 (fh γ) (c1 (ra rD "name") aa) (c1 (ra rD "name") ag))) aa)))
 (rj (EY (c1 Fg (cL (rh 1 [1] (iL ai) (gN 0) sf (qY wN (ax (c1 (ra tJ "words") aa) (a1 (c1 (ra tJ "words") ag))))))))))
def we:=e0 2 3 wc
def tN:FS:=(bt (rq (qY ri (ax (c1 vZ (cL (rh 1 [] (iL aa) (gN 0) sf (qY vQ (a1 (c1 (ra tJ "words") aa)))))) (a1 (cS "a thing has 1 to 4 unlike words, as a tuple")))))
 (bt (rO 1 (cL (sQ va bE)))
 (rq (qY ri (ax (c1 vZ (cL (rh 1 [1] (iL ag) (gN 0) sf (qY we hG)))) (a1 (cS "one thing has all words of another")))))))
def tP:=e0 1 2 tN
abbrev cD:=(a1 ag)
abbrev fX:=(ax aa cD)
def y6:FS:=(bt (rO 2 (sT (c1 (r6 (sG "list")) aa) (sT (c1 vZ (cL (rh 1 [1] (iL aa) (gN 0) sf (qY rX fX)))) (qY tw bE))))
 (rq (qY ri (ax ai (a1 (cS "dark is a list of rooms' names, each once"))))))
def y7:=e0 2 3 y6
abbrev bX:=(cC (.int 2))
abbrev bJ:=(cC (.int 3))
abbrev cB:=(cC (.int 4))
abbrev fo:=(a1 (c2 ew aa aL))
abbrev pz:=(ax (c2 ew aa bJ) bQ)
def FH:FS:=(bt (fu (vX (tT (cT (c1 (r6 (sG "tuple")) aa))) (cT (c2 (fh γ) (c1 ux aa) cB))) (rj cJ) rG)
 (bt (rO 3 (M? (c2 yK (c2 ew aa bJ) bq) (qY rX pz)))
 (rj (sT (qY rX (ax (c2 ew aa aS) cD)) (sT (qY tK fo) (sT (qY rX (ax (c2 ew aa bX) cD)) aG))))))
def FI:=e0 3 4 FH
abbrev cZ:=(ax ag bQ)
abbrev jm:=(ax aa cZ)
def y8:FS:=(bt (rO 3 (sT (qY sh (ax aa (a1 (cC DJ)))) (c1 vZ (cL (rh 1 [1,2] (iL aa) (gN 0) sf (qY FI jm))))))
 (bt (rq (qY ri (ax aG (a1 (cS "ways are a list of at most 10 tuples (room, word, room, mark)")))))
 (rq (qY ri (ax (qY tw (a1 (cL (rh 1 [] (iL aa) (gN 0) sf (rN (ax (c2 ew aa aS) fo)))))) (a1 (cS "two ways lead from one room by one word")))))))
def y9:=e0 3 4 y8
abbrev gS:=(cS "two")
abbrev pj:=(a1 (c1 (ra uz "joining") aa))
def GY:FS:=(bt (fu (vX (tT (cT (c1 (r6 Pb) aa))) (vX (tT (cT (qY uE (a1 (c1 (ra rD "name") aa))))) (tT (cT (c1 (r6 (sG "tuple")) (c1 (ra t7 "others") aa)))))) (rj cJ) rG)
 (bt (fu (vX (tT (cT (c1 vZ (cL (rh 1 [] (iT (c1 (ra t7 "others") aa)) (gN 0) sf (qY uE bE)))))) (tT (cT (qY rX (ax (c1 (ra zT "form") aa) (a1 (cC Lw))))))) (rj cJ) rG)
 (rj (C' (cT (c2 (fh δ) (c1 (ra zT "form") aa) gS)) (qY tK pj) (c2 yK (c1 (ra uz "joining") aa) bq)))))
def GZ:=e0 1 1 GY
def AS:FS:=(bt (rO 1 (sT (qY sh (ax aa (a1 (cC B2)))) (c1 vZ (cL (rh 1 [] (iL aa) (gN 0) sf (qY GZ bE))))))
 (rq (qY ri (ax ag (a1 (cS "verbs are a list of at most 6 verbs"))))))
def vH:=e0 1 2 AS
def DU:FS:=(rj (EY (c1 Fg (cL (rh 1 [1] (iL aa) (gN 0) sf (c2 (A? δ) aa ag))))))
def vR:=e0 2 2 DU
abbrev bj:=(cV 6)
abbrev bY:=(cV 7)
abbrev jh:=(a1 (c1 (ra rD "name") bj))
def uR:FS:=(bt (sZ 3 (rB rK))
 (bt (uH (iL (cL (sQ va bE))) (gN 4) (rq (zQ 3 (c1 (ra tJ "words") aU))))
 (bt (sZ 5 (rB rK))
 (bt (uH (iL ai) (gN 6) (rq (zQ 5 (wX (rN jh) (c1 (ra t7 "others") bj)))))
 (bt (rO 7 (cL (tS (cL (rh 1 [] (iL ai) (gN 0) (cT (c2 yk (c1 (ra uz "joining") aa) bq)) (c1 (ra uz "joining") aa))) (cL (rh 1 [] (iL ag) (gN 0) sf (c2 ew aa aL))))))
 (bt (rq (qY ri (ax (qY tw (a1 (vu 5))) (a1 (cS "two verbs' names are alike")))))
 (bt (rq (qY ri (ax (qY vR (ax (cL (tS (vu 5) bY)) (a1 (vu 3)))) (a1 (cS "a verb's, way's or joining word is a word of a thing")))))
 (bt (rq (qY ri (ax (qY vR (ax (cL (tS (vu 5) bY)) (a1 (cC w9)))) (a1 (cS "the, a, undo or restart is a word of the world")))))
 (rq (qY ri (ax (qY vR (ax bY (a1 (vu 5)))) (a1 (cS "a way's or joining word is a verb's name")))))))))))))
def uS:=e0 3 8 uR
abbrev gY:=(a1 aU)
def x4:FS:=(bt (rq (qY xh bE))
 (bt (rq (qY xY cD))
 (bt (rq (qY x3 fX))
 (bt (rq (qY xj bE))
 (bt (rq (qY tP bE))
 (bt (rO 6 (cL (rh 1 [] (iL aa) (gN 0) (cT (c2 (fh δ) (c1 (ra sr "kind") aa) dE)) (c1 (ra rD "name") aa))))
 (bt (rq (qY y7 (ax ai (a1 bj))))
 (bt (rq (qY y9 (ax aG (ax bj (a1 (cL (sQ y4 fX)))))))
 (bt (rq (qY vH gY))
 (rq (qY uS (ax aa (ax aG (a1 (cL (tS aU bw))))))))))))))))
def x8:=e0 6 7 x4
def Pd:FS:=(rj (rJ 13 (λa=>tW (a++[])) (ax aa (ax ag (ax ai (ax aG (a1 cJ)))))))
def xk:=e0 4 4 Pd
def G0:FS:=(rj (rJ 13 (λa=>tW (a++[])) (ax aa (ax ag (ax (cL (rB rK)) (ax ai (a1 eX)))))))
def sA:=e0 3 3 G0
abbrev cA:=(cS "it")
abbrev d9:=(a1 cA)
abbrev gZ:=(cS "take")
def B7:FS:=(sq (rB (ax (qY sA (ax gZ (ax (cL (rB (a1 (rJ 7 (λa=>tV (a++[])) (ax cA (a1 (cS "fixed"))))))) (a1 (cS "That stays."))))) (ax (qY sA (ax gZ (ax (cL (rB (a1 (rJ 3 (λa=>AC (a++[])) (ax cA bE))))) (a1 (cS "You have that."))))) (ax (qY xk (ax gZ (ax (cL (rB rK)) (ax (cL (rB (a1 (rJ 11 (λa=>uV (a++[])) (ax cA bE))))) (a1 (cS "Taken.")))))) (ax (qY xk (ax (cS "drop") (ax (cL (rB (a1 (rJ 4 (λa=>yZ (a++[])) d9)))) (ax (cL (rB (a1 (rJ 11 (λa=>uV (a++[])) (ax cA (a1 (cS "here"))))))) (a1 (cS "Dropped.")))))) (a1 (qY sA (ax (cS "drop") (ax (cL (rB rK)) (a1 (cS "You lack that."))))))))))))
def za:=pk 1 1 B7
abbrev gR:=(cS "other")
abbrev d8:=(cS "put")
abbrev dF:=(cS "box")
def DV:FS:=(sq (rB (ax (qY sA (ax d8 (ax (cL (rB (a1 (rJ 9 (λa=>t8 (a++[])) (a1 (rJ 4 (λa=>yZ (a++[])) d9)))))) (a1 (cS "You lack that."))))) (ax (qY sA (ax d8 (ax (cL (rB (a1 (rJ 9 (λa=>t8 (a++[])) (a1 (rJ 7 (λa=>tV (a++[])) (ax gR (a1 dF)))))))) (a1 (cS "It holds nothing."))))) (ax (qY sA (ax d8 (ax (cL (rB (a1 (rJ 6 (λa=>sS (a++[])) (ax gR (a1 aS)))))) (a1 (cS "It is shut."))))) (a1 (qY xk (ax d8 (ax (cL (rB rK)) (ax (cL (rB (a1 (rJ 11 (λa=>uV (a++[])) (ax cA (a1 gR)))))) (a1 (cS "Done."))))))))))))
def z5:=pk 0 0 DV
abbrev ji:=(ax cA (a1 aL))
abbrev jk:=(ax cA (a1 aS))
abbrev hE:=(cS "open")
def DW:FS:=(sq (rB (ax (qY sA (ax hE (ax (cL (rB (a1 (rJ 9 (λa=>t8 (a++[])) (a1 (rJ 7 (λa=>tV (a++[])) (ax cA (a1 dF)))))))) (a1 (cS "It has no lid."))))) (ax (qY sA (ax hE (ax (cL (rB (a1 (rJ 6 (λa=>sS (a++[])) ji)))) (a1 (cS "It is open."))))) (ax (qY xk (ax hE (ax (cL (rB rK)) (ax (cL (rB (a1 (rJ 12 (λa=>vA (a++[])) ji)))) (a1 (cS "Opened.")))))) (ax (qY sA (ax (cS "shut") (ax (cL (rB (a1 (rJ 9 (λa=>t8 (a++[])) (a1 (rJ 7 (λa=>tV (a++[])) (ax cA (a1 dF)))))))) (a1 (cS "It has no lid."))))) (ax (qY sA (ax (cS "shut") (ax (cL (rB (a1 (rJ 6 (λa=>sS (a++[])) jk)))) (a1 (cS "It is shut."))))) (a1 (qY xk (ax (cS "shut") (ax (cL (rB rK)) (ax (cL (rB (a1 (rJ 12 (λa=>vA (a++[])) jk)))) (a1 (cS "Shut."))))))))))))))
def z6:=pk 0 0 DW
abbrev fV:=(cS "lamp")
def AU:FS:=(sq (rB (ax (qY sA (ax (cS "light") (ax (cL (rB (a1 (rJ 9 (λa=>t8 (a++[])) (a1 (rJ 7 (λa=>tV (a++[])) (ax cA (a1 fV)))))))) (a1 (cS "It burns not."))))) (ax (qY sA (ax (cS "light") (ax (cL (rB (a1 (rJ 6 (λa=>sS (a++[])) ji)))) (a1 (cS "It is lit."))))) (ax (qY xk (ax (cS "light") (ax (cL (rB rK)) (ax (cL (rB (a1 (rJ 12 (λa=>vA (a++[])) ji)))) (a1 (cS "Lit.")))))) (ax (qY sA (ax (cS "douse") (ax (cL (rB (a1 (rJ 9 (λa=>t8 (a++[])) (a1 (rJ 7 (λa=>tV (a++[])) (ax cA (a1 fV)))))))) (a1 (cS "It burns not."))))) (ax (qY sA (ax (cS "douse") (ax (cL (rB (a1 (rJ 6 (λa=>sS (a++[])) jk)))) (a1 (cS "It is out."))))) (a1 (qY xk (ax (cS "douse") (ax (cL (rB rK)) (ax (cL (rB (a1 (rJ 12 (λa=>vA (a++[])) jk)))) (a1 (cS "Doused."))))))))))))))
def x9:=pk 0 0 AU
def DX:FS:=(bt (sZ 2 (rB (ax (rJ 3 (λa=>AC (a++[])) (ax aa (a1 (c2 ew ag aS)))) (a1 (rJ 8 (λa=>zY (a++[])) (a1 (c2 ew ag aL)))))))
 (bt (fu (cT (c2 yk (c2 ew ag bJ) bq)) (rq (uP 2 (rJ 9 (λa=>t8 (a++[])) (a1 (rJ 6 (λa=>sS (a++[])) (ax (c2 ew ag bJ) (a1 aS))))))) rG)
 (sq (El 2))))
def z7:=pk 2 3 DX
abbrev kQ:=(a1 (c2 ew aa bX))
def Bm:FS:=(bt (rO 2 (cL (rh 1 [0] (iL ag) (gN 0) sf (qY xk (ax (cS "go") (ax (cL (sQ z7 hG)) (ax (cL (rB (a1 (rJ 11 (λa=>uV (a++[])) (ax ag kQ))))) (a1 (cS "You go.")))))))))
 (sq (tS ai (cL (rB (a1 (qY sA (ax (cS "go") (ax (cL (rB rK)) (a1 (cS "No way there.")))))))))))
def Bn:=pk 2 3 Bm
def B8:FS:=(sq (rB (a1 (qY xk (ax (cS "wait") (ax (cL (rB rK)) (ax (cL (rB rK)) (a1 (cS "Time goes by.")))))))))
def B9:=pk 0 0 B8
def z8:FS:=(sq (tS (cL (tS (cL (tS (cL (tS (cL (tS (cL (sQ za bE)) (cL (sQ z5 rK)))) (cL (sQ z6 rK)))) (cL (sQ x9 rK)))) (cL (sQ Bn fX)))) (cL (sQ B9 rK))))
def xl:=pk 2 2 z8
abbrev oI:=(ax gZ (ax (cS "drop") (ax hE (ax (cS "shut") (ax (cS "light") (a1 (cS "douse")))))))
abbrev fi:=(cS "way")
abbrev o4:=(ax d8 (ax (rN rK) (ax gS (a1 (cS "in")))))
def z9:FS:=(sq (tS (cL (rh 1 [] (iT (rN oI)) (gN 0) sf (rJ 2 (λa=>tU (a++[D.E,(D.str "one"),D.E])) bE))) (cL (rB (ax (rJ 2 (λa=>tU (a++[])) o4) (ax (rJ 2 (λa=>tU (a++[D.E])) (ax (cS "go") (ax (rN rK) (a1 fi)))) (a1 (rJ 2 (λa=>tU (a++[D.E])) (ax (cS "wait") (ax (rN rK) (a1 (cS "alone"))))))))))))
def vb:=pk 0 0 z9
def CS:FS:=(bt (GO 1)
 (bt (uH (iL aa) (gN 2) (v5 1 (c1 (ra rD "name") ai) ai))
 (rj (vu 1))))
def CT:=e0 1 3 CS
def wg:FS:=(bt (GO 2)
 (bt (uH (iL aa) (gN 3) (fu (cT (se tL "has_mark" aG rK)) (v5 2 (c1 (ra rD "name") aG) aL) rG))
 (bt (uH (iL ag) (gN 4) (v5 2 (c1 (ra rD "name") aU) (c1 (ra w5 "most") aU)))
 (rj (vu 2)))))
def wj:=e0 2 5 wg
def zz:FS:=(bt (GO 1)
 (bt (uH (iL aa) (gN 2) (uH (iT (wX (rN (a1 (c1 (ra rD "name") ai))) (c1 (ra t7 "others") ai))) (gN 3) (v5 1 aG ai)))
 (rj (vu 1))))
def uJ:=e0 1 4 zz
def G1:FS:=(Kp (ra uI "verb"))
def G2:=e0 1 3 G1
def zA:FS:=(sq (rh 1 [1] (iL (c1 (ra v8 "kept_things") aa)) (gN 0) (cT (c2 (fh δ) (c1 (ra sr "kind") aa) ag)) (c1 (ra rD "name") aa)))
def zB:=e0 2 2 zA
def ya:Nat->Option (List D->Option D):=λc=>match c with
 |14=>Z zB
 |_=>U
def xG:FS:=(sq (tS (c1 (ra u7 "kept_verbs") aa) (c1 (ra yp "shared_verbs") aa)))
def xH:=e0 1 1 xG
def wm:Nat->Option (List D->Option D):=λc=>match c with
 |14=>Z xH
 |_=>U
def Aa:FS:=(rj (sT (c1 (r6 (sG "str")) aa) (c2 (fh δ) aa ag)))
def vc:=e0 2 2 Aa
def G3:FS:=(rj (rJ 13 (λa=>tW (a++[])) (ax (c1 (ra uI "verb") aa) (ax (c1 (ra yq "tests") aa) (ax (c1 (ra wM "deeds") aa) (ax (c1 (ra BV "text") aa) (a1 (c1 (ra vP "refuses") aa))))))))
def CU:=e0 1 1 G3
def yy:FS:=(rj (c2 Jt (c1 (ra w6 "things_by_name") aa) ag))
def tQ:=e0 2 2 yy
def vd:Nat->Option (List D->Option D):=λc=>match c with
 |14=>Z tQ
 |_=>U
def zC:FS:=(rj (c2 zP (c1 (ra xB "mosts_by_name") aa) ag))
def wq:=e0 2 2 zC
def vI:Nat->Option (List D->Option D):=λc=>match c with
 |14=>Z wq
 |_=>U
def zD:FS:=(rj (c2 zP (c1 (ra xC "verbs_by_word") aa) ag))
def wt:=e0 2 2 zD
def uf:Nat->Option (List D->Option D):=λc=>match c with
 |14=>Z wt
 |_=>U
def DY:FS:=(rj (c1 (ra xW "your_name") aa))
def Jv:=e0 1 1 DY
def AD:Nat->Option (List D->Option D):=λc=>match c with
 |14=>Z Jv
 |_=>U
abbrev ja:=(ax (cS "one") (a1 (cS "two")))
def zF:FS:=(bt (fu (cT (qY vc (ax ag d9))) (rj (c2 (A? δ) aa (rN ja))) rG)
 (rj (sT (qY vc (ax ag (a1 gR))) (c2 (fh δ) aa gS))))
def su:=e0 2 2 zF
def G4:FS:=(rj (sT (c2 yk aa bq) (qY vc (ax ag (a1 (cS "here"))))))
def vE:=e0 2 2 G4
def Lx:FS:=(rj (C' (cT (c1 (r6 (sG "str")) ag)) (se vd "thing_of" aa cD) bq))
def xI:=e0 2 2 Lx
def Ca:FS:=(rj (sT (c2 yk (qY xI fX) bq) (c2 (fh δ) (c1 (ra sr "kind") (qY xI fX)) ai)))
def wD:=e0 3 3 Ca
abbrev jl:=(ax aa bQ)
def G5:FS:=(rj (M? (qY su cZ) (M? (qY vE cZ) (c2 yk (qY xI jl) bq))))
def yz:=e0 3 3 G5
def Bo:FS:=(bt (fu (vX (cT (qY su cZ)) (cT (qY vE cZ))) (rj eX) rG)
 (rj (sT (c2 yk (qY xI jl) bq) (se sM "can_hold" (qY xI jl) rK))))
def zb:=e0 3 3 Bo
def Bp:FS:=(bt (fu (cT (qY su cZ)) (rj eX) rG)
 (rj (sT (c2 yk (qY xI jl) bq) (EY (qY wD (ax aa (ax ai fW)))))))
def Bq:=e0 3 3 Bp
def uK:FS:=(bt (fu (vX (tT (cT (qY xb gX))) (cT (c2 Ka aG aS))) (rj cJ) rG)
 (bt (fu (cT (qY su cZ)) (rj (c2 vY aG (cC xF))) rG)
 (bt (rO 4 (C' (cT (c1 (r6 (sG "str")) ai)) (se vI "most_of" aa bQ) bq))
 (rj (sT (c2 yk aU bq) (c2 vY aG aU))))))
def uL:=e0 4 5 uK
abbrev jg:=(ax aa (ax ag (a1 (c1 (ra u9 "term") ai))))
abbrev o3:=(ax aa (ax ag (a1 (c1 (ra AA "place") ai))))
def CV:FS:=(bt (fu (vX (tT (cT (qY Bq jg))) (tT (cT (qY zb o3)))) (rj cJ) rG)
 (rj (M? (c2 (fh γ) (c1 (ra u9 "term") ai) (se AD "you" aa rK)) (qY wD (ax aa (ax (c1 (ra AA "place") ai) fW))))))
def CW:=e0 3 3 CV
def G6:FS:=(rj (sT (c1 (r6 (sG "str")) aa) (uG vY vY aL (c1 ux aa) (cC BY))))
def yA:=e0 1 1 G6
def Ab:FS:=(rj (sT (qY uE cD) (sT (c2 yk (se uf "verb_of" aa cD) bq) (c2 (fh δ) (c1 (ra rD "name") (se uf "verb_of" aa cD)) ag))))
def xm:=e0 2 2 Ab
def xJ:FS:=(rj (sT (c1 (r6 (sG "bool")) (c1 (ra vP "refuses") aa)) (M? (EY (c1 (ra vP "refuses") aa)) (c2 X' (c1 (ra wM "deeds") aa) (cL (rB rK))))))
def ve:=e0 1 1 xJ
abbrev oW:=(ax aa (ax ag (ax (c1 (ra u9 "term") ai) (a1 (c1 (ra CN "value") ai)))))
def sE:FS:=(bt (fu (cT (c1 (r6 YU) ai)) (rj (sT (qY yz jg) (qY zb o3))) rG)
 (bt (fu (cT (c1 (r6 (tOr Tg Pa)) ai)) (rj (qY yz jg)) rG)
 (bt (fu (cT (c1 (r6 Ju) ai)) (rj (qY uL oW)) rG)
 (bt (fu (cT (c1 (r6 O5) ai)) (rj (sT (qY yz jg) (qY rX (ax (c1 (ra sr "kind") ai) (a1 (cC AB)))))) rG)
 (bt (fu (cT (c1 (r6 Pc) ai)) (rj (sT (c2 (fh δ) ag fi) (qY tK (a1 (c1 (ra Fs "word") ai))))) rG)
 (rj (c1 (r6 Ti) ai)))))))
def wu:=e0 3 3 sE
abbrev kT:=(a1 (c2 E6 aG aL))
def uW(g:List D->Option D):FS:=(bt (fu (cT (c2 (fh δ) aG aS)) (rj cJ) rG)
 (bt (fu (cT (c1 (r6 O8) ai)) (rj (qY g (ax aa (ax ag (ax (c1 (ra CL "inner") ai) kT))))) rG)
 (bt (fu (cT (c1 (r6 Kt) ai)) (rj (sT (qY g (ax aa (ax ag (ax (c1 (ra HU "one") ai) kT)))) (qY g (ax aa (ax ag (ax (c1 (ra CM "other") ai) kT)))))) rG)
 (rj (qY wu jm)))))
def uX:Nat->List D->Option D
 |0=>e0 4 4 Ke
 |n+1=>e0 4 4 (uW (uX n))
def AE:FS:=(bt (fu (cT (c1 (r6 Tj) ai)) (rj (qY uL oW)) rG)
 (rj (sT (c1 (r6 O7) ai) (qY CW jm))))
def CY:=e0 3 3 AE
def DZ:FS:=(rj (sT (qY sh (ax ai (a1 (cC BW)))) (c1 vZ (cL (rh 1 [0,1] (iL ai) (gN 0) sf (qY (uX 4) (ax ag (ax ai (ax aa (a1 (cC DI)))))))))))
def Ac:=e0 3 3 DZ
def D1:FS:=(rj (sT (qY sh (ax ai (a1 (cC BX)))) (c1 vZ (cL (rh 1 [0,1] (iL ai) (gN 0) sf (qY CY (ax ag (ax ai bE))))))))
def Ad:=e0 3 3 D1
abbrev o7:=(a1 (c1 (ra uI "verb") ag))
def CZ:FS:=(bt (fu (vX (tT (cT (c1 (r6 O9) ag))) (vX (tT (cT (qY xm (ax aa o7)))) (tT (cT (qY yA (a1 (c1 (ra BV "text") ag))))))) (rj cJ) rG)
 (bt (rO 2 (c1 (ra zT "form") (se uf "verb_of" aa o7)))
 (rj (sT (qY Ac (ax aa (ax ai (a1 (c1 (ra yq "tests") ag))))) (sT (qY Ad (ax aa (ax ai (a1 (c1 (ra wM "deeds") ag))))) (qY ve cD))))))
def Da:=e0 2 3 CZ
def vg:FS:=(bt (rq (qY x8 (ax ag (ax ai (ax aG (ax aU (ax bw (a1 (cL (sQ vb rK))))))))))
 (bt (rY 14 0 "kept_things" (cL (ue ag)))
 (bt (rY 14 0 "kept_marks" (cL (ue ai)))
 (bt (rY 14 0 "kept_dark" (cL (ue aG)))
 (bt (rY 14 0 "kept_ways" (cL (ue aU)))
 (bt (rY 14 0 "kept_verbs" (cL (ue bw)))
 (bt (rY 14 0 "shared_verbs" (cL (sQ vb rK)))
 (bt (rY 14 0 "your_name" (AN 16 (c2 ew (se ya "of_kind" aa (a1 gU)) aS)))
 (bt (rY 14 0 "things_by_name" (qY CT cD))
 (bt (rY 14 0 "mosts_by_name" (qY wj cZ))
 (bt (rY 14 0 "verbs_by_word" (AN 16 (qY uJ (a1 (se wm "all_verbs" aa rK)))))
 (bt (rO 7 (AN 16 (sT (qY sh (ax bj (a1 (cC B3)))) (c1 vZ (cL (rh 1 [0] (iL bj) (gN 0) sf (qY Da hG)))))))
 (bt (rq (qY ri (ax bY (a1 (cS "rules are a list of at most 20 rules, each as it may be")))))
 (bt (rY 14 0 "kept_rules" (cL (ue bj)))
 (bt (rY 14 0 "shared_rules" (AN 16 (cL (sQ xl (ax (c1 (ra xW "your_name") aa) gY)))))
 (bt (rY 14 0 "copied_rules" (cL (rh 1 [] (iL bj) (gN 0) sf (qY CU bE))))
 (rY 14 0 "rules_by_verb" (AN 16 (qY G2 (a1 (cL (tS (c1 (ra vz "copied_rules") aa) (c1 (ra yn "shared_rules") aa)))))))))))))))))))))))
def sJ:=tH 14 6 8 vg
def AV:FS:=(sq (rh 1 [] (iL (c1 (ra v8 "kept_things") aa)) (gN 0) sf (c1 (ra rD "name") aa)))
def AW:=e0 1 1 AV
def xK:Nat->Option (List D->Option D):=λc=>match c with
 |14=>Z AW
 |_=>U
def xM:FS:=(sq (ue (c1 (ra wY "kept_marks") aa)))
def Cb:=e0 1 1 xM
def xn:List D->Option (List D):=pk 1 1 (sq (ue (c1 (ra wY "kept_marks") aa)))
def uM:Nat->Option (List D->Option D):=λc=>match c with
 |14=>Z Cb
 |_=>U
def yB:FS:=(sq (ue (c1 (ra xV "kept_ways") aa)))
def Dc:=e0 1 1 yB
def xN:List D->Option (List D):=pk 1 1 (sq (ue (c1 (ra xV "kept_ways") aa)))
def vh:Nat->Option (List D->Option D):=λc=>match c with
 |14=>Z Dc
 |_=>U
def xO:FS:=(sq (ue (c1 (ra u7 "kept_verbs") aa)))
def Cc:=e0 1 1 xO
def xp:List D->Option (List D):=pk 1 1 (sq (ue (c1 (ra u7 "kept_verbs") aa)))
def uN:Nat->Option (List D->Option D):=λc=>match c with
 |14=>Z Cc
 |_=>U
def xP:FS:=(sq (ue (c1 (ra wZ "kept_rules") aa)))
def Cd:=e0 1 1 xP
def xq:List D->Option (List D):=pk 1 1 (sq (ue (c1 (ra wZ "kept_rules") aa)))
def zG:Nat->Option (List D->Option D):=λc=>match c with
 |14=>Z Cd
 |_=>U
def xt:FS:=(sq (ue (c1 (ra xU "kept_dark") aa)))
def Br:=e0 1 1 xt
def wz:List D->Option (List D):=pk 1 1 (sq (ue (c1 (ra xU "kept_dark") aa)))
def uF:Nat->Option (List D->Option D):=λc=>match c with
 |14=>Z Br
 |_=>U
def vm:FS:=(sq (ue (c1 (ra vz "copied_rules") aa)))
def zc:=e0 1 1 vm
def uA:Nat->Option (List D->Option D):=λc=>match c with
 |14=>Z zc
 |_=>U
abbrev oX:=(ax (c1 (ra u9 "term") aa) (a1 (c1 (ra AA "place") aa)))
def G7:FS:=(rj (rN (ax (cS "at") oX)))
def G8:=e0 1 1 G7
abbrev o8:=(a1 (c1 (ra u9 "term") aa))
def FJ:FS:=(rj (rN (ax (cS "has") o8)))
def FK:=e0 1 1 FJ
def D2:FS:=(rj (rN (ax (cS "seen") o8)))
def D3:=e0 1 1 D2
abbrev oY:=(ax (c1 (ra u9 "term") aa) (a1 (c1 (ra CN "value") aa)))
def AX:FS:=(rj (rN (ax (cS "marked") oY)))
def AY:=e0 1 1 AX
def D5:FS:=(rj (rN (ax (cS "kind") (ax (c1 (ra u9 "term") aa) (a1 (c1 (ra sr "kind") aa))))))
def D6:=e0 1 1 D5
def D7:FS:=(rj (rN (ax (cS "word") (a1 (c1 (ra Fs "word") aa)))))
def D8:=e0 1 1 D7
def FL:FS:=(rj (rN (a1 (cS "lit"))))
def FM:=e0 1 1 FL
abbrev jc:=(cS "move")
def D9:FS:=(rj (rN (ax jc oX)))
def Ea:=e0 1 1 D9
def FN:FS:=(rj (rN (ax d8 oY)))
def FP:=e0 1 1 FN
def Bs(g:Nat->Option (List D->Option D)):FS:=(rj (rN (ax (cS "not") (a1 (se g "told" (c1 (ra CL "inner") aa) rK)))))
def Ae(g:Nat->Option (List D->Option D)):FS:=(rj (rN (ax (cS "both") (ax (se g "told" (c1 (ra HU "one") aa) rK) (a1 (se g "told" (c1 (ra CM "other") aa) rK))))))
def Ag:Nat->Option (List D->Option D):=λc=>match c with
 |3=>Z G8
 |4=>Z FK
 |5=>Z D3
 |6=>Z AY
 |7=>Z D6
 |8=>Z D8
 |11=>Z Ea
 |12=>Z FP
 |15=>Z FM
 |_=>U
def sI:Nat->Nat->Option (List D->Option D)
 |0=>Ag
 |n+1=>λc=>match c with
  |9=>Z (e0 1 1 (Bs (sI n)))
  |10=>Z (e0 1 1 (Ae (sI n)))
  |c=>Ag c
def HV(g:List D->Option D):FS:=(bt (rO 1 (rN rK))
 (bt (uH (iT aa) (gN 2) (rO 1 (DH ag (C' (cT (c1 (r6 (sG "tuple")) ai)) (qY g bQ) (rN bQ)))))
 (rj ag)))
def wx:Nat->List D->Option D
 |0=>e0 1 3 Ke
 |n+1=>e0 1 3 (HV (wx n))
abbrev fj:=(cS " ")
def Jw:FS:=(rj (c2 j0 fj (cL (rh 1 [] (iT aa) (gN 0) sf (C' (cT (c2 yK aa bq)) (cC CO) (c1 oy aa))))))
def sN:=e0 1 1 Jw
def Eb:FS:=(rj (qY sN (a1 (wX (rN (ax (cS "thing") (ax (c1 (ra rD "name") aa) (ax (c1 (ra sr "kind") aa) o6)))) (c1 (ra tJ "words") aa)))))
def xQ:=e0 1 1 Eb
abbrev oP:=(a1 (qY sN (a1 (rN (ax (cS "rule") (ax (c1 (ra uI "verb") aa) (ax (C' (cT (c1 (ra vP "refuses") aa)) (cS "refuses") (cS "does")) (a1 (c1 (ra BV "text") aa)))))))))
abbrev oU:=(a1 (se (sI 2) "told" aa rK))
abbrev pb:=(a1 (wX (rN (a1 (cS "when"))) (qY (wx 3) oU)))
abbrev pd:=(a1 (wX (rN (a1 (cS "then"))) (qY (wx 3) oU)))
def Ec:FS:=(bt (sZ 1 (rB oP))
 (bt (rq (yj 1 (rh 1 [] (iL (c1 (ra yq "tests") aa)) (gN 0) sf (qY sN pb))))
 (bt (rq (yj 1 (rh 1 [] (iL (c1 (ra wM "deeds") aa)) (gN 0) sf (qY sN pd))))
 (sq (El 1)))))
def Ah:=pk 1 2 Ec
abbrev oQ:=(a1 (wX (rN (ax (cS "verb") (ax (c1 (ra rD "name") aa) (ax (c1 (ra zT "form") aa) pj)))) (c1 (ra t7 "others") aa)))
abbrev oR:=(a1 (rN (ax (cS "mark") (ax (c1 (ra rD "name") aa) (ax (c1 (ra sU "start") aa) pq)))))
abbrev o9:=(a1 (wX (rN (a1 fi)) aa))
abbrev pe:=(a1 (se vd "thing_of" ag bE))
abbrev px:=(a1 (rN (ax (cS "dark") bE)))
def Ce:FS:=(bt (sZ 1 (rh 1 [0] (iL (se xK "names" aa rK)) (gN 0) sf (qY xQ pe)))
 (bt (rq (yj 1 (rh 1 [] (iL (se uM "own_marks" aa rK)) (gN 0) sf (qY sN oR))))
 (bt (rq (yj 1 (rh 1 [] (iL (se uF "dark_rooms" aa rK)) (gN 0) sf (qY sN px))))
 (bt (rq (yj 1 (rh 1 [] (iL (se vh "own_ways" aa rK)) (gN 0) sf (qY sN o9))))
 (bt (rq (yj 1 (rh 1 [] (iL (se uN "own_verbs" aa rK)) (gN 0) sf (qY sN oQ))))
 (bt (uH (iL (se uA "rules_to_write" aa rK)) (gN 2) (rq (yj 1 (sQ Ah bQ))))
 (rj (HL (c2 j0 (cS "\n") ag)))))))))
def tD:=e0 1 3 Ce
def Ai:FS:=(bt (fu (cT (c2 Ka ag (c1 ux aa))) (rj (c2 ew aa ag)) rG)
 (rj aS))
def vn:=e0 2 2 Ai
abbrev kM:=(cC (.int 2147483647))
def zd:FS:=(bt (sZ 2 (rB rK))
 (bt (rO 3 aa)
 (bt (uH (D? ag) (gN 4) (fu (vw (cT (c2 UX aa (c2 Oa (cC (.int 10)) (cC (.int 18))))) (cT (c2 MC aG aS))) (bt (rq (uP 2 (c2 rM aG (cC (.int 10007)))))
 (rO 3 (c2 sF aG (cC (.int 10007))))) (bt (rO 5 (c2 rM (c2 vO (c2 sC (c2 sC (c2 rM aa kM) (c2 vO (cC (.int 7919)) aU)) aL) (cC (.int 48271))) kM))
 (bt (rO 5 (c2 rM (c2 vO bw (c2 sC (c2 sF bw (cC (.int 1009))) (cC (.int 69621)))) kM))
 (rq (uP 2 (c2 rM (c2 vO bw (c2 sC (c2 sF bw (cC (.int 2003))) (cC (.int 40692)))) (cC (.int 2147483399)))))))))
 (sq (El 2)))))
def vo:=pk 2 6 zd
def ze:FS:=(bt (rO 1 (cL (rB (ax (cS "b") (ax (cS "ba") (ax (cS "bab") (ax (cS "babe") (ax (cS "c") (ax (cS "cab") (ax (cS "not") (ax gZ (ax (cS "lit") (ax fV (ax (cS "x") (ax (cS "xx") (ax hE (ax (cS "both") (a1 (cS "zz")))))))))))))))))))
 (bt (rO 1 (cL (tS ag (cL (rB (ax (cS "hall") (a1 (cS "seen"))))))))
 (bt (rO 2 (c2 ew (cL (rB (ax (cS "") (ax (cS "") (ax (cS "q") (a1 (cS "ek"))))))) (c2 rM (c2 ew aa aS) cB)))
 (sq (rh 1 [2,1,0] (D? (cC (.int 14))) (gN 0) sf (c2 AL ag (c2 ew ai (c2 rM (c2 sC (c2 ew aG aL) (c2 vO aa (c2 sC aL (c2 rM (c2 ew aG bX) (cC (.int 16)))))) (cC (.int 17))))))))))
def zf:=e0 1 3 ze
abbrev ck:=(cC (.int 5))
abbrev dh:=(cC (.int 7))
abbrev eZ:=(cC (.int 6))
abbrev fU:=(cC (.int 8))
abbrev oV:=(ax aL (ax aL (ax bX (ax bX (ax cB (ax eZ (ax dh (a1 (cC (.int 24))))))))))
def Cf:FS:=(bt (rO 2 (cL (rB (ax (cS "red") (ax (cS "re") (ax (cS "taken") (ax (cS "old") (a1 (cS "openly")))))))))
 (bt (rO 3 (cL (rB (ax (cS "key") (ax (cS "keys") (ax (cS "bowl") (ax (cS "b") (a1 (cS "nothing")))))))))
 (bt (rO 4 (c2 rM (c2 sC (c2 ew aa bJ) (c2 vO ag (c2 ew (cL (rB oV)) (c2 rM (c2 ew aa cB) fU)))) (cC (.int 25))))
 (bt (rO 5 (c2 ew (cL (rB (ax (cS "") (ax (cS "q") (a1 (cS "zu")))))) (c2 rM (c2 ew aa ck) bJ)))
 (bt (sZ 6 (rB (ax (c2 AL (c2 ew ai (c2 rM aU ck)) bw) (a1 (c2 AL (c2 ew aG (c2 sF aU ck)) bw)))))
 (bt (fu (cT (c2 (fh δ) (c2 rM (c2 sF (c2 ew aa eZ) (c2 sC aL ag)) bJ) aS)) (rq (ZX 6 (c2 rM (c2 sF (c2 ew aa dh) (c2 sC aL ag)) bJ) (c2 ew (cL (rB (ax (cS "x") (ax (cS "dusty") (a1 (cS "most")))))) (c2 rM (c2 sF (c2 ew aa fU) (c2 sC aL ag)) bJ)))) rG)
 (rj (Lg (vu 6)))))))))
def zg:=e0 2 7 Cf
abbrev bT:=(cV 8)
abbrev dj:=(cV 9)
abbrev je:=(cC (.int 12))
abbrev fq:=(a1 bq)
def AZ:FS:=(bt (rO 2 (cL (Gg ag oNo (T1 (c2 sC aL (c2 rM (c2 ew aa (cC (.int 9))) bJ))))))
 (bt (rO 3 (c2 ew ag bJ))
 (bt (sZ 4 (rh 1 [] (iL ai) (gN 0) sf (rN (ax aa (ax (rN fW) (ax dE fq))))))
 (bt (rO 5 (c2 ew ai (c2 rM (c2 ew aa (cC (.int 10))) (c1 ux ai))))
 (bt (rq (uP 4 (rN (ax aG (ax (rN (ax (cS "me") (a1 (cS "myself")))) (ax gU (a1 bw)))))))
 (bt (sZ 6 (tS ai (cL (rB (ax aG (ax bw (ax bw gX)))))))
 (bt (uH (D? (c2 rM (c2 ew aa (cC (.int 11))) eZ)) (gN 7) (bt (rO 8 (c2 ew (cL (rB (ax (cS "plain") (ax dF (ax fV (ax (cS "fixed") (a1 dF))))))) (c2 rM (c2 ew aa (c2 sC je bY)) ck)))
 (bt (rq (uP 4 (rN (ax (c2 ew ag (c2 sC cB bY)) (ax (qY zg (ax aa (a1 bY))) (ax bT (a1 (HL (c2 ew bj (c2 rM (c2 sF (c2 ew aa (c2 sC je bY)) ck) (c1 ux bj)))))))))))
 (fu (cT (c2 (fh δ) bT dF)) (rq (uP 6 (c2 ew ag (c2 sC cB bY)))) rG))))
 (bt (rO 9 (HL (c2 rM (c2 ew aa (cC (.int 18))) (c1 ux aU))))
 (sq (tS (cL (Gg (vu 4) (T1 dj) oNo)) (cL (Gg (vu 4) oNo (T1 dj)))))))))))))
def vJ:=e0 2 10 AZ
def Cg:FS:=(bt (sZ 2 (rB rK))
 (bt (uH (D? (c2 rM (c2 ew aa (cC (.int 19))) bJ)) (gN 3) (bt (rO 4 (c2 sC aL (c2 rM (c2 ew aa (c2 sC (cC (.int 20)) aG)) bJ)))
 (rq (uP 2 (rN (ax (c2 ew ag (c2 sC (cC (.int 10)) aG)) (ax (c2 rM (c2 sF (c2 ew aa (c2 sC (cC (.int 20)) aG)) bJ) (c2 sC aU aL)) gY)))))))
 (sq (El 2))))
def wF:=e0 2 5 Cg
def yC:FS:=(bt (rO 2 (cL (rh 1 [] (iL aa) (gN 0) (vX (cT (c2 (fh δ) (c2 ew aa bX) dF)) (cT (c2 (fh δ) (c2 ew aa bX) fV))) (rN (ax (c2 ew aa aS) (a1 aL))))))
 (sq (tS ai (cL (rh 1 [] (iL ag) (gN 0) sf (rN (ax (c2 ew aa aS) kQ)))))))
def vF:=e0 2 3 yC
abbrev o5:=(ax bT (ax dj (a1 (cV 10))))
def Ed:FS:=(bt (rO 3 (cL (rB (ax (cS "north") (ax (cS "up") (ax (cS "in") (ax (cS "n") (a1 (cS "upward")))))))))
 (bt (sZ 4 (rB rK))
 (bt (uH (D? (c2 rM (c2 ew aa (cC (.int 22))) ck)) (gN 5) (bt (rO 6 (c2 ew aa (c2 sC (cC (.int 23)) bw)))
 (bt (EZ (rN (ax (c2 ew ag (c2 rM bj (c1 ux ag))) (ax (c2 ew aG (c2 rM (c2 sF bj bJ) ck)) (a1 (c2 ew ag (c2 rM (c2 sF bj (cC (.int 15))) (c1 ux ag))))))) (gT (rP (gN 7) (rP (gN 8) (rP (gN 9) zv))) 3))
 (bt (rO 10 (c2 ew (cL (tS (cL (rB (ax bq fq))) (cL (rh 1 [] (iL ai) (gN 0) sf (c2 ew aa aS))))) (c2 rM (c2 sF bj (cC (.int 45))) (c2 sC bX (c1 ux ai)))))
 (fu (Fb (cT (c2 X' (cL (rh 1 [7,8] (iL aU) (gN 0) (cT (c2 (fh δ) (OV aa U (Z 2)) (rN cZ))) aa)) (cL (rB rK))))) (rq (uP 4 (rN (ax bY o5)))) rG)))))
 (sq (El 4)))))
def xR:=e0 3 11 Ed
abbrev kU:=(ax (cS "one") fq)
abbrev ph:=(ax (rN rK) (ax (cS "alone") fq))
def Ci:FS:=(bt (rO 1 (cL (rB (ax (rN (ax (cS "give") (ax (rN (ax (cS "hand") (a1 (cS "g")))) (ax gS (a1 (cS "to")))))) (ax (rN (ax (cS "hum") ph)) (a1 (rN (ax (cS "push") (ax (rN (a1 (cS "shove"))) kU)))))))))
 (bt (rO 1 (cL (tS ag (cL (rB (ax (rN (ax (cS "sail") (ax (rN (a1 (cS "s"))) (ax fi fq)))) (ax (rN (ax (cS "tie") (ax (rN rK) (ax gS (a1 (cS "with")))))) (a1 (rN (ax (cS "l") (ax (rN (ax (cS "look") (a1 (cS "peer")))) kU)))))))))))
 (sq (rh 1 [1,0] (D? eZ) (gN 0) (cT (c2 (fh δ) (c2 dAndI (c2 dShrI (c2 ew ai (cC (.int 28))) aa) aL) aL)) (c2 ew ag aa)))))
def zh:=e0 1 2 Ci
def A0:FS:=(bt (rO 0 (cL (rB oI)))
 (bt (rO 1 (cL (rh 1 [] (iL aa) (gN 0) sf (rN (ax aa (ax (rN rK) kU))))))
 (sq (tS ag (cL (rB (ax (rN o4) (ax (rN (ax (cS "go") (ax (rN rK) (ax fi fq)))) (a1 (rN (ax (cS "wait") ph)))))))))))
def yb:=pk 0 2 A0
abbrev kK:=(rP (gN 9) (rP (gN 10) zv))
abbrev di:=(cV 11)
abbrev jf:=(cC (.int 90))
abbrev kR:=(ax ag (ax ai (ax aG (ax aU (a1 (c2 E6 bw aL))))))
abbrev gW:=(ax cA (ax gR (a1 cA)))
def vS(g:List D->Option D):FS:=(bt (rO 6 (cL (tS ai (Dw (DE [("one", (cL (rB d9))),("two", (cL (rB gW)))]) ag (cL (rB rK))))))
 (bt (rO 7 (c2 ew bj (c2 rM (c2 sF aa (cC (.int 9))) (c1 ux bj))))
 (bt (rO 8 (c2 rM aa (cC (.int 9))))
 (bt (fu (cT (c2 (fh δ) bT aS)) (rj (rN (ax (cS "at") (ax bY (a1 (c2 ew aG (c2 rM (c2 sF aa jf) (c1 ux aG)))))))) rG)
 (bt (fu (vX (cT (c2 (fh δ) bT aL)) (cT (c2 (fh δ) bT bX))) (rj (rN (ax (c2 ew (cL (rB (ax (cS "has") (a1 (cS "seen"))))) (c2 E6 bT aL)) (a1 bY)))) rG)
 (bt (fu (vw (cT (c2 (fh δ) bT bJ)) (cT (c2 (fh γ) aU (cL (rB rK))))) (bt (EZ (c2 ew aU (c2 rM (c2 sF aa jf) (c1 ux aU))) (gT kK 2))
 (rj (rN (ax (cS "marked") (ax dj (a1 (c2 rM (c2 sF aa (cC (.int 900))) (c2 sC (cV 10) aL)))))))) rG)
 (bt (fu (cT (c2 (fh δ) bT cB)) (rj (rN (ax (cS "kind") (ax bY (a1 (c2 ew (cL (rB (ax (cS "plain") (ax dF (ax fV (a1 (cS "fixed"))))))) (c2 rM (c2 sF aa jf) cB))))))) rG)
 (bt (fu (vw (cT (c2 (fh δ) bT ck)) (cT (c2 (fh δ) ag fi))) (rj (rN (ax (cS "word") (a1 (c2 ew (cL (rB (ax (cS "north") (ax (cS "up") (a1 (cS "in")))))) (c2 rM (c2 sF aa jf) bJ)))))) rG)
 (bt (fu (vw (cT (c2 (fh δ) bT eZ)) (cT (c2 MC bw aL))) (rj (rN (ax (cS "not") (a1 (qY g (ax (c2 sF aa dh) kR)))))) rG)
 (bt (fu (vw (cT (c2 (fh δ) bT dh)) (cT (c2 MC bw aL))) (bt (rO 11 (qY g (ax (c2 sF aa (cC (.int 11))) kR)))
 (rj (rN (ax (cS "both") (ax di (a1 (qY g (ax (c2 sF aa (cC (.int 13))) kR)))))))) rG)
 (rj (rN (a1 (cS "lit"))))))))))))))
def sO:Nat->List D->Option D
 |0=>e0 6 12 Ke
 |n+1=>e0 6 12 (vS (sO n))
abbrev jb:=(cC (.int 50))
abbrev kO:=(ax jc (ax bj (a1 (c2 ew bw (c2 rM (c2 sF aa jb) (c1 ux bw))))))
abbrev kP:=(ax jc (ax bT (a1 (c2 ew aG (c2 rM (c2 sF aa jb) (c1 ux aG))))))
abbrev oZ:=(ax d8 (ax cA (a1 (c2 rM (c2 sF aa jb) cB))))
def Aj:FS:=(bt (rO 7 (cL (tS ai (Dw (DE [("one", (cL (rB d9))),("two", (cL (rB gW)))]) ag (cL (rB rK))))))
 (bt (rO 8 (c2 ew bY (c2 rM (c2 sF aa ck) (c1 ux bY))))
 (bt (fu (vw (cT (c2 (fh δ) (c2 rM aa ck) aS)) (cT (c2 (fh γ) aU (cL (rB rK))))) (bt (EZ (c2 ew aU (c2 rM (c2 sF aa jb) (c1 ux aU))) (gT kK 2))
 (rj (rN (ax d8 (ax dj (a1 (c2 rM (c2 sF aa (cC (.int 500))) (c2 sC (cV 10) aL)))))))) rG)
 (bt (fu (vw (cT (c2 (fh δ) (c2 rM aa ck) aL)) (cT (c2 (A? δ) ag (rN ja)))) (rj (rN oZ)) rG)
 (bt (fu (cT (c2 (fh δ) bT bj)) (rj (rN kO)) rG)
 (rj (rN kP)))))))
def vT:=e0 7 11 Aj
abbrev oG:=(ax (cS "So be it.") (ax (cS " two  blanks ") (ax (cS "x") (ax (cS "refuses at it") (a1 (c2 Lj (cS "~") (cC (.int 60))))))))
abbrev oK:=(ax (cV 13) (ax (cV 17) (ax (cV 19) (ax (cV 20) (a1 (cV 18))))))
abbrev dG:=(cV 12)
def zi:FS:=(bt (rO 4 (cL (sQ vo (ax aa (a1 (cC (.int 40)))))))
 (bt (rO 5 (cL (rh 1 [] (iL ag) (gN 0) (cT (c2 (fh δ) (c2 ew aa bX) dE)) (c2 ew aa aS))))
 (bt (rO 6 (c2 ew (cL (rh 1 [] (iL ag) (gN 0) (cT (c2 (fh δ) (c2 ew aa bX) gU)) (c2 ew aa aS))) aS))
 (bt (rO 7 (cL (rh 1 [] (iL ag) (gN 0) (cT (c2 (fh γ) (c2 ew aa bX) dE)) (c2 ew aa aS))))
 (bt (rO 8 (cL (tS (cL (tS bw (cL (rB (ax bj (a1 (cS "here"))))))) (cL (rh 1 [] (iL ag) (gN 0) (cT (c2 (fh δ) (c2 ew aa bX) dF)) (c2 ew aa aS))))))
 (bt (rO 9 (cL (tS aG (cL (sQ yb rK)))))
 (bt (sZ 10 (rB rK))
 (bt (uH (D? (c2 rM (c2 ew aU aS) ck)) (gN 11) (bt (rO 12 (cL (Gg aU (T1 (c2 sC aL (c2 vO dh di))) (T1 (c2 sC fU (c2 vO dh di))))))
 (bt (EZ (c2 ew dj (c2 rM (c2 ew dG aS) (c1 ux dj))) (gT (rP (gN 13) (rP (gN 14) (rP (gN 15) (rP (gN 16) zv)))) 4))
 (bt (rO 17 (cL (rh 1 [15,7,8,2,12] (D? (c2 rM (c2 ew dG aL) bJ)) (gN 0) sf (qY (sO 3) (ax (c2 ew bw (c2 sC bX aa)) (ax ag (ax ai (ax aG (ax aU (a1 bJ))))))))))
 (bt (rO 18 (c2 (fh δ) (c2 rM (c2 sF (c2 ew dG aL) bJ) cB) aS))
 (bt (rO 19 (cL (rh 1 [15,7,8,2,5,6,12] (D? (c2 rM (c2 sF (c2 ew dG aL) je) bJ)) (gN 0) sf (qY vT (ax (c2 ew bY (c2 sC cB aa)) (ax ag (ax ai (ax aG (ax aU (ax bw (a1 bj)))))))))))
 (bt (fu (cT (cV 18)) (rO 19 (cL (rB rK))) rG)
 (bt (rO 20 (c2 ew (cL (rB oG)) (c2 rM (c2 ew dG eZ) ck)))
 (rq (uP 10 (rN oK)))))))))))
 (sq (El 10))))))))))
def wG:=e0 4 21 zi
def zj:FS:=(bt (rO 1 (cL (sQ vo (ax (qY vn (ax aa (a1 aS))) (a1 (cC (.int 32)))))))
 (bt (rO 2 (qY zf cD))
 (bt (rO 3 (qY vJ cZ))
 (bt (rO 4 (qY wF cZ))
 (bt (rO 5 (cL (rh 1 [] (iL aG) (gN 0) (cT (c2 (fh δ) (c2 ew aa bX) dE)) (c2 ew aa aS))))
 (bt (rO 6 (qY vF (ax aG gY)))
 (bt (rO 7 (cL (rh 1 [5,1] (D? (c1 ux bw)) (gN 0) (cT (c2 (fh δ) (c2 rM (c2 sF (c2 ew ai (cC (.int 29))) (c2 ew (cL (rB (ax aL (ax cB (a1 (cC (.int 16))))))) aa)) cB) aL)) (c2 ew ag aa))))
 (bt (rO 8 (qY zh cD))
 (bt (rO 9 (qY wG (ax (qY vn (ax aa (a1 aL))) (ax aG (ax bj (a1 bT))))))
 (rj (rN (ax aG (ax aU (ax bY (ax (qY xR (ax ag (ax bw (a1 bj)))) (ax bT (a1 dj)))))))))))))))))
def zk:=e0 1 10 zj
abbrev gV:=(ax (c2 ew aa aL) (a1 (c2 ew aa bX)))
def wH(g:List D->Option D):FS:=(bt (fu (cT (c2 (fh δ) (c2 ew aa aS) (cS "at"))) (rj (rJ 3 (λa=>AC (a++[])) gV)) rG)
 (bt (fu (cT (c2 (fh δ) (c2 ew aa aS) (cS "has"))) (rj (rJ 4 (λa=>yZ (a++[])) fo)) rG)
 (bt (fu (cT (c2 (fh δ) (c2 ew aa aS) (cS "seen"))) (rj (rJ 5 (λa=>DO (a++[])) fo)) rG)
 (bt (fu (cT (c2 (fh δ) (c2 ew aa aS) (cS "marked"))) (rj (rJ 6 (λa=>sS (a++[])) gV)) rG)
 (bt (fu (cT (c2 (fh δ) (c2 ew aa aS) (cS "kind"))) (rj (rJ 7 (λa=>tV (a++[])) gV)) rG)
 (bt (fu (cT (c2 (fh δ) (c2 ew aa aS) (cS "word"))) (rj (rJ 8 (λa=>zY (a++[])) fo)) rG)
 (bt (fu (cT (c2 (fh δ) (c2 ew aa aS) (cS "not"))) (rj (rJ 9 (λa=>t8 (a++[])) (a1 (qY g fo)))) rG)
 (bt (fu (cT (c2 (fh δ) (c2 ew aa aS) (cS "both"))) (rj (rJ 10 (λa=>DS (a++[])) (ax (qY g fo) (a1 (qY g kQ))))) rG)
 (rj (WX 15))))))))))
def ua:Nat->List D->Option D
 |0=>e0 1 1 Ke
 |n+1=>e0 1 1 (wH (ua n))
def Ee:FS:=(bt (fu (cT (c2 (fh δ) (c2 ew aa aS) jc)) (rj (rJ 11 (λa=>uV (a++[])) gV)) rG)
 (rj (rJ 12 (λa=>vA (a++[])) gV)))
def Ak:=e0 1 1 Ee
abbrev oM:=(rP (gN 2) (rP (gN 3) (rP (gN 4) (rP (gN 5) zv))))
def Al:FS:=(bt (EZ aa (gT (rP (gN 1) oM) 5))
 (bt (rO 6 (cL (rh 1 [] (iL ai) (gN 0) sf (qY (ua 3) bE))))
 (bt (fu (tT (cT bw)) (rj (rJ 13 (λa=>tW (a++[(D.I δ)])) (ax ag (ax bj (ax (cL (rh 1 [] (iL aG) (gN 0) sf (qY Ak bE))) gY))))) rG)
 (rj (rJ 13 (λa=>tW (a++[])) (ax ag (ax bj (ax (cL (rB rK)) (ax aU (a1 bw))))))))))
def Am:=e0 1 7 Al
abbrev oO:=(rP (gN 5) (rP (gN 6) zv))
def zl:FS:=(bt (EZ aa (gT (rP (gN 1) (rP (gN 2) (rP (gN 3) (rP (gN 4) oO)))) 6))
 (bt (sZ 7 (rB rK))
 (bt (uH (iL ag) (gT (rP (gN 8) (rP (gN 9) (rP (gN 10) (rP (gN 11) zv)))) 4) (fu (cT (c2 yK di bq)) (rq (uP 7 (rJ 0 (λa=>tu (a++[D.E])) o5))) (rq (uP 7 (rJ 0 (λa=>tu (a++[])) (ax bT (ax dj (ax (cV 10) (a1 di)))))))))
 (bt (rO 12 (cL (rh 3 [] (iL ai) (gT (rP (gN 0) (rP (gN 1) (rP (gN 2) zv))) 3) sf (rJ 1 (λa=>DM (a++[])) jm))))
 (bt (rO 13 (cL (rh 4 [] (iL bw) (gT (rP (gN 0) (rP (gN 1) (rP (gN 2) (rP (gN 3) zv)))) 4) sf (rJ 2 (λa=>tU (a++[])) (ax aa (ax ag (ax ai gX)))))))
 (rj (rJ 14 (λa=>sJ (a++[])) (ax (vu 7) (ax dG (ax (cL (ue aG)) (ax (cL (ue aU)) (ax (cV 13) (a1 (cL (rh 1 [] (iL bj) (gN 0) sf (qY Am bE))))))))))))))))
def zm:=e0 1 14 zl
def Ef:FS:=(bt (fu (cT (c2 yK aa bq)) (rj (cS "-")) rG)
 (rj aa))
def vU:=e0 1 1 Ef
def vK(g:List D->Option D):FS:=(bt (sZ 1 (rB rK))
 (bt (uH (iT aa) (gN 2) (fu (cT (c1 (r6 (sG "tuple")) ai)) (rq (uP 1 (qY g bQ))) (rq (uP 1 (c1 oy ai)))))
 (rj (HL (c2 j0 fj ag)))))
def sj:Nat->List D->Option D
 |0=>e0 1 3 Ke
 |n+1=>e0 1 3 (vK (sj n))
abbrev oN:=(ax (cS "does") (a1 (cS "refuses")))
def Eg:FS:=(bt (sZ 1 (rB rK))
 (bt (uH (iL (c2 ew aa aS)) (gT oM 4) (rq (uP 1 (c2 j0 fj (cL (tS (cL (rB (ax (cS "thing") (ax ai (ax aU (a1 (qY vU (a1 bw)))))))) (cL (ue aG))))))))
 (bt (uH (iL (c2 ew aa aL)) (gT (rP (gN 2) oO) 3) (rq (uP 1 (c2 j0 fj (cL (rB (ax (cS "mark") (ax ai (ax (c1 oy bw) (a1 (c1 oy bj)))))))))))
 (bt (sZ 1 (tS (vu 1) (cL (rh 1 [] (iL (c2 ew aa bX)) (gN 0) sf (c2 AL (cS "dark ") aa)))))
 (bt (uH (iL (c2 ew aa bJ)) (gT (rP (gN 7) (rP (gN 8) kK)) 4) (rq (uP 1 (c2 j0 fj (cL (rB (ax fi (ax bY (ax bT (ax dj (a1 (qY vU (a1 (cV 10))))))))))))))
 (bt (uH (iL (c2 ew aa cB)) (gT (rP (gN 2) (rP (gN 11) (rP (gN 12) (rP (gN 13) zv)))) 4) (rq (uP 1 (c2 j0 fj (cL (tS (cL (rB (ax (cS "verb") (ax ai (ax dG (a1 (qY vU (a1 (cV 13))))))))) (cL (ue di))))))))
 (bt (uH (iL (c2 ew aa ck)) (gT (rP (gN 14) (rP (gN 15) (rP (gN 16) (rP (gN 17) (rP (gN 18) zv))))) 5) (bt (rq (uP 1 (c2 j0 fj (cL (rB (ax (cS "rule") (ax (cV 14) (ax (c2 ew (cL (rB oN)) (c1 Ry (cV 18))) (a1 (cV 17))))))))))
 (bt (sZ 1 (tS (vu 1) (cL (rh 1 [] (iL (cV 15)) (gN 0) sf (c2 AL (cS "when ") (qY (sj 3) bE))))))
 (sZ 1 (tS (vu 1) (cL (rh 1 [] (iL (cV 16)) (gN 0) sf (c2 AL (cS "then ") (qY (sj 3) bE)))))))))
 (sq (El 1)))))))))
def An:=e0 1 19 Eg
abbrev oH:=(ax (cL (rB rK)) (ax (cL (rB rK)) (ax (cL (rB rK)) (ax (cL (rB rK)) (a1 (cL (rB rK)))))))
abbrev oJ:=(ax (cS "me") (ax (rN (a1 (cS "i"))) (ax (cS "you") (a1 (cS "hall")))))
abbrev pf:=(ax (cS "hall") (ax (rN fW) fW))
def Ly:FS:=(bt (rO 1 (qY zk bE))
 (bt (rO 2 (qY zm cD))
 (bt (rO 3 (c2 j0 (cS "\n") (qY An cD)))
 (bt (rO 4 (qY tD bQ))
 (bt (fu (vX (tT (cT (c1 (r6 (sG "str")) aU))) (cT (c2 (fh γ) aU aG))) (rj cJ) rG)
 (bt (S? 5 2 14 [("own_rules", xq),("own_verbs", xp),("own_ways", xN),("dark_rooms", wz),("own_marks", xn)])
 (bt (rO 6 (rJ 14 (λa=>sJ (a++[])) (ax (cL (rB (ax (rJ 0 (λa=>tu (a++[D.E])) pf) (a1 (rJ 0 (λa=>tu (a++[])) oJ))))) oH)))
 (bt (fu (cT (c2 (fh γ) (qY tD (a1 bj)) (cS "thing hall room - room\nthing me you hall i"))) (rj cJ) rG)
 (rj (sT (c2 (fh δ) (qY tD bQ) aG) (c2 (fh δ) aU aG)))))))))))
def Tn:=e0 1 7 Ly
section
variable{k:Nat}{er:List Nat}{g:FG}{ft:FT}{fe e:FE}{s:FA}{ρ ρ1 ρ2:aO}{α:Type}
def uc{m:L4.D}(h:e ρ=Z (.I γ,ρ1)):rq (qY ri (ax e (ax (cC m) rK))) ρ=Z (.nx ρ1):=sW (qX (qW h J) J)
def sR(c h:α->L4.D)(l:List α)(f:s ρ=Z (l.map c,ρ1))(d:l.length<=1000)(st:∀a∈l,∃ρ2 b,g (c a) (Em k er ρ1)=Z ρ2/\fe ρ2=Z (h a,b)/\vx er (b.drop k) ρ1=Z ρ1):
  rh k er s g sf fe ρ=Z (l.map h,ρ1):=(Lh f (by rw[ae];exact d)).t (R0 c h l st)
def vp(d h:α->L4.D)(p:α->Bool)(l:List α)(i:s ρ=Z (l.map d,ρ1))(f:l.length<=1000)
  (st:∀a∈l,∃ρ2 b,g (d a) (Em k er ρ1)=Z ρ2/\ft ρ2=Z (p a,b)/\(p a=γ->∃c,fe b=Z (h a,c)/\vx er (c.drop k) ρ1=Z ρ1)/\(p a=δ->vx er (b.drop k) ρ1=Z ρ1)):
  rh k er s g ft fe ρ=Z ((l.filter p).map h,ρ1):=(Lh i (by rw[ae];exact f)).t (Fo d p h l st)
def vq(c:α->L4.D)(l:List α)(f:s ρ=Z (l.map c,ρ1))(d:l.length<=1000)(st:∀a∈l,∃ρ2 b,g (c a) (Em k er ρ1)=Z ρ2/\fe ρ2=Z (.I γ,b)/\vx er (b.drop k) ρ1=Z ρ1):
  c1 vZ (cL (rh k er s g sf fe)) ρ=Z (.I γ,ρ1):=
 rU (sm (sR c (λz=>.I γ) l f d st)) ((Lr l λz=>γ).t (by rw[aC.2 λz z=>J]))
def Pe(c:α->L4.D)(l:List α)(f:s ρ=Z (l.map c,ρ1))(d:l.length<=1000)(st:∀a∈l,∃ρ2 b,g (c a) (Em k er ρ1)=Z ρ2/\fe ρ2=Z (.I δ,b)/\vx er (b.drop k) ρ1=Z ρ1):
  c1 Fg (cL (rh k er s g sf fe)) ρ=Z (.I δ,ρ1):=
 rU (sm (sR c (λz=>.I δ) l f d st)) ((R8 l λz=>δ).t (by rw[mK.2 λz z=>br]))
end
inductive Kd where
 |room|you|plain|fixed|box|lamp
deriving DecidableEq
def Kd.s:Kd->Str
 |.room=>"room" |.you=>"you" |.plain=>"plain" |.fixed=>"fixed" |.box=>"box" |.lamp=>"lamp"
def Kd.pl:Kd->Bool
 |.room=>δ|.you=>δ|_=>γ
def Kd.hd:Kd->Bool
 |.room=>γ|.you=>γ|.box=>γ|_=>δ
def Kd.mk:Kd->Bool
 |.box=>γ|.lamp=>γ|_=>δ
structure Th where
 n:Str
 w:aE
 k:Kd
 s:Option Str
def oS:Option Str->L4.D
 |none=>.E
 |some x=>.str x
def e7(t:Th):L4.D:=.obj 0 ["name", "words", "kind", "start"] [.str t.n,.ea (t.w.map D.str),.str t.k.s,oS t.s]
def xu(t:Th):ra rD "name" (e7 t)=Z (.str t.n):=rfl
def HW(t:Th):ra tJ "words" (e7 t)=Z (.ea (t.w.map D.str)):=rfl
def Bt(t:Th):ra sr "kind" (e7 t)=Z (.str t.k.s):=rfl
def HX(t:Th):ra sU "start" (e7 t)=Z (oS t.s):=rfl
def Eh(a b:Kd):fh δ (.str a.s) (.str b.s)=Z (.I (decide (a=b))):=by cases a<;>cases b<;>kernel_rfl
def LA(t:Th):yu [e7 t]=Z (.I t.k.hd):=by obtain⟨n,w,k,s⟩:=t;cases k<;>kernel_rfl
def LB(t:Th):yx [e7 t]=Z (.I t.k.mk):=by obtain⟨n,w,k,s⟩:=t;cases k<;>kernel_rfl
def Pf(t:Th):xf [e7 t]=Z (.I t.k.pl):=by obtain⟨n,w,k,s⟩:=t;cases k<;>kernel_rfl
def Sk(t:Th):rX [.str t.k.s,AB]=Z (.I γ):=by obtain⟨n,w,k,s⟩:=t;cases k<;>kernel_rfl
abbrev TD(T:List Th):L4.D:=.b0 (T.map e7)
def L?(T:List Th)(a:T.length<=1000)(k:Kd):y3 [TD T,.str k.s]=Z (.int (T.filter λt=>decide (t.k=k)).length):=by refine rH (ρ:=[.q (TD T),.q (.str k.s)]) J ?_;refine rQ (rU (sm (vp e7 e7 (λt=>decide (t.k=k)) T J a λt z=>⟨[.q (e7 t),.q (.str k.s)],[.q (e7 t),.q (.str k.s)],J,sL (qZ (rU J (Bt t)) J (Eh t.k k)),λz=>⟨_,J,J⟩,λz=>J⟩)) ?_);show Z (D.int _)=_;rw[ae]
def yc(T:List Th)(a:T.length<=1000):va [TD T]=Z ((T.filter λt=>t.k.pl).map e7):=by refine CK (ρ:=[.q (TD T)]) J ?_;exact uC (vp e7 e7 (λt=>t.k.pl) T J a λt z=>⟨[.q (e7 t)],[.q (e7 t)],J,sL (um J J J J (Pf t)),λz=>⟨_,J,J⟩,λz=>J⟩)
def Cj{a b c:FE}{ρ d:aO}{x y z:Int}(h:a ρ=Z (.int x,ρ))(i:b ρ=Z (.int y,ρ))(j:c ρ=Z (.int z,d))(l:x<=y)(m:y<=z):uG vY vY a b c ρ=Z (.I γ,d):=by
 unfold uG;rw[h];simp only[i];have e:vY (.int x) (.int y)=Z (.I γ):=by show Z (D.I (decide (x<=y)))=_;rw[bN l]
 have f:vY (.int y) (.int z)=Z (.I γ):=by show Z (D.I (decide (y<=z)))=_;rw[bN m]
 simp only[e,j,f]
def LC{a b:FE}{ρ:aO}{x y:Int}(c:a ρ=Z (.int x,ρ))(d:b ρ=Z (.int y,ρ))(e:x<=y):c2 vY a b ρ=Z (.I γ,ρ):=qZ c d (by
 show Z (D.I (decide (x<=y)))=_;rw[bN e])
def En(T:List Th)(a:T.length<=1000)(d:1<=(T.filter λt=>decide (t.k=.room)).length)(e:(T.filter λt=>decide (t.k=.room)).length<=5)(c:(T.filter λt=>decide (t.k=.you)).length=1)(f:(T.filter λt=>t.k.pl).length<=7):
  xh [TD T]=Z .E:=by
 let b:aO:=[.q (TD T),.q (.I γ)];refine yU (ρ:=b) J ?_;unfold xg;rw[q8 (show _=Z (K?.nx b) from(tI ((rT J).t (vq e7 T J a λt z=>⟨_,_,J,J,J⟩))).t J)];rw[q8 (uc J)];rw[q8 (uc (vq e7 T J a λt z=>⟨[.q (e7 t)],[.q (e7 t)],J,qX (qW (rU J (Bt t)) J) (Sk t),J⟩))];rw[q8 (uc (Cj J (qX J (L? T a .room)) J (by omega) (by omega)))];rw[q8 (uc (qZ (qX J (L? T a .you)) J (by rw[c];rfl)))];refine uc (LC (x:=(T.filter λt=>t.k.pl).length) (rU (sm (qX J (yc T a))) ?_) J (by omega));show Z (D.int _)=_;rw[ae]
structure Mk where
 n:Str
 st:Int
 mo:Int
def I1(m:Mk):L4.D:=.obj 1 ["name", "start", "most"] [.str m.n,.int m.st,.int m.mo]
def Mk.ok(m:Mk):Prop:=1<=m.mo/\m.mo<=3/\0<=m.st/\m.st<=m.mo
abbrev MD(M:List Mk):L4.D:=.b0 (M.map I1)
def HY(m:Mk):ra rD "name" (I1 m)=Z (.str m.n):=rfl
def Ku(m:Mk)(h:m.ok):CQ [I1 m]=Z (.I γ):=by obtain⟨a,b,c,d⟩:=h;refine rH (ρ:=[.q (I1 m)]) J ?_;unfold CP;rw[q8 (show _=Z (K?.nx [.q (I1 m)]) from J)];exact rQ ((rT (Cj J J J a b)).t (Cj J J J c d))
def FQ(M:List Mk)(d:M.length<=4)(h:∀m∈M,m.ok):xY [MD M]=Z .E:=by
 let a:aO:=[.q (MD M),.q (.I γ)];refine yU (ρ:=a) J ?_;unfold xX;have b:sh [MD M,yW]=Z (.I γ):=by refine rH (ρ:=[.q (MD M),.q (.int 4)]) J ?_;refine rQ ((rT J).t (LC (x:=M.length) ?_ J (by omega)));refine rU J ?_;show Z (D.int _)=_;rw[ae]
 rw[q8 (show _=Z (K?.nx a) from(tI ((rT (qX J b)).t (vq I1 M J (by omega) λm c=>⟨[.q (I1 m)],[.q (I1 m)],J,qX J (Ku m (h m c)),J⟩))).t J)];exact uc J
def smL:aE:=["b", "ba", "bab", "babe", "c", "cab", "not", "take", "lit", "lamp", "x", "xx", "open", "both", "zz", "hall", "seen"]
def ahL:aE:=["", "", "q", "ek"]
def nmA(a:Str):aE:=smL.map λx=>a++x
def nmL:aE:=nmA "" ++ nmA "q" ++ nmA "ek"
def Nm(x:Str):Prop:=x∈nmL
def χ:Option L4.D->Bool
 |some (.I b)=>b
 |_=>δ
def zp{o:Option L4.D}(h:χ o=γ):o=Z (.I γ):=by
 unfold χ at h;split at h
 .rw[h]
 .cases h
def isF:Option L4.D->Bool
 |some (.I b)=>!b
 |_=>δ
def Pg{o:Option L4.D}(h:isF o=γ):o=Z (.I δ):=by
 unfold isF at h;split at h
 .rw[eD]at h;rw[h]
 .cases h
def Kv{x:Str}(h:Nm x):uE [.str x]=Z (.I γ):=zp (aC.1 (show (nmL.all λx=>χ (uE [.str x]))=γ by kernel_rfl) x h)
def Bu{l:aE}(h:l.Nodup)(a:l.length<=1000):tw [.b0 (l.map D.str)]=Z (.I γ):=by
 refine rH (ρ:=[.q (.b0 (l.map D.str))]) J ?_;refine rQ (qZ (y:=.int l.length) (rU J (RQ (DF h a))) (rU J ?_) ?_)
 .show Z (D.int _)=_;rw[ae]
 .rw[wC];simp
def Kw{l:aE}(h:l.Nodup)(a:l.length<=1000):tw [.ea (l.map D.str)]=Z (.I γ):=by
 refine rH (ρ:=[.q (.ea (l.map D.str))]) J ?_;refine rQ (qZ (y:=.int l.length) (rU J (DF h a)) (rU J ?_) ?_)
 .show Z (D.int _)=_;rw[ae]
 .rw[wC];simp
def FR(T:List Th)(M:List Mk)(hT:T.length<=400)(hM:M.length<=400)(h:∀x∈T.map Th.n++M.map Mk.n,Nm x)(l:(T.map Th.n++M.map Mk.n).Nodup):x3 [TD T,MD M]=Z .E:=by
 have c:(T.map Th.n++M.map Mk.n).length<=1000:=by rw[au,ae,ae];omega
 let a:aO:=[.q (TD T),.q (MD M),.un];let b:aO:=[.q (TD T),.q (MD M),.q (.b0 ((T.map Th.n++M.map Mk.n).map D.str))];refine yU (ρ:=b) J ?_;unfold xZ;have d:rh 1 [] (iL aa) (gN 0) sf (c1 (ra rD "name") aa) a=Z (T.map λt=>D.str t.n,a):=sR e7 (λt=>D.str t.n) T J (by omega) λt z=>⟨_,_,J,rU J (xu t),J⟩;have e:rh 1 [] (iL ag) (gN 0) sf (c1 (ra rD "name") aa) a=Z (M.map λt=>D.str t.n,a):=sR I1 (λt=>D.str t.n) M J (by omega) λt z=>⟨_,_,J,rU J (HY t),J⟩;have f:=tI (i:=2) (sm (sY (sm d) (sm e) (by rw[ae,ae];omega)));refine(q8 (ρ':=b) (f.t (by
  have:(T.map λt=>D.str t.n)++(M.map λt=>D.str t.n)=(T.map Th.n++M.map Mk.n).map D.str:=by rw[aJ,aP,aP];rfl
  rw[this];rfl))).t ?_
 rw[q8 (uc (vq D.str (T.map Th.n++M.map Mk.n) J c λx j=>⟨_,_,J,qX J (Kv (h x j)),J⟩))];exact uc (qX J (Bu l c))
def iE(T:List Th):aE:=(T.filter λt=>decide (t.k=.room)).map Th.n
def P'(T:List Th):aE:=(T.filter λt=>t.k.hd).map Th.n
abbrev jd:=(cC (.str "room"))
def Jx{ρ:aO}(T:List Th)(b:T.length<=1000){i:Nat}(a:cV i ρ=Z (TD T,ρ)):rh 1 [] (iL (cV i)) (gN 0) (cT (c2 (fh δ) (c1 (ra sr "kind") aa) jd)) (c1 (ra rD "name") aa) ρ=Z ((iE T).map D.str,ρ):=by
 have c:iL (cV i) ρ=Z (T.map e7,ρ):=by unfold iL;rw[a]
 have:=vp (k:=1) (er:=[]) (g:=gN 0) (ft:=cT (c2 (fh δ) (c1 (ra sr "kind") aa) jd)) (fe:=c1 (ra rD "name") aa) e7 (λt=>D.str t.n) (λt=>decide (t.k=.room)) T c b λt z=>⟨[.q (e7 t)],[.q (e7 t)],J,sL (qZ (rU J (Bt t)) J (Eh t.k .room)),λz=>⟨_,rU J (xu t),J⟩,λz=>J⟩
 rw[this];unfold iE;rw[aP];rfl
def Ky{ρ:aO}(T:List Th)(b:T.length<=1000){i:Nat}(a:cV i ρ=Z (TD T,ρ)):rh 1 [] (iL (cV i)) (gN 0) (cT (se sM "can_hold" aa rK)) (c1 (ra rD "name") aa) ρ=Z ((P' T).map D.str,ρ):=by
 have c:iL (cV i) ρ=Z (T.map e7,ρ):=by unfold iL;rw[a]
 have:=vp (k:=1) (er:=[]) (g:=gN 0) (ft:=cT (se sM "can_hold" aa rK)) (fe:=c1 (ra rD "name") aa) e7 (λt=>D.str t.n) (λt=>t.k.hd) T c b λt z=>⟨[.q (e7 t)],[.q (e7 t)],J,sL (um J J J J (LA t)),λz=>⟨_,rU J (xu t),J⟩,λz=>J⟩
 rw[this];unfold P';rw[aP];rfl
def wO{x:Str}{l:aE}(h:x∈l):rX [.str x,.b0 (l.map D.str)]=Z (.I γ):=by refine rH (ρ:=[.q (.str x),.q (.b0 (l.map D.str))]) J ?_;refine rQ ((rT J).t (qZ J J ?_));rw[Fp];simp[h]
def Gh(a b:aE)(d:a.length<=1000)(f:a.Nodup)(h:∀x∈a,x∈b):y7 [.b0 (a.map D.str),.b0 (b.map D.str)]=Z .E:=by let i:aO:=[.q (.b0 (a.map D.str)),.q (.b0 (b.map D.str)),.un];let c:aO:=[.q (.b0 (a.map D.str)),.q (.b0 (b.map D.str)),.q (.I γ)];refine yU (ρ:=c) J ?_;unfold y6;rw[q8 (show _=Z (K?.nx c) from(tI ((rT J).t ((rT (vq D.str a J d λx e=>⟨[.q (.str x),.q (.b0 (b.map D.str))],[.q (.str x),.q (.b0 (b.map D.str))],J,qX J (wO (h x e)),J⟩)).t (qX J (Bu f d))))).t J)];exact uc J
def Ck(T:List Th)(t:Th):Prop:=match t.k,t.s with
 |.room,U=>True
 |.room,Z _=>False
 |_,U=>False
 |.you,Z x=>x∈iE T
 |_,Z x=>x∈P' T
def Jy(T:List Th)(b:T.length<=1000)(t:Th)(h:Ck T t):Bl [TD T,e7 t]=Z (.I γ):=by
 refine rH (ρ:=[.q (TD T),.q (e7 t)]) J ?_;unfold Bk;obtain⟨n,w,k,s⟩:=t;have els:∀k:Kd,k≠.room->k≠.you->∀x,x∈P' T->(bt (fu (cT (c2 (fh δ) (c1 (ra sr "kind") ag) jd)) (rj (c2 yK (c1 (ra sU "start") ag) bq)) rG)
   (bt (fu (cT (c2 (fh δ) (c1 (ra sr "kind") ag) (cC (.str "you")))) (rj (qY rX (ax (c1 (ra sU "start") ag) (ax (cL (rh 1 [] (iL aa) (gN 0) (cT (c2 (fh δ) (c1 (ra sr "kind") aa) jd)) (c1 (ra rD "name") aa))) rK)))) rG)
   (rj (qY rX (ax (c1 (ra sU "start") ag) (ax (cL (rh 1 [] (iL aa) (gN 0) (cT (se sM "can_hold" aa rK)) (c1 (ra rD "name") aa))) rK)))))) [.q (TD T),.q (e7 ⟨n,w,k,Z x⟩)]=Z (.rt (.I γ) [.q (TD T),.q (e7 ⟨n,w,k,Z x⟩)]):=λk c d x e=>by
  let a:aO:=[.q (TD T),.q (e7 ⟨n,w,k,Z x⟩)];rw[q8 (show _=Z (K?.nx a) from(tY (sL (qZ (rU J (Bt _)) J ((Eh k .room).t (by rw[bx c]))))))];rw[q8 (show _=Z (K?.nx a) from(tY (sL (qZ (rU J (Bt _)) J ((Eh k .you).t (by rw[bx d]))))))];exact rQ (qX (qW (rU J (HX _)) (qW (sm (Ky T b J)) J)) (wO e))
 cases k with
 |room=>
  cases s with
  |none=>rfl
  |some x=>exact h.elim
 |you=>
  cases s with
  |none=>exact h.elim
  |some x=>let a:aO:=[.q (TD T),.q (e7 ⟨n,w,.you,Z x⟩)];rw[q8 (show _=Z (K?.nx a) from J)];refine sk ((sP J).t ?_);exact rQ (qX (qW (rU J (HX _)) (qW (sm (Jx T b J)) J)) (wO h))
 |plain=>cases s with
  |none=>exact h.elim
  |some x=>exact els .plain (by decide) (by decide) x h
 |fixed=>cases s with
  |none=>exact h.elim
  |some x=>exact els .fixed (by decide) (by decide) x h
 |box=>cases s with
  |none=>exact h.elim
  |some x=>exact els .box (by decide) (by decide) x h
 |lamp=>cases s with
  |none=>exact h.elim
  |some x=>exact els .lamp (by decide) (by decide) x h
def kS(x:Str):eu:=Sum.inr x
def Jz{i:Nat}{fk fv:FE}{a:aO}{b:List eu}{c:List L4.D}{x:Str}{d:L4.D}(f:fv a=Z (d,a))(h:a[i]?=Z (.dk b c))(j:fk a=Z (.str x,a))(p:kS x∉b)(o:b.length<1000)(l:c.length=b.length):
  v5 i fk fv a=Z (.nx (a.set i (.dk (b++[kS x]) (c++[d])))):=by
 have m:Gf b (kS x)=δ:=by unfold Gf;rw[iy];intro z;obtain⟨y,q,e⟩:=fF.1 z;exact p (by rw[<-bK e];exact q)
 unfold v5;rw[f];simp only[h,j];rw[show ym (.str x)=Z (kS x) from J];simp only;rw[aj o,aj l,m];rfl
section
variable{α:Type}{g:FG}{i:Nat}{fk fv:FE}
theorem AF(m:α->L4.D)(kf:α->Str)(j:α->L4.D)(st:List eu->List L4.D->Sl->aO)
  (r:∀(a:α) (c:List eu) (d:List L4.D) (s:Sl),∃b,g (m a) (st c d s)=Z b/\fv b=Z (j a,b)/\b[i]?=Z (.dk c d)/\fk b=Z (.str (kf a),b)/\∀f e,∃h,b.set i (.dk f e)=st f e h):
  ∀(l:List α) (c:List eu) (d:List L4.D) (s:Sl),(c++l.map λa=>kS (kf a)).Nodup->c.length+l.length<=1000->d.length=c.length->
   ∃h,i2 g (v5 i fk fv) (l.map m) (st c d s)=Z (.nx (st (c++l.map λa=>kS (kf a)) (d++l.map j) h))
 |[],c,d,s,_,_,_=>⟨s,by rw[c9,c9,c9,bI,bI];rfl⟩
 |a::l,c,d,s,o,C,q=>by
  obtain⟨b,t,u,w,x,y⟩:=r a c d s;obtain⟨F,A⟩:=y (c++[kS (kf a)]) (d++[j a]);rw[aF]at C;have p:((c++[kS (kf a)])++l.map λa=>kS (kf a)).Nodup:=by rw[bO];exact o
  have E:kS (kf a)∉c:=λz=>by rw[cq]at o;exact o.2.2 _ z _ (by rw[aR];exact bc) J
  obtain⟨h,B⟩:=AF m kf j st r l (c++[kS (kf a)]) (d++[j a]) F p (by rw[au,c3];omega) (by rw[au,au,q,c3,c3]);refine⟨h,?_⟩;rw[aR];unfold i2;rw[t];simp only[Jz u w x E (by omega) q,A];rw[B,aR,aR,bO,bO];rfl
end
def nK(T:List Th):List eu:=T.map λt=>kS t.n
def Ph{T:List Th}(h:(T.map Th.n).Nodup):(nK T).Nodup:=by have:=Ax h;rw[aP]at this;exact this
def EA{T:List Th}(h:(T.map Th.n).Nodup)(a:Th->L4.D){t:Th}(b:t∈T):wy (nK T) (T.map a) (kS t.n)=Z (a t):=by refine BU (Ph h) ?_;unfold nK;rw[j8];exact bF b
def Kz(T:List Th)(r:Str->Nat):Prop:=∀t∈T,r t.n<T.length/\∀p,t.s=Z p->r p<r t.n/\∃u∈T,u.n=p
def t9(T:List Th):L4.D:=.M (nK T) (T.map λt=>oS t.s)
def Pi(T:List Th)(M:T.length<=1000)(B:(T.map Th.n).Nodup)(r:Str->Nat)(w:Kz T r)(t:Th)(z:t∈T):wb [t9 T,.str t.n]=Z (.I γ):=by
 have loop:∀(m:Nat) (l:List L4.D),l.length=m->∀(a:Option Str) (s:Sl),(∀x,a=Z x->(∃u∈T,u.n=x)/\r x<m)->
   (∃b,i2 (gN 3) (bt (fu (cT (c2 yK ai bq)) (rj eX) rG) (rO 2 (c2 AM aa ai))) l [.q (t9 T),.q (.str t.n),.q (oS a),s]=Z (.rt (.I γ) b))\/
   (∃j,i2 (gN 3) (bt (fu (cT (c2 yK ai bq)) (rj eX) rG) (rO 2 (c2 AM aa ai))) l [.q (t9 T),.q (.str t.n),.q (oS a),s]=Z (.nx [.q (t9 T),.q (.str t.n),.q .E,j])):=by
  intro m
  induction m with
  |zero=>
   intro l h a s f;cases l with
   |cons d l=>cases h
   |nil=>
    cases a with
    |none=>exact .inr ⟨s,J⟩
    |some x=>exact ar (f x J).2 (iM _)
  |succ m G=>
   intro l h a s f;cases l with
   |nil=>cases h
   |cons d l=>
    cases a with
    |none=>refine .inl ⟨[.q (t9 T),.q (.str t.n),.q .E,.q d],?_⟩;unfold i2;rw[show gN 3 d [.q (t9 T),.q (.str t.n),.q (oS U),s]=Z [.q (t9 T),.q (.str t.n),.q .E,.q d] from J];rfl
    |some x=>
     obtain⟨⟨u,A,rfl⟩,i⟩:=f x J;have e:bt (fu (cT (c2 yK ai bq)) (rj eX) rG) (rO 2 (c2 AM aa ai)) [.q (t9 T),.q (.str t.n),.q (.str u.n),.q d]=Z (.nx [.q (t9 T),.q (.str t.n),.q (oS u.s),.q d]):=by refine(q8 J).t ?_;exact(tI (qZ J J (EA B (λt=>oS t.s) A))).t J
     have key:=G l (by simpa using h) u.s (.q d) λy F=>by obtain⟨C,c⟩:=w u A;obtain⟨I,E⟩:=c y F;exact⟨E,by omega⟩
     unfold i2;rw[show gN 3 d [.q (t9 T),.q (.str t.n),.q (oS (Z u.n)),s]=Z [.q (t9 T),.q (.str t.n),.q (.str u.n),.q d] from J];simp only[e];exact key
 obtain⟨C,c⟩:=w t z;have H:=loop T.length (IZ 0 T.length) (by unfold IZ;simp) t.s .un λx i=>⟨(c x i).2,by have:=(c x i).1;omega⟩;have o:rO 2 (c2 AM aa ag) [.q (t9 T),.q (.str t.n),.un,.un]=Z (.nx [.q (t9 T),.q (.str t.n),.q (oS t.s),.un]):=(tI (qZ J J (EA B (λt=>oS t.s) z))).t J;have p:D? (c1 ux aa) [.q (t9 T),.q (.str t.n),.q (oS t.s),.un]=Z (IZ 0 T.length,[.q (t9 T),.q (.str t.n),.q (oS t.s),.un]):=by unfold D?;rw[show c1 ux aa [.q (t9 T),.q (.str t.n),.q (oS t.s),.un]=Z (.int T.length,[.q (t9 T),.q (.str t.n),.q (oS t.s),.un]) from rU J (by show Z (D.int _)=_;unfold nK;rw[ae])];simp only;rw[aj (by omega),gn]
 rcases H with ⟨b,q⟩|⟨j,q⟩
 .refine rH (ρ:=b) J ?_;refine(q8 o).t (sk ((wW p).t q))
 .refine rH (ρ:=[.q (t9 T),.q (.str t.n),.q .E,j]) J ?_;refine(q8 o).t ((q8 ((wW p).t q)))
def Eo(T:List Th)(u:T.length<=900)(f:(T.map Th.n).Nodup)(r:Str->Nat)(l:Kz T r)(m:∀t∈T,Ck T t):xj [TD T]=Z .E:=by
 obtain⟨b,j⟩:=AF (g:=gN 2) (i:=1) (fk:=c1 (ra rD "name") ai) (fv:=c1 (ra sU "start") ai) e7 Th.n (λt=>oS t.s) (λe c s=>[.q (TD T),.dk e c,s])
  (λt e c s=>⟨[.q (TD T),.dk e c,.q (e7 t)],J,rU J (HX t),J,rU J (xu t),λo h=>⟨_,J⟩⟩) T [] [] .un (by rw[cv];exact Ph f) (by simp;omega) J
 refine yU (ρ:=[.q (TD T),.q (t9 T),b]) J ?_;unfold xi;refine(q8 (uc (vq e7 T J (by omega) λt d=>⟨[.q (e7 t),.q (TD T)],[.q (e7 t),.q (TD T)],J,qX J (Jy T (by omega) t (m t d)),J⟩))).t ?_;refine(q8 J).t ?_;refine(q8 ((wW J).t j)).t ?_;have src:iD (vu 1) [.q (TD T),.dk ([]++T.map λa=>kS a.n) ([]++T.map λt=>oS t.s),b]=Z ((T.map λt=>D.str t.n),[.q (TD T),.q (t9 T),b]):=by rw[cv,cv];unfold iD;rw[show vu 1 [.q (TD T),.dk (T.map λa=>kS a.n) (T.map λt=>oS t.s),b]=Z (t9 T,[.q (TD T),.q (t9 T),b]) from J];show (if (nK T).length=(T.map λt=>oS t.s).length then Z ((nK T).map Vp,_)else U)=_;unfold nK;rw[aj (by rw[ae,ae]),aP];rfl
 exact uc (vq (λt:Th=>D.str t.n) T src (by omega) λt d=>⟨[.q (.str t.n),.q (t9 T)],[.q (.str t.n),.q (t9 T)],J,qX J (Pi T (by omega) f r l t d),J⟩)
def JA(l:List Th)(r:Th):Prop:=(r.k=.room/\r.s=U)\/(r.k=.you/\∃u∈l,r.s=Z u.n/\u.k=.room)\/(r.k.pl=γ/\∃u∈l,r.s=Z u.n/\u.k.hd=γ)
inductive Ord:List Th->Prop
 |nil:Ord []
 |snoc {l:List Th} {r:Th} (h:Ord l) (h':JA l r):Ord (l++[r])
def JA.mono{l e:List Th}{r:Th}(h:JA l r)(d:∀u∈l,u∈e):JA e r:=by
 rcases h with h|⟨a,u,b,c⟩|⟨a,u,b,c⟩
 .exact .inl h
 .exact .inr (.inl ⟨a,u,d u b,c⟩)
 .exact .inr (.inr ⟨a,u,d u b,c⟩)
def Ord.all{l:List Th}(h:Ord l):∀r∈l,JA l r:=by
 induction h with
 |nil=>exact λr hr=>(bS hr).elim
 |snoc h b c=>
  intro r hr;rcases ba.1 hr with hr|hr
  .exact(c r hr).mono λu a=>bB _ a
  .rw[bV]at hr;subst hr;exact b.mono λu a=>bB _ a
def JA.start{l:List Th}{r:Th}(h:JA l r){p:Str}(a:r.s=Z p):∃u∈l,u.n=p:=by
 rcases h with ⟨_,h⟩|⟨_,u,b,c,_⟩|⟨_,u,b,c,_⟩
 .rw[h]at a;cases a
 .rw[c]at a;cases a;exact⟨u,b,J⟩
 .rw[c]at a;cases a;exact⟨u,b,J⟩
def Ord.rank{l:List Th}(h:Ord l):(l.map Th.n).Nodup->∃c:Str->Nat,∀t∈l,c t.n<l.length/\∀p,t.s=Z p->c p<c t.n/\∃u∈l,u.n=p:=by
 induction h with
 |nil=>exact λk=>⟨λk=>0,λt a=>(bS a).elim⟩
 |@snoc l r h j q=>
  intro e;rw[aJ,cq]at e;obtain⟨c,i⟩:=q e.1;have f:∀u∈l,u.n≠r.n:=λu b z=>e.2.2 _ (bF b) _ (by simp) z;refine⟨λx=>if x=r.n then l.length else c x,λt a=>?_⟩;rw[au,c3];dsimp only;rcases ba.1 a with a|a
  .obtain⟨w,m⟩:=i t a;rw[ak (f t a)];refine⟨by omega,λp d=>?_⟩;obtain⟨o,u,b,rfl⟩:=m p d;rw[ak (f u b)];exact⟨o,u,bB _ b,J⟩
  .rw[bV]at a;subst a;rw[aj J];refine⟨by omega,λp d=>?_⟩;obtain⟨u,b,rfl⟩:=j.start d;rw[ak (f u b)];exact⟨(i u b).1,u,bB _ b,J⟩
def Pj{ds:List L4.D}(k:Nat)(h:k<=ds.length):n3 ds U (Z (k:Int))=ds.take k:=by unfold n3;rw[HT.IC,HT.Es,gz h,List.drop_zero,Nat.sub_zero]
def W4{ds:List L4.D}(k:Nat)(h:k<=ds.length):n3 ds (Z (k:Int)) U=ds.drop k:=by unfold n3;rw[HT.IC,HT.Es,gz h,ie (by rw[dP];omega)]
def LD(u t:Th):Prop:=wN [.ea (u.w.map D.str),.ea (t.w.map D.str)]=Z (.I δ)
def Gi(P:List Th)(c:P.length<=900)(t:Th)(d:∀u∈P,u.n≠t.n->LD u t):we [TD P,e7 t]=Z (.I γ):=by
 let O:=P.filter λu=>!decide (u.n=t.n);let a:aO:=[.q (TD P),.q (e7 t),.q (TD O)];have hO:O.length<=900:=bf (cU _ _) c;refine rH (ρ:=a) J ?_;unfold wc;refine(q8 (ρ':=a) ((tI (sm (vp e7 e7 (λu=>!decide (u.n=t.n)) P J (by omega) λu z=>⟨[.q (e7 u),.q (e7 t)],[.q (e7 u),.q (e7 t)],J,sL (qZ (rU J (xu u)) (rU J (xu t)) (yT γ u.n t.n)),λz=>⟨_,J,J⟩,λz=>J⟩))).t J)).t ?_;have e:c1 Fg (cL (rh 1 [1] (iL ai) (gN 0) sf (qY wN (ax (c1 (ra tJ "words") aa) (ax (c1 (ra tJ "words") ag) rK))))) a=Z (.I δ,a):=
  Pe e7 O J (by omega) λu b=>⟨[.q (e7 u),.q (e7 t)],[.q (e7 u),.q (e7 t)],J,qX (qW (rU J (HW u)) (qW (rU J (HW t)) J)) (d u (bg.1 b).1 (by simpa using (bg.1 b).2)),J⟩
 refine rQ ?_;unfold EY;rw[e];rfl
def FU(T:List Th)(e:T.length<=900)(h:∀t∈T,vQ [.ea (t.w.map D.str)]=Z (.I γ))(d:∀t∈T,∀u∈T,t.k.pl=γ->u.k.pl=γ->u.n≠t.n->LD u t):tP [TD T]=Z .E:=by let P:=T.filter λt=>t.k.pl;have hP:P.length<=900:=bf (cU _ _) e;have pP:∀t∈P,t∈T/\t.k.pl=γ:=λt a=>bg.1 a;let c:aO:=[.q (TD T),.q (TD P)];refine yU (ρ:=c) J ?_;unfold tN;refine(q8 (uc (vq e7 T J (by omega) λt a=>⟨[.q (e7 t)],[.q (e7 t)],J,qX (qW (rU J (HW t)) J) (h t a),J⟩))).t ?_;refine(q8 ((tI (sm (qX J (yc T (by omega))))))).t ?_;exact uc (vq e7 P J (by omega) λt a=>⟨[.q (e7 t),.q (TD P)],[.q (e7 t),.q (TD P)],J,qX J (Gi P hP t λu b f=>d t (pP t a).1 u (pP u b).1 (pP t a).2 (pP u b).2 f),J⟩)
def LF{e:FE}{b:Bool}{ρ a:aO}(h:e ρ=Z (.I b,a)):EY e ρ=Z (.I !b,a):=by unfold EY;rw[h]
def FV{l m:aE}{d:L4.D}(hd:d=.b0 (m.map D.str)\/d=.ea (m.map D.str))(c:l.length<=900)(h:∀x∈l,x∉m):vR [.b0 (l.map D.str),d]=Z (.I γ):=by
 let a:aO:=[.q (.b0 (l.map D.str)),.q d];refine rH (ρ:=a) J ?_;have e:c1 Fg (cL (rh 1 [1] (iL aa) (gN 0) sf (c2 (A? δ) aa ag))) a=Z (.I δ,a):=Pe D.str l J (by omega) λx b=>⟨[.q (.str x),.q d],[.q (.str x),.q d],J,qZ J J (by
  rcases hd with rfl|rfl
  .rw[Fp];simp[h x b]
  .rw[Jn];simp[h x b]),J⟩
 exact rQ (LF e)
structure Vb where
 n:Str
 o:aE
 f:Str
 j:Option Str
def tm(v:Vb):L4.D:=.obj 2 ["name", "others", "form", "joining"] [.str v.n,.ea (v.o.map D.str),.str v.f,oS v.j]
def v6:List Vb:=[⟨"give", ["hand", "g"],"two", Z "to"⟩,⟨"hum", [],"alone", U⟩,⟨"push", ["shove"],"one", U⟩,⟨"sail", ["s"],"way", U⟩,⟨"tie", [],"two", Z "with"⟩,⟨"l", ["look", "peer"],"one", U⟩]
def v9:List Vb:=[⟨"take", [],"one", U⟩,⟨"drop", [],"one", U⟩,⟨"open", [],"one", U⟩,⟨"shut", [],"one", U⟩,⟨"light", [],"one", U⟩,⟨"douse", [],"one", U⟩,⟨"put", [],"two", Z "in"⟩,⟨"go", [],"way", U⟩,⟨"wait", [],"alone", U⟩]
abbrev VD(V:List Vb):L4.D:=.b0 (V.map tm)
def vB(m k:Nat):Bool:=m / 2 ^ k % 2==1
def vL(m:Nat):List Vb:=((av 6).filter λk=>vB m k).map λk=>v6.getD k ⟨"", [],"", U⟩
def Pk:vb []=Z (v9.map tm):=by kernel_rfl
def Vb.ws(v:Vb):aE:=v.n::v.o
def vW:aE:=(v6++v9).flatMap Vb.ws
def S2:aE:=["north", "up", "in", "n", "upward"]
def bW:aE:="to" ::"with" ::S2
def v64{p:List Vb->Bool}(h:((av 64).all λm=>p (vL m))=γ){m:Nat}(a:m<64):p (vL m)=γ:=aC.1 h m (bz.2 a)
def Dg{m:Nat}{v:Vb}(h:v∈vL m):v∈v6:=by obtain⟨k,b,rfl⟩:=az.1 h;have a:k<v6.length:=bz.1 (bg.1 b).1;rw[cp,bb a];exact gv a
def Ao(m:Nat):(vL m).length<=6:=by unfold vL;rw[ae];exact bf (cU _ _) (by rw[bL];exact aK _)
def isN:Option L4.D->Bool
 |some .E=>γ
 |_=>δ
def W5{o:Option L4.D}(h:isN o=γ):o=Z .E:=by
 unfold isN at h;split at h
 .rfl
 .cases h
def FW{m:Nat}(a:m<64):vH [VD (vL m)]=Z .E:=W5 (v64 (p:=λV=>isN (vH [VD V])) (by kernel_rfl) a)
def Pl{m:Nat}(a:m<64):((vL m++v9).flatMap Vb.ws).Nodup:=bK (v64 (p:=λV=>decide ((V++v9).flatMap Vb.ws).Nodup) (by kernel_rfl) a)
def vws{V:List Vb}(h:∀v∈V,v∈v6):∀x∈(V++v9).flatMap Vb.ws,x∈vW:=λx b=>by
 obtain⟨v,a,b⟩:=eE.1 b;refine eE.2 ⟨v,?_,b⟩;rcases ba.1 a with a|a
 .exact bB _ (h v a)
 .exact bA _ a
structure Wy where
 r:Str
 w:Str
 g:Str
 m:Option Str
def nj(w:Wy):L4.D:=.ea [.str w.r,.str w.w,.str w.g,oS w.m]
abbrev WD(W:List Wy):L4.D:=.b0 (W.map nj)
def τ(T:List Th)(M:List Mk):aE:=(T.filter λt=>t.k.mk).map Th.n++M.map Mk.n
structure KA(T:List Th)(M:List Mk)(w:Wy):Prop where
 hr:w.r∈iE T
 hw:w.w∈S2
 hg:w.g∈iE T
 hm:∀x,w.m=Z x->x∈τ T M
def LG(l:List L4.D)(n:Int)(h:(l.length:Int)<=n):sh [.b0 l,.int n]=Z (.I γ):=by
 have e:sh [.b0 l,.int n]=Z (.I (decide ((l.length:Int)<=n))):=by kernel_rfl
 rw[e,bN h]
def Cm{e b:FE}{ρ a:aO}(c:e ρ=Z (.I δ,a)):M? e b ρ=b a:=by unfold M?;rw[c]
def HZ{e b:FE}{ρ a:aO}(c:e ρ=Z (.I γ,a)):M? e b ρ=Z (.I γ,a):=by unfold M?;rw[c]
def M4{T:List Th}{M:List Mk}{w:Wy}(h:KA T M w):FI [nj w,.b0 ((iE T).map D.str),.b0 ((τ T M).map D.str)]=Z (.I γ):=by
 let R:L4.D:=.b0 ((iE T).map D.str);let K:L4.D:=.b0 ((τ T M).map D.str);let a:aO:=[.q (nj w),.q R,.q K,.un];let d:aO:=[.q (nj w),.q R,.q K,.q (.I γ)];refine rH (ρ:=d) J ?_;unfold FH;refine(q8 J).t ?_;have b:M? (c2 yK (c2 ew aa bJ) bq) (qY rX pz) a=Z (.I γ,a):=by
  obtain⟨r,x,g,m⟩:=w;cases m with
  |none=>rfl
  |some y=>exact(Cm J).t (qX J (wO (h.hm y J)))
 refine(q8 ((tI b))).t (rQ ?_);have c:tK [.str w.w]=Z (.I γ):=zp (aC.1 (show (S2.all λx=>χ (tK [.str x]))=γ by kernel_rfl) w.w h.hw);exact(rT (qX J (wO h.hr))).t ((rT (qX J c)).t ((rT (qX J (wO h.hg))).t J))
theorem LH:∀W:List Wy,DG (W.map λw=>D.ea [.str w.r,.str w.w])=Z (W.map λw=>[w.r,w.w])
 |[]=>rfl
 |w::W=>by rw[aR];unfold DG;rw[LH W];rfl
def Gj{T:List Th}{M:List Mk}{W:List Wy}(b:W.length<=8)(h:∀w∈W,KA T M w)(d:(W.map λw=>[w.r,w.w]).Nodup):y9 [WD W,.b0 ((iE T).map D.str),.b0 ((τ T M).map D.str)]=Z .E:=by
 let R:L4.D:=.b0 ((iE T).map D.str);let K:L4.D:=.b0 ((τ T M).map D.str);let e:aO:=[.q (WD W),.q R,.q K,.un];let f:aO:=[.q (WD W),.q R,.q K,.q (.I γ)];refine yU (ρ:=f) J ?_;unfold y8;refine(q8 ((tI ((rT (qX J (LG _ _ (by rw[ae];omega)))).t (vq nj W J (by omega) λw c=>⟨[.q (nj w),.q R,.q K],[.q (nj w),.q R,.q K],J,qX J (M4 (h w c)),J⟩))))).t ?_;refine(q8 (uc J)).t (uc (qX (qW (sm (sR nj (λw=>.ea [.str w.r,.str w.w]) W J (by omega) λw z=>⟨[.q (nj w)],[.q (nj w)],J,J,J⟩)) J) ?_));refine rH J (rQ (qZ (x:=.int W.length) (y:=.int W.length) (rU J ?_) (rU J ?_) ?_))
 .have a:uj (W.map λw=>D.ea [.str w.r,.str w.w])=U\/uj (W.map λw=>D.ea [.str w.r,.str w.w])=Z (.int W.length):=by
   cases W with
   |nil=>exact .inr J
   |cons w W=>exact .inl J
  show (match uj (W.map λw:Wy=>D.ea [.str w.r,.str w.w])with|some r=>Z r|none=>Bi (W.map λw:Wy=>D.ea [.str w.r,.str w.w]))=_;rcases a with a|a
  .rw[a];show Bi _=_;unfold Bi;rw[LH];dsimp only;rw[aj ⟨d,by rw[ae];exact b⟩,ae]
  .rw[a]
 .show Z (D.int _)=_;rw[ae]
 .rw[wC];simp
def Pr:aE:=["red", "re", "taken", "old", "openly"]
def Q?:aE:=["key", "keys", "bowl", "b", "nothing"]
def tlL:aE:=["", "q", "zu"]
def exL:aE:=["x", "dusty", "most"]
def wpL:aE:=exL++tlL.flatMap λt=>(Pr++Q?).map λx=>x++t
theorem FX{a b c f h i:Sl}:∀(P:List Th) (acc:aE) (s:Sl),acc.length+3 * P.length<=900->(∀t∈P,t.w.length<=3)->
  ∃j,i2 (gN 4) (rq (zQ 3 (c1 (ra tJ "words") aU))) (P.map e7) [a,b,c,.J (acc.map D.str),s,f,h,i]=Z (.nx [a,b,c,.J ((acc++P.flatMap Th.w).map D.str),j,f,h,i])
 |[],acc,s,_,_=>⟨s,by simp;rfl⟩
 |t::P,acc,s,o,l=>by
  have q:=l t bc;rw[aF]at o;obtain⟨j,e⟩:=FX P (acc++t.w) (.q (e7 t)) (by rw[au];omega) λu p=>l u (aY _ p);refine⟨j,?_⟩;rw[aR];unfold i2;have m:rq (zQ 3 (c1 (ra tJ "words") aU)) [a,b,c,.J (acc.map D.str),.q (e7 t),f,h,i]=Z (.nx [a,b,c,.J ((acc++t.w).map D.str),.q (e7 t),f,h,i]):=by refine(sW (d:=.E) ?_);unfold zQ;show (if (acc.map D.str).length+(t.w.map D.str).length<=1000 then Z (D.E,[a,b,c,.J (acc.map D.str++t.w.map D.str),.q (e7 t),f,h,i])else U)=_;rw[aj (by rw[ae,ae];omega),aJ]
  rw[show gN 4 (e7 t) [a,b,c,.J (acc.map D.str),s,f,h,i]=Z [a,b,c,.J (acc.map D.str),.q (e7 t),f,h,i] from J];simp only[m];rw[e,c7,bO]
theorem LI{a b c f h i:Sl}:∀(V:List Vb) (acc:aE) (s:Sl),acc.length+3 * V.length<=900->(∀v∈V,v.o.length<=2)->
  ∃l,i2 (gN 6) (rq (zQ 5 (wX (rN jh) (c1 (ra t7 "others") bj)))) (V.map tm) [a,b,c,f,h,.J (acc.map D.str),s,i]=Z (.nx [a,b,c,f,h,.J ((acc++V.flatMap Vb.ws).map D.str),l,i])
 |[],acc,s,_,_=>⟨s,by simp;rfl⟩
 |v::V,acc,s,r,m=>by
  have w:=m v bc;rw[aF]at r;have x:v.ws.length<=3:=by unfold Vb.ws;rw[aF];omega
  obtain⟨l,e⟩:=LI V (acc++v.ws) (.q (tm v)) (by rw[au];omega) λu t=>m u (aY _ t);refine⟨l,?_⟩;rw[aR];unfold i2;let j:aO:=[a,b,c,f,h,.J (acc.map D.str),.q (tm v),i];have p:wX (rN jh) (c1 (ra t7 "others") bj) j=Z (.ea (v.ws.map D.str),j):=by show (if ([]:List L4.D).length+(v.o.map D.str).length<=900 then Z (D.ea (.str v.n::[]++v.o.map D.str),j)else U)=_;rw[aj (by rw[ae];simp only[cu];omega)];rfl
  have q:rq (zQ 5 (wX (rN jh) (c1 (ra t7 "others") bj))) j=Z (.nx [a,b,c,f,h,.J ((acc++v.ws).map D.str),.q (tm v),i]):=by refine sW (d:=.E) ?_;unfold zQ;rw[p];show (if (acc.map D.str).length+(v.ws.map D.str).length<=1000 then Z (D.E,[a,b,c,f,h,.J (acc.map D.str++v.ws.map D.str),.q (tm v),i])else U)=_;rw[aj (by rw[ae,ae];omega),aJ]
  rw[show gN 6 (tm v) [a,b,c,f,h,.J (acc.map D.str),s,i]=Z j from J];simp only[q];rw[e,c7,bO]
def jsN(V:List Vb):aE:=V.filterMap Vb.j
def ZM{V:List Vb}(h:∀v∈V,v∈v6):∀v∈V++v9,v.o.length<=2:=λv b=>by
 have a:=aC.1 (show ((v6++v9).all λv=>decide (v.o.length<=2))=γ by kernel_rfl) v (by
  rcases ba.1 b with b|b
  .exact bB _ (h v b)
  .exact bA _ b)
 exact bK a
def LJ{e:FE}{c a:aO}{b:List L4.D}(h:e c=Z (.b0 b,a)):iL e c=Z (b,a):=by unfold iL;rw[h]
def YV{ρ:aO}(V:List Vb)(d:V.length<=900)(a:cV 2 ρ=Z (VD V,ρ)):rh 1 [] (iL ai) (gN 0) (cT (c2 yk (c1 (ra uz "joining") aa) bq)) (c1 (ra uz "joining") aa) ρ=Z ((jsN V).map D.str,ρ):=by
 have b:iL ai ρ=Z (V.map tm,ρ):=LJ a;refine(vp tm (λv=>oS v.j) (λv=>v.j.isSome) V b (by omega) λv z=>⟨[.q (tm v)],[.q (tm v)],J,?_,λz=>⟨[.q (tm v)],J,J⟩,λz=>J⟩).t ?_
 .obtain⟨n,o,f,j⟩:=v;cases j<;>rfl
 .congr 2;unfold jsN;clear b a d
  induction V with
  |nil=>rfl
  |cons v V c=>
   obtain⟨n,o,f,j⟩:=v;cases j with
   |none=>rw[lq (by simp),List.filterMap_cons_none J];exact c
   |some x=>rw[js (by simp)];exact bG (D.str x::·) c
def FY{T:List Th}{W:List Wy}{m:Nat}(H:T.length<=200)(o:∀t∈T,t.k.pl=γ->t.w.length<=3/\∀x∈t.w,x∈wpL)(hW:W.length<=8)(S:∀w∈W,w.w∈S2)(u:m<64):uS [TD T,WD W,VD (vL m++v9)]=Z .E:=by
 let V:=vL m++v9;have v6m:∀v∈vL m,v∈v6:=λv f=>Dg f;have lV:V.length<=15:=by show (vL m++v9).length<=15;rw[au];have:=Ao m;show (vL m).length+9<=15;omega
 let P:=T.filter λt=>t.k.pl;have hP:P.length<=200:=bf (cU _ _) H;have hwP:∀t∈P,t.w.length<=3/\∀x∈t.w,x∈wpL:=λt i=>o t (bg.1 i).1 (bg.1 i).2;let A:Sl:=.q (TD T);let B:Sl:=.q (WD W);let C:Sl:=.q (VD V);obtain⟨l,E⟩:=FX P [] .un (by simp;omega) λt i=>(hwP t i).1;let O:=P.flatMap Th.w;let c:=V.flatMap Vb.ws;let p:Sl:=.J (O.map D.str);obtain⟨z,F⟩:=LI V [] .un (by simp;omega) (ZM v6m);let d:aE:=jsN V++W.map Wy.w;let AT:Sl:=.q (.b0 (d.map D.str));have lU:c.length<=100:=by have h:=vws v6m;have G:=OW (Pl u) h;exact bf G (aH (by kernel_rfl))
 have lJ:(jsN V).length<=15:=bf (List.length_filterMap_le _ _) lV;have lB:d.length<=100:=by show (jsN V++W.map Wy.w).length<=100;rw[au,ae];omega
 have bIn:∀x∈d,x∈bW:=λx b=>by
  rcases ba.1 b with b|b
  .obtain⟨v,f,e⟩:=ik.1 b;have a:=aC.1 (show ((v6++v9).all λv=>match v.j with|some x=>decide (x∈bW)|none=>γ)=γ by kernel_rfl) v (by
    rcases ba.1 f with f|f
    .exact bB _ (v6m v f)
    .exact bA _ f)
   rw[e]at a;exact bK a
  .obtain⟨w,o,rfl⟩:=az.1 b;exact(show ∀x∈S2,x∈bW by decide) _ (S w o)
 have oIn:∀x∈O,x∈wpL:=λx b=>by obtain⟨t,i,hxt⟩:=eE.1 b;exact(hwP t i).2 x hxt
 have uIn:∀x∈c,x∈vW:=vws v6m;have N:∀x∈vW++bW,x∉wpL:=by decide +kernel
 have Q:∀x∈vW++bW,x∉(["the", "a", "undo", "restart"]:aE):=by decide +kernel
 have R:∀x∈bW,x∉vW:=by decide +kernel
 have y:∀x∈c++d,x∈vW++bW:=λx b=>by
  rcases ba.1 b with b|b
  .exact bB _ (uIn x b)
  .exact bA _ (bIn x b)
 have lUB:(c++d).length<=900:=by rw[au];omega
 let UL:L4.D:=.b0 (c.map D.str);refine yU (ρ:=[A,B,C,.q (.b0 (O.map D.str)),l,.q UL,z,AT]) J ?_;unfold uR;refine(q8 J).t ?_;refine(q8 ((wW (ρ1:=[A,B,C,.J [],.un,.un,.un,.un]) ?_).t E)).t ?_
 .unfold iL;rw[sm (qX (ρ1:=[A,B,C,.J [],.un,.un,.un,.un]) J (yc T (by omega)))]
 refine(q8 J).t ?_;refine(q8 ((wW J).t F)).t ?_;refine(q8 (ρ':=[A,B,C,p,l,.J (c.map D.str),z,AT]) ((tI (sm (sY (sm (YV V (by omega) J)) (sm (sR nj (λw=>.str w.w) W J (by omega) λw s=>⟨[.q (nj w)],[.q (nj w)],J,J,J⟩)) (by rw[ae,ae];omega)))).t ?_)).t ?_
 .show Z (K?.nx [A,B,C,p,l,.J (c.map D.str),z,.q (.b0 ((jsN V).map D.str++W.map λw=>.str w.w))])=_;rw[show (jsN V).map D.str++(W.map λw=>D.str w.w)=d.map D.str by show _=(jsN V++W.map Wy.w).map D.str;rw[aJ,aP];rfl]
 refine(q8 (uc (qX (ds:=[UL]) J (Bu (Pl u) (by omega))))).t ?_;have ca:∀(q:Sl),cL (tS (vu 5) bY) [A,B,C,q,l,.q UL,z,AT]=Z (.b0 ((c++d).map D.str),[A,B,C,q,l,.q UL,z,AT]):=λq=>(sm (sY J J (by rw[ae,ae];omega))).t (by rw[<-aJ]);refine(q8 (uc (qX (qW (ca p) J) (FV (.inl J) lUB λx b I=>N x (y x b) (oIn x I))))).t ?_;refine(q8 (uc (qX (qW (ca _) J) (FV (.inr J) lUB λx b=>Q x (y x b))))).t ?_;exact uc (qX J (FV (.inl J) (by omega) λx b M=>R x (bIn x b) (uIn x M)))
def yN(T:List Th):Str:=((T.filter λt=>decide (t.k=.you)).map Th.n).headD ""
structure fb(T:List Th)(M:List Mk)(dk:aE)(W:List Wy):Prop where
 len:T.length<=13
 r1:1<=(T.filter λt=>decide (t.k=.room)).length
 r5:(T.filter λt=>decide (t.k=.room)).length<=5
 y1:(T.filter λt=>decide (t.k=.you)).map Th.n=[yN T]
 p7:(T.filter λt=>t.k.pl).length<=7
 m4:M.length<=4
 mo:∀m∈M,m.ok
 nm:∀x∈T.map Th.n++M.map Mk.n,Nm x
 nd:(T.map Th.n++M.map Mk.n).Nodup
 st:∀t∈T,Ck T t
 rk:∃r,Kz T r
 wd:∀t∈T,vQ [.ea (t.w.map D.str)]=Z (.I γ)
 wa:∀t∈T,∀u∈T,t.k.pl=γ->u.k.pl=γ->u.n≠t.n->LD u t
 wl:∀t∈T,t.k.pl=γ->t.w.length<=3/\∀x∈t.w,x∈wpL
 d0:dk.length<=5
 d1:dk.Nodup
 d2:∀x∈dk,x∈iE T
 w8:W.length<=8
 wo:∀w∈W,KA T M w
 wn:(W.map λw=>[w.r,w.w]).Nodup
section
variable{T:List Th}{M:List Mk}{dk:aE}{W:List Wy}
def fb.ndT(g:fb T M dk W):(T.map Th.n).Nodup:=(cq.1 g.nd).1
def Gk(T:List Th)(M:List Mk)(a:T.length<=200)(hM:M.length<=4):y4 [TD T,MD M]=Z ((τ T M).map D.str):=by
 let b:aO:=[.q (TD T),.q (MD M)];have h:=cU (λt:Th=>t.k.mk) T;refine(CK J (uC (sY (sm (vp e7 (λt=>D.str t.n) (λt=>t.k.mk) T J (by omega) λt z=>⟨[.q (e7 t)],[.q (e7 t)],J,sL (um J J J J (LB t)),λz=>⟨_,rU J (xu t),J⟩,λz=>J⟩))
  (sm (sR I1 (λt=>D.str t.n) M J (by omega) λt z=>⟨_,_,J,rU J (HY t),J⟩)) (by rw[ae,ae];omega)))).t ?_
 unfold τ;rw[aJ,aP,aP];rfl
def FZ(g:fb T M dk W){m:Nat}(c:m<64):x8 [TD T,MD M,.b0 (dk.map D.str),WD W,VD (vL m),VD v9]=Z .E:=by
 have j:=g.len;have a:=g.m4;have hdk:dk.length<=1000:=by have:=g.d0;omega
 have f:(T.filter λt=>decide (t.k=.you)).length=1:=by have:=bG c6 g.y1;rw[ae]at this;exact this
 obtain⟨r,d⟩:=g.rk;let h:aO:=[.q (TD T),.q (MD M),.q (.b0 (dk.map D.str)),.q (WD W),.q (VD (vL m)),.q (VD v9),.un];let b:aO:=[.q (TD T),.q (MD M),.q (.b0 (dk.map D.str)),.q (WD W),.q (VD (vL m)),.q (VD v9),.q (.b0 ((iE T).map D.str))];refine yU (ρ:=b) J ?_;unfold x4;refine(q8 (sW (qX J (En T (by omega) g.r1 g.r5 f g.p7)))).t ?_;refine(q8 (sW (qX J (FQ M g.m4 g.mo)))).t ?_;refine(q8 (sW (qX J (FR T M (by omega) (by omega) g.nm g.nd)))).t ?_;refine(q8 (sW (qX J (Eo T (by omega) g.ndT r d g.st)))).t ?_;refine(q8 (sW (qX J (FU T (by omega) g.wd g.wa)))).t ?_;refine(q8 ((tI (sm (Jx T (by omega) J))))).t ?_;refine(q8 (sW (qX J (Gh dk (iE T) hdk g.d1 g.d2)))).t ?_;refine(q8 (sW (qX (qW J (qW J (qW (sm (qX J (Gk T M (by omega) a))) J))) (Gj g.w8 g.wo g.wn)))).t ?_;refine(q8 (sW (qX J (FW c)))).t ?_;refine sW (qX (qW J (qW J (qW ((sm (sY (ρ1:=b) J J ?_)).t (by rw[<-aJ])) J))) (FY (by omega) g.wl g.w8 (λw e=>(g.wo w e).hw) c));have:=Ao m;rw[ae,ae];show (vL m).length+9<=1000;omega
def KB(T:List Th)(m:T.length<=900)(f:(T.map Th.n).Nodup):CT [TD T]=Z (.M (nK T) (T.map e7)):=by
 obtain⟨h,d⟩:=AF (g:=gN 2) (i:=1) (fk:=c1 (ra rD "name") ai) (fv:=cV 2) e7 Th.n e7 (λb a s=>[.q (TD T),.dk b a,s])
  (λt b a s=>⟨[.q (TD T),.dk b a,.q (e7 t)],J,J,J,rU J (xu t),λe c=>⟨_,J⟩⟩) T [] [] .un (by rw[cv];exact Ph f) (by simp;omega) J
 refine rH (ρ:=[.q (TD T),.q (.M (nK T) (T.map e7)),h]) J ?_;unfold CS;refine(q8 J).t ?_;refine(q8 ((wW J).t d)).t ?_;rw[cv,cv];rfl
def mP(T:List Th)(M:List Mk):List (Str×Int):=(T.filter λt=>t.k.mk).map (λt=>(t.n,1))++M.map λm=>(m.n,m.mo)
def Ia(T:List Th)(M:List Mk):(mP T M).map cc=τ T M:=by unfold mP τ;rw[aJ,aP,aP];rfl
def Sm(m:Mk):ra w5 "most" (I1 m)=Z (.int m.mo):=rfl
theorem Dh{a b e:Sl}:∀(l:List Th) (c:List eu) (d:List L4.D) (s:Sl),(c++(l.filter λt=>t.k.mk).map λt=>kS t.n).Nodup->c.length+l.length<=900->d.length=c.length->
  ∃j,i2 (gN 3) (fu (cT (se tL "has_mark" aG rK)) (v5 2 (c1 (ra rD "name") aG) aL) rG) (l.map e7) [a,b,.dk c d,s,e]=Z (.nx [a,b,.dk (c++(l.filter λt=>t.k.mk).map λt=>kS t.n) (d++(l.filter λt=>t.k.mk).map λx=>.int 1),j,e])
 |[],c,d,s,_,_,_=>⟨s,by simp;rfl⟩
 |t::l,c,d,s,f,u,o=>by
  rw[aF]at u;let r:aO:=[a,b,.dk c d,.q (e7 t),e];have m:cT (se tL "has_mark" aG rK) r=Z (t.k.mk,r):=sL (um J J J J (LB t));rw[aR];unfold i2;rw[show gN 3 (e7 t) [a,b,.dk c d,s,e]=Z r from J];cases h:t.k.mk with
  |true=>
   rw[h]at m;rw[js (p:=λt:Th=>t.k.mk) h,aR]at f;rw[js (p:=λt:Th=>t.k.mk) h];have w:kS t.n∉c:=λz=>by rw[cq]at f;exact f.2.2 _ z _ bc J
   obtain⟨j,q⟩:=Dh l (c++[kS t.n]) (d++[.int 1]) (.q (e7 t)) (by rw[bO];exact f) (by rw[au,c3];omega) (by simp[o]);refine⟨j,?_⟩;simp only[(sP m).t (Jz (i:=2) (fk:=c1 (ra rD "name") aG) (fv:=cC (.int 1)) J J (rU J (xu t)) w (by omega) o)];refine kJ q ?_;rw[bO,bO];rfl
  |false=>rw[h]at m;rw[lq (by rw[h];exact br)]at f ⊢;obtain⟨j,q⟩:=Dh l c d (.q (e7 t)) f (by omega) o;refine⟨j,?_⟩;simp only[tY m,rG];exact q
def mD(T:List Th)(M:List Mk):L4.D:=.M ((mP T M).map λq=>kS q.1) ((mP T M).map λq=>.int q.2)
def fb.ndK(g:fb T M dk W):(τ T M).Nodup:=by unfold τ;have h:=cq.1 g.nd;refine cq.2 ⟨qO (jF.map _) h.1,h.2.1,λx b y c=>h.2.2 x ?_ y c⟩;obtain⟨t,a,rfl⟩:=az.1 b;exact bF (bg.1 a).1
def To(g:fb T M dk W):((mP T M).map λq=>kS q.1).Nodup:=by have:=Ax g.ndK;rw[<-Ia,aP]at this;exact this
def Pm(g:fb T M dk W):wj [TD T,MD M]=Z (mD T M):=by
 have d:=To g;have x:=g.len;have y:=g.m4;have f:(mP T M).map (λq=>kS q.1)=(T.filter λt=>t.k.mk).map (λt=>kS t.n)++M.map λm=>kS m.n:=by unfold mP;rw[aJ,aP,aP];rfl
 have b:(mP T M).map (λq=>D.int q.2)=(T.filter λt=>t.k.mk).map (λz=>D.int 1)++M.map λm=>D.int m.mo:=by unfold mP;rw[aJ,aP,aP];rfl
 rw[f]at d;have w:=cU (λt:Th=>t.k.mk) T;obtain⟨e,h⟩:=Dh T [] [] .un (by rw[cv];exact(cq.1 d).1) (by simp;omega) J;rw[cv,cv]at h;obtain⟨p,l⟩:=AF (g:=gN 4) (i:=2) (fk:=c1 (ra rD "name") aU) (fv:=c1 (ra w5 "most") aU) I1 Mk.n (λm=>.int m.mo) (λc a s=>[.q (TD T),.q (MD M),.dk c a,e,s])
  (λm c a s=>⟨[.q (TD T),.q (MD M),.dk c a,e,.q (I1 m)],J,rU J (Sm m),J,rU J (HY m),λo j=>⟨_,J⟩⟩) M ((T.filter λt=>t.k.mk).map λt=>kS t.n) ((T.filter λt=>t.k.mk).map λz=>.int 1) .un d (by rw[ae];omega) (by rw[ae,ae])
 refine rH (ρ:=[.q (TD T),.q (MD M),.q (mD T M),e,p]) J ?_;unfold wg;refine(q8 J).t ?_;refine(q8 ((wW J).t h)).t ((q8 ((wW J).t l)).t ?_);unfold mD;rw[f,b];rfl
def KC(T:List Th)(c:T.length<=1000)(a:aE)(e8:List L4.D)(k:Kd):zB [.obj 14 ("kept_things" ::a) (TD T::e8),.str k.s]=Z (.b0 ((T.filter λt=>decide (t.k=k)).map λt=>D.str t.n)):=by let b:aO:=[.q (.obj 14 ("kept_things" ::a) (TD T::e8)),.q (.str k.s)];refine Bh (ρ:=b) J ?_;exact uC (vp e7 (λt=>D.str t.n) (λt=>decide (t.k=k)) T J c λt z=>⟨[.q (e7 t),.q (.str k.s)],[.q (e7 t),.q (.str k.s)],J,sL (qZ (rU J (Bt t)) J (Eh t.k k)),λz=>⟨_,rU J (xu t),J⟩,λz=>J⟩)
end
def vwD(V:List Vb):L4.D:=.M (V.flatMap λv=>v.ws.map kS) (V.flatMap λv=>v.ws.map λz=>tm v)
def W6:((av 64).map λm=>uJ [VD (vL m++v9)])=(av 64).map λm=>Z (vwD (vL m++v9)):=by kernel_rfl
def YW{m:Nat}(a:m<64):uJ [VD (vL m++v9)]=Z (vwD (vL m++v9)):=List.map_inj_left.1 W6 m (bz.2 a)
theorem Pn:∀V:List Vb,(V.flatMap λv=>v.ws.map kS).zip (V.flatMap λv=>v.ws.map λz=>tm v)=V.flatMap λv=>v.ws.map λx=>(kS x,tm v)
 |[]=>rfl
 |v::V=>by rw[c7,c7,c7,jV (by rw[ae,ae]),Pn V,j8]
def W7{V:List Vb}(b:(V.flatMap Vb.ws).Nodup){v:Vb}(a:v∈V):zP (vwD V) (.str v.n)=Z (tm v):=by
 show Z ((wy (V.flatMap λv=>v.ws.map kS) (V.flatMap λv=>v.ws.map λz=>tm v) (kS v.n)).getD .E)=_;rw[BU]
 .rfl
 .have:=Ax b;rw[List.map_flatMap]at this;exact this
 .rw[Pn];exact eE.2 ⟨v,a,az.2 ⟨v.n,bc,J⟩⟩
def wNs:aE:=["kept_things", "kept_marks", "kept_dark", "kept_ways", "kept_verbs", "shared_verbs", "your_name", "things_by_name", "mosts_by_name", "verbs_by_word", "kept_rules", "shared_rules", "copied_rules", "rules_by_verb"]
def f3(T:List Th)(M:List Mk)(dk:aE)(W:List Wy)(V:List Vb):L4.D:=.obj 14 (wNs.take 10) [TD T,MD M,.b0 (dk.map D.str),WD W,VD V,VD v9,.str (yN T),.M (nK T) (T.map e7),mD T M,vwD (V++v9)]
def n?:aE:=["one", "two", "alone", "way"]
def xL:aE:="here" ::nmL
def W8:(n?.all λf=>xL.all λx=>isF (su [.str f,.str x]))=γ:=by kernel_rfl
def G9{f x:Str}(a:f∈n?)(b:x∈xL):su [.str f,.str x]=Z (.I δ):=Pg (aC.1 (aC.1 W8 f a) x b)
def W9:(n?.all λf=>nmL.all λx=>isF (vE [.str f,.str x]))=γ:=by kernel_rfl
def Tp{f x:Str}(a:f∈n?)(b:x∈nmL):vE [.str f,.str x]=Z (.I δ):=Pg (aC.1 (aC.1 W9 f a) x b)
def Po{f:Str}(a:f∈n?):vE [.str f,.str "here"]=Z (.I γ):=zp (aC.1 (show (n?.all λf=>χ (vE [.str f,.str "here"]))=γ by kernel_rfl) f a)
def By(f x:Str):Prop:=(x="it" /\ f∈(["one", "two"]:aE))\/(x="other" /\ f="two")
def Ib{f x:Str}(h:By f x):su [.str f,.str x]=Z (.I γ):=by
 rcases h with ⟨rfl,h⟩|⟨rfl,rfl⟩
 .exact zp (aC.1 (show ((["one", "two"]:aE).all λf=>χ (su [.str f,.str "it"]))=γ by kernel_rfl) f h)
 .kernel_rfl
def Tm(f:Str)(N:aE)(x:Str):Prop:=x∈N\/x="here" \/ By f x
section
variable{T:List Th}{M:List Mk}{dk:aE}{W:List Wy}{V:List Vb}{f:Str}
def Pp(g:fb T M dk W){t:Th}(h:t∈T):t.n∈nmL:=g.nm _ (bB _ (bF h))
def YX(g:fb T M dk W){t:Th}(h:t∈T):tQ [f3 T M dk W V,.str t.n]=Z (e7 t):=by
 have e:tQ [f3 T M dk W V,.str t.n]=Z ((wy (nK T) (T.map e7) (kS t.n)).getD .E):=by kernel_rfl
 rw[e,EA g.ndT e7 h];rfl
def YY(g:fb T M dk W){q:Str×Int}(h:q∈mP T M):wq [f3 T M dk W V,.str q.1]=Z (.int q.2):=by
 have e:wq [f3 T M dk W V,.str q.1]=Z ((wy ((mP T M).map λq=>kS q.1) ((mP T M).map λq=>.int q.2) (kS q.1)).getD .E):=by kernel_rfl
 rw[e,BU (To g)]
 .rfl
 .rw[j8];exact bF h
def F0{c:FT}{e b:FE}{ρ a:aO}(h:c ρ=Z (γ,a)):C' c e b ρ=e a:=by unfold C';rw[h]
def nmd(g:fb T M dk W){t:Th}(h:t∈T):xI [f3 T M dk W V,.str t.n]=Z (e7 t):=by let a:aO:=[.q (f3 T M dk W V),.q (.str t.n)];refine rH (ρ:=a) J (rQ ?_);refine(F0 J).t ?_;exact um J J J J (YX g h)
def zq(g:fb T M dk W)(a:f∈n?){x:Str}(h:Tm f (T.map Th.n) x):yz [f3 T M dk W V,.str f,.str x]=Z (.I γ):=by
 let c:aO:=[.q (f3 T M dk W V),.q (.str f),.q (.str x)];refine rH (ρ:=c) J (rQ ?_);rcases h with h|rfl|h
 .obtain⟨t,b,rfl⟩:=az.1 h;refine(Cm (qX J (G9 a (aY _ (Pp g b))))).t ((Cm (qX J (Tp a (Pp g b)))).t ?_);exact qZ (qX J (nmd g b)) J J
 .exact(Cm (qX J (G9 a bc))).t (HZ (qX J (Po a)))
 .exact HZ (qX J (Ib h))
def ZQ{x:Str}(h:x∈P' T):∃t∈T,t.n=x/\t.k.hd=γ:=by obtain⟨t,a,rfl⟩:=az.1 h;exact⟨t,(bg.1 a).1,J,(bg.1 a).2⟩
def Pq{c b:FT}{ρ a:aO}(d:c ρ=Z (γ,a)):vX c b ρ=Z (γ,a):=by unfold vX;rw[d]
def Ei(g:fb T M dk W)(b:f∈n?){x:Str}(h:Tm f (P' T) x):zb [f3 T M dk W V,.str f,.str x]=Z (.I γ):=by
 let c:aO:=[.q (f3 T M dk W V),.q (.str f),.q (.str x)];refine rH (ρ:=c) J ?_;unfold Bo;rcases h with h|rfl|h
 .obtain⟨t,d,rfl,j⟩:=ZQ h;refine(q8 ((tY (zN (sL (qX J (G9 b (aY _ (Pp g d))))) (sL (qX J (Tp b (Pp g d)))))))).t (rQ ?_);have e:=nmd (V:=V) g d;refine(rT (qZ (qX J e) J J)).t ?_;have i:=um (g:=sM) (m:="can_hold") (a:=rK) (qX (a:=ax aa bQ) (ρ:=c) J e) J J J (LA t);rw[j]at i;exact i
 .exact sk ((sP (zN (sL (qX J (G9 b bc))) (sL (qX J (Po b))))))
 .exact sk ((sP (Pq (sL (qX J (Ib h))))))
def Tq(g:fb T M dk W){t:Th}(h:t∈T)(k:Kd):wD [f3 T M dk W V,.str t.n,.str k.s]=Z (.I (decide (t.k=k))):=by let a:aO:=[.q (f3 T M dk W V),.q (.str t.n),.q (.str k.s)];refine rH (ρ:=a) J (rQ ?_);have e:=nmd (V:=V) g h;exact(rT (qZ (qX J e) J J)).t (qZ (rU (qX J e) (Bt t)) J (Eh t.k k))
def Mv(T:List Th)(f x:Str):Prop:=(∃t∈T,t.n=x/\t.k≠.room)\/By f x
def JB(g:fb T M dk W)(c:f∈n?){x:Str}(h:Mv T f x):Bq [f3 T M dk W V,.str f,.str x]=Z (.I γ):=by
 let b:aO:=[.q (f3 T M dk W V),.q (.str f),.q (.str x)];refine rH (ρ:=b) J ?_;unfold Bp;rcases h with ⟨t,a,rfl,d⟩|h
 .refine(q8 ((tY (sL (qX J (G9 c (aY _ (Pp g a)))))))).t (rQ ?_);refine(rT (qZ (qX J (nmd g a)) J J)).t ((LF (qX J (Tq g a .room))).t ?_);rw[bx d];rfl
 .exact sk ((sP (sL (qX J (Ib h)))))
def Mt(T:List Th)(M:List Mk)(f:Str)(q:Str×Int):Prop:=q∈mP T M\/(By f q.1/\q.2<=3)
def LK(g:fb T M dk W){q:Str×Int}(h:q∈mP T M):q.1∈nmL:=by
 refine g.nm _ ?_;have a:q.1∈τ T M:=by rw[<-Ia];exact bF h
 rcases ba.1 a with a|a
 .obtain⟨t,b,e⟩:=az.1 a;exact bB _ (by rw[<-e];exact bF (bg.1 b).1)
 .exact bA _ a
def A6(g:fb T M dk W)(j:f∈n?){q:Str×Int}(h:Mt T M f q){v:Int}(m:0<=v)(i:v<=q.2):uL [f3 T M dk W V,.str f,.str q.1,.int v]=Z (.I γ):=by
 let a:aO:=[.q (f3 T M dk W V),.q (.str f),.q (.str q.1),.q (.int v),.un];have d:cT (c2 Ka aG aS) a=Z (δ,a):=by show Z (decide (v<0),a)=_;rw[bx (by omega)]
 have c:fu (vX (tT (cT (qY xb gX))) (cT (c2 Ka aG aS))) (rj cJ) rG a=Z (.nx a):=(tY (zN (Av (b:=γ) (sL (qX J (by kernel_rfl)))) d));rcases h with h|⟨h,o⟩
 .let l:aO:=[.q (f3 T M dk W V),.q (.str f),.q (.str q.1),.q (.int v),.q (.int q.2)];refine rH (ρ:=l) J ?_;unfold uK;refine(q8 c).t ((q8 ((tY (sL (qX J (G9 j (aY _ (LK g h)))))))).t ?_);have e:C' (cT (c1 (r6 (sG "str")) ai)) (se vI "most_of" aa bQ) bq a=Z (.int q.2,a):=by refine(F0 J).t ?_;exact um J J J J (YY g h)
  refine(q8 ((tI e))).t (rQ ((rT J).t (LC J J i)))
 .refine rH (ρ:=a) J ?_;unfold uK;refine(q8 c).t (sk ((sP (sL (qX J (Ib h)))).t (rQ (LC J J (by omega)))))
def atO(a b:Str):L4.D:=.obj 3 ["term", "place"] [.str a,.str b]
def hsO(a:Str):L4.D:=.obj 4 ["term"] [.str a]
def seO(a:Str):L4.D:=.obj 5 ["term"] [.str a]
def mkO(a:Str)(v:Int):L4.D:=.obj 6 ["term", "value"] [.str a,.int v]
def kiO(a k:Str):L4.D:=.obj 7 ["term", "kind"] [.str a,.str k]
def woO(a:Str):L4.D:=.obj 8 ["word"] [.str a]
def noO(d:L4.D):L4.D:=.obj 9 ["inner"] [d]
def boO(d e:L4.D):L4.D:=.obj 10 ["one", "other"] [d,e]
def mvO(a b:Str):L4.D:=.obj 11 ["term", "place"] [.str a,.str b]
def puO(a:Str)(v:Int):L4.D:=.obj 12 ["term", "value"] [.str a,.int v]
def liO:L4.D:=.obj 15 [] []
def Tk(w:L4.D)(f:Str)(n:Nat)(d:L4.D):Prop:=yr 16 14 d=γ/\∀j:Nat,n<j->j<=4->uX j [w,.str f,d,.int j]=Z (.I γ)
def Pu{w:L4.D}{a b:Sl}(j:Nat):fu (cT (c2 (fh δ) aG aS)) (rj cJ) rG [.q w,a,b,.q (.int ((j+1:Nat):Int))]=Z (.nx [.q w,a,b,.q (.int ((j+1:Nat):Int))]):=
 (tY (sL (qZ J J ((wC δ _ 0).t (by rw[bx (by omega:¬((j+1:Nat):Int)=0)];rfl)))))
def uT{w d:L4.D}{n:Nat}(b:r6 O8 d=Z (.I δ))(c:r6 Kt d=Z (.I δ))(e:yr 16 14 d=γ)(h:wu [w,.str f,d]=Z (.I γ)):Tk w f n d:=⟨e,λj i z=>by
 obtain⟨j,rfl⟩:∃k,j=k+1:=⟨j - 1,by omega⟩;let a:aO:=[.q w,.q (.str f),.q d,.q (.int ((j+1:Nat):Int))];refine rH (ρ:=a) J ?_;unfold uW;exact(q8 (Pu j)).t ((q8 ((tY (sL (rU J b))))).t ((q8 ((tY (sL (rU J c))))).t (rQ (qX J h))))⟩
def Xa{ρ:aO}{j:Nat}(h:cV 3 ρ=Z (.int ((j+1:Nat):Int),ρ)):c2 E6 aG aL ρ=Z (.int j,ρ):=(qZ h J J).t (by
 show Z (D.int (((j+1:Nat):Int) - 1),ρ)=_;rw[show ((j+1:Nat):Int) - 1=j by omega])
def Pw{w d:L4.D}{n:Nat}(h:Tk w f n d):Tk w f (n+1) (noO d):=⟨by
 have e:yr 16 14 (noO d)=(yr 16 14 d&&γ):=by kernel_rfl
 rw[e,h.1];rfl,λj c b=>by
 obtain⟨j,rfl⟩:∃k,j=k+1:=⟨j - 1,by omega⟩;let a:aO:=[.q w,.q (.str f),.q (noO d),.q (.int ((j+1:Nat):Int))];refine rH (ρ:=a) J ?_;unfold uW;refine(q8 (Pu j)).t (sk ((sP J).t (rQ ?_)));exact qX (qW J (qW J (qW J (qW (Xa J) J)))) (h.2 j (by omega) (by omega))⟩
def M5{w d e:L4.D}{n:Nat}(h:Tk w f n d)(b:Tk w f n e):Tk w f (n+1) (boO d e):=⟨by
 have q:yr 16 14 (boO d e)=(yr 16 14 d&&(yr 16 14 e&&γ)):=by kernel_rfl
 rw[q,h.1,b.1];rfl,λj l i=>by
 obtain⟨j,rfl⟩:∃k,j=k+1:=⟨j - 1,by omega⟩;let a:aO:=[.q w,.q (.str f),.q (boO d e),.q (.int ((j+1:Nat):Int))];refine rH (ρ:=a) J ?_;unfold uW;refine(q8 (Pu j)).t ((q8 ((tY J))).t (sk ((sP J).t (rQ ((rT (ρ1:=a) ?_).t ?_)))))
 .exact qX (qW J (qW J (qW J (qW (Xa J) J)))) (h.2 j (by omega) (by omega))
 .exact qX (qW J (qW J (qW J (qW (Xa J) J)))) (b.2 j (by omega) (by omega))⟩
end
section
variable{T:List Th}{M:List Mk}{dk:aE}{W:List Wy}{V:List Vb}{f:Str}{n:Nat}
def YZ(g:fb T M dk W)(c:f∈n?){a b:Str}(e:Tm f (T.map Th.n) a)(h:Tm f (P' T) b):Tk (f3 T M dk W V) f n (atO a b):=uT J J J (by
 let d:aO:=[.q (f3 T M dk W V),.q (.str f),.q (atO a b)];refine rH (ρ:=d) J ?_;unfold sE;exact sk ((sP J).t (rQ ((rT (qX J (zq g c e))).t (qX J (Ei g c h))))))
def tE{c:FT}{e:FS}{ρ:aO}{h:FS}(q:c ρ=Z (δ,ρ)):bt (fu c e rG) h ρ=h ρ:=q8 ((tY q))
def Xb(g:fb T M dk W)(d:f∈n?){a:Str}(c:Tm f (T.map Th.n) a):Tk (f3 T M dk W V) f n (hsO a):=uT J J J (by
 let b:aO:=[.q (f3 T M dk W V),.q (.str f),.q (hsO a)];refine rH (ρ:=b) J ?_;unfold sE;exact(tE J).t (sk ((sP J).t (rQ (qX J (zq g d c))))))
def Sn(g:fb T M dk W)(d:f∈n?){a:Str}(c:Tm f (T.map Th.n) a):Tk (f3 T M dk W V) f n (seO a):=uT J J J (by
 let b:aO:=[.q (f3 T M dk W V),.q (.str f),.q (seO a)];refine rH (ρ:=b) J ?_;unfold sE;exact(tE J).t (sk ((sP J).t (rQ (qX J (zq g d c))))))
def So(g:fb T M dk W)(d:f∈n?){q:Str×Int}(h:Mt T M f q){v:Int}(b:0<=v)(c:v<=q.2):Tk (f3 T M dk W V) f n (mkO q.1 v):=uT J J J (by
 let a:aO:=[.q (f3 T M dk W V),.q (.str f),.q (mkO q.1 v)];refine rH (ρ:=a) J ?_;unfold sE;exact(tE J).t ((tE J).t (sk ((sP J).t (rQ (qX J (A6 g d h b c)))))))
def Sq(g:fb T M dk W)(e:f∈n?){a k:Str}(d:Tm f (T.map Th.n) a)(h:k∈(["plain", "fixed", "box", "lamp", "room", "you"]:aE)):Tk (f3 T M dk W V) f n (kiO a k):=uT J J J (by
 let b:aO:=[.q (f3 T M dk W V),.q (.str f),.q (kiO a k)];refine rH (ρ:=b) J ?_;unfold sE;have c:rX [.str k,AB]=Z (.I γ):=zp (aC.1 (show ((["plain", "fixed", "box", "lamp", "room", "you"]:aE).all λx=>χ (rX [.str x,AB]))=γ by kernel_rfl) k h);exact(tE J).t ((tE J).t ((tE J).t (sk ((sP J).t (rQ ((rT (qX J (zq g e d))).t (qX J c))))))))
def Sr{w:L4.D}{x:Str}(c:x∈S2):Tk w "way" n (woO x):=uT J J J (by
 let a:aO:=[.q w,.q (.str "way"),.q (woO x)];refine rH (ρ:=a) J ?_;unfold sE;have b:tK [.str x]=Z (.I γ):=zp (aC.1 (show (S2.all λx=>χ (tK [.str x]))=γ by kernel_rfl) x c);exact(tE J).t ((tE J).t ((tE J).t ((tE J).t (sk ((sP J).t (rQ ((rT J).t (qX J b)))))))))
def Xc{w:L4.D}:Tk w f n liO:=uT J J J (by kernel_rfl)
def Dd(w:L4.D)(f:Str)(d:L4.D):Prop:=yr 16 14 d=γ/\CY [w,.str f,d]=Z (.I γ)
def Px(g:fb T M dk W)(d:f∈n?){q:Str×Int}(h:Mt T M f q){v:Int}(b:0<=v)(c:v<=q.2):Dd (f3 T M dk W V) f (puO q.1 v):=⟨J,by
 let a:aO:=[.q (f3 T M dk W V),.q (.str f),.q (puO q.1 v)];refine rH (ρ:=a) J ?_;unfold AE;exact sk ((sP J).t (rQ (qX J (A6 g d h b c))))⟩
def LL(g:fb T M dk W)(i:f∈n?){a b:Str}(m:Mv T f a)(o:Tm f (P' T) b)(p:a=(yN T)->∃t∈T,t.n=b/\t.k=.room):Dd (f3 T M dk W V) f (mvO a b):=⟨J,by
 let c:aO:=[.q (f3 T M dk W V),.q (.str f),.q (mvO a b)];have e:CW [f3 T M dk W V,.str f,mvO a b]=Z (.I γ):=by
  refine rH (ρ:=c) J ?_;unfold CV;refine(tE (zN (Av (sL (qX J (JB g i m)))) (Av (sL (qX J (Ei g i o)))))).t (rQ ?_);have d:c2 (fh γ) (c1 (ra u9 "term") ai) (se AD "you" aa rK) c=Z (.I (!decide (a=(yN T))),c):=qZ J J (yT γ a (yN T));by_cases h:a=(yN T)
  .obtain⟨t,q,j,l⟩:=p h;rw[bN h]at d;refine(Cm d).t (qX (ds:=[f3 T M dk W V,.str b,.str Kd.room.s]) J ?_);rw[<-j,Tq g q .room,bN l]
  .rw[bx h]at d;exact HZ d
 refine rH (ρ:=c) J ?_;unfold AE;exact(tE J).t (rQ ((rT J).t (qX J e)))⟩
end
def gl:List eu->List (List L4.D)->eu->List L4.D
 |k::b,a::dss,j=>if k=j then a else gl b dss j
 |_,_,_=>[]
theorem Py{d:L4.D}{k j:eu}:∀(a:List eu) (dss:List (List L4.D)),a.length=dss.length->(k=j->k∈a)->gl a (dw (λi c=>if i=k then c++[d]else c) a dss) j=gl a dss j++if k=j then [d]else []
 |[],[],_,f=>by rw[ak λh=>(by cases f h)];rfl
 |[],_::_,h,_=>by cases h
 |_::_,[],h,_=>by cases h
 |k0::a,c::dss,h,f=>by
  rw[f9];unfold gl;by_cases e:k0=j
  .subst e;rw[aj J,aj J];by_cases b:k0=k
   .rw[aj b,aj b.symm]
   .rw[ak b,ak λz=>b z.symm,bI]
  .rw[ak e,ak e];exact Py a dss (by simpa using h) λz=>by
    rcases aN.1 (f z)with y|y
    .exact ar (y.symm.t z) e
    .exact y
theorem Pz{d:L4.D}{k j:eu}:∀(a:List eu) (dss:List (List L4.D)),a.length=dss.length->k∉a->gl (a++[k]) (dss++[[d]]) j=gl a dss j++if k=j then [d]else []
 |[],[],_,_=>rfl
 |[],_::_,h,_=>by cases h
 |_::_,[],h,_=>by cases h
 |k0::a,c::dss,h,b=>by
  rw[jR,jR];unfold gl;by_cases e:k0=j
  .rw[aj e,aj e,ak λz=>b (by rw[z,e];exact bc),bI]
  .rw[ak e,ak e];exact Pz a dss (by simpa using h) λz=>b (aY _ z)
theorem PB{d:L4.D}{k:eu}{P Q:List L4.D->Prop}(e:∀a,P a->Q a)(f:∀a,P a->Q (a++[d])):∀(c:List eu) (dss:List (List L4.D)),(∀a∈dss,P a)->∀x∈dw (λi a=>if i=k then a++[d]else a) c dss,Q x
 |[],_,_,x,b=>by cases b
 |_::_,[],_,x,b=>by cases b
 |k0::c,a::dss,h,x,b=>by
  rw[f9]at b;rcases aN.1 b with rfl|b
  .have:=h a bc;split
   .exact f _ this
   .exact e _ this
  .exact PB e f c dss (λa hd=>h a (aY _ hd)) x b
theorem F1{d:L4.D}(hd:yr 16 14 d=γ):∀a:List L4.D,v7 16 14 a=γ->v7 16 14 (a++[d])=γ
 |[],_=>by rw[cv];unfold v7;rw[hd];rfl
 |x::a,h=>by rw[jR];unfold v7 at h ⊢;rw[aT]at h ⊢;exact⟨h.1,F1 hd a h.2⟩
theorem yD:∀a:List L4.D,(∀d∈a,yr 16 14 d=γ)->v7 16 14 a=γ
 |[],_=>by unfold v7;rfl
 |x::a,h=>by unfold v7;rw[aT];exact⟨h x bc,yD a λd hd=>h d (aY _ hd)⟩
def kv(d:L4.D):eu:=match ra uI "verb" d with
 |some x=>(ym x).getD (.inl 0)
 |none=>.inl 0
def gK(d:L4.D):Bool:=(match ra uI "verb" d with
 |some x=>(ym x).isSome
 |none=>δ)&&yr 16 14 d
set_option tactic.hygienic true
def Y0{d:L4.D}(h:gK d=γ):∃x,ra uI "verb" d=Z x/\ym x=Z (kv d):=by
 unfold gK at h;rw[aT]at h;obtain⟨h,_⟩:=h;unfold kv;split at h
 .rename_i x e;rw[e];cases a:ym x with
  |none=>rw[a]at h;cases h
  |some y=>exact⟨x,J,a⟩
 .cases h
set_option tactic.hygienic false
theorem PF:∀(L:List L4.D) (b:List eu) (dss:List (List L4.D)),(∀d∈L,gK d=γ)->b.length=dss.length->b.length+L.length<1000->(∀a∈dss,a.length+L.length<1000/\v7 16 14 a=γ)->
  ∃e dss',zR (ra uI "verb") L b dss=Z (e,dss')/\(∀j,gl e dss' j=gl b dss j++L.filter λd=>decide (kv d=j))/\∀a∈dss',v7 16 14 a=γ
 |[],b,dss,_,_,_,h=>⟨b,dss,J,λj=>by rw[List.filter_nil,bI],λa hd=>(h a hd).2⟩
 |d::L,b,dss,i,f,p,h=>by
  rw[aF]at p;have hL:∀a∈dss,a.length+L.length+1<1000/\v7 16 14 a=γ:=λa hd=>⟨by have:=(h a hd).1;rw[aF]at this;omega,(h a hd).2⟩;have gd:=i d bc;have l:yr 16 14 d=γ:=by unfold gK at gd;rw[aT]at gd;exact gd.2
  obtain⟨x,m,o⟩:=Y0 gd;have st:(yQ b dss (kv d) d).1.length=(yQ b dss (kv d) d).2.length/\(yQ b dss (kv d) d).1.length+L.length<1000/\(∀a∈(yQ b dss (kv d) d).2,a.length+L.length<1000/\v7 16 14 a=γ)/\∀j,gl (yQ b dss (kv d) d).1 (yQ b dss (kv d) d).2 j=gl b dss j++if kv d=j then [d]else []:=by
   unfold yQ;by_cases c:Gf b (kv d)=γ
   .rw[aj c];refine⟨by simp only[jC];omega,by simp only;omega,PB (λa h=>⟨by omega,h.2⟩) (λa h=>⟨by rw[au,c3];omega,F1 l a h.2⟩) b dss hL,λj=>Py b dss f λs=>BS.1 c⟩
   .rw[ak c];refine⟨by simp[f],by simp only[au,c3];omega,λa hd=>?_,λj=>Pz b dss f λz=>c (BS.2 z)⟩;rcases ba.1 hd with hd|hd
    .exact⟨by have:=(hL a hd).1;omega,(hL a hd).2⟩
    .rw[bV.1 hd];exact⟨by simp only[c3];omega,F1 l [] (by unfold v7;rfl)⟩
  obtain⟨w,y,A,B⟩:=st;obtain⟨e,dss',r,t,u⟩:=PF L (yQ b dss (kv d) d).1 (yQ b dss (kv d) d).2 (λx q=>i x (aY _ q)) w y A;refine⟨e,dss',?_,λj=>?_,u⟩
  .unfold zR;simp only[m,o];rw[aj]
   .exact r
   .rw[aT];refine⟨bN (by omega),aC.2 λa hd=>bN (by have:=(hL a hd).1;omega)⟩
  .rw[t j,B j,iB,bO];by_cases c:kv d=j
   .simp[c]
   .simp[c]
def ruN:aE:=["verb", "tests", "deeds", "text", "refuses"]
def ruO(v:Str)(c a:List L4.D)(tx:Str)(b:Bool):L4.D:=.obj 13 ruN [.str v,.b0 c,.b0 a,.str tx,.I b]
structure Y1(w d:L4.D):Prop where
 r:Da [w,d]=Z (.I γ)
 g:gK d=γ
 c:CU [d]=Z d
section
variable{T:List Th}{M:List Mk}{dk:aE}{W:List Wy}{V:List Vb}{f:Str}{es:List L4.D}
def KD(b:((V++v9).flatMap Vb.ws).Nodup){v:Vb}(a:v∈V++v9):wt [f3 T M dk W V,.str v.n]=Z (tm v):=by
 have e:wt [f3 T M dk W V,.str v.n]=zP (vwD (V++v9)) (.str v.n):=by kernel_rfl
 rw[e,W7 b a]
def Ss(x:∀v∈V,v∈v6)(B:((V++v9).flatMap Vb.ws).Nodup){v:Vb}(c:v∈V++v9){a ds:List L4.D}(m:∀t∈a,Tk (f3 T M dk W V) v.f 2 t)(lt:a.length<=3)(hd:∀d∈ds,Dd (f3 T M dk W V) v.f d)(ld:ds.length<=3){i:Bool}(y:i=γ->ds=[]){tx:Str}(A:yA [.str tx]=Z (.I γ)):Y1 (f3 T M dk W V) (ruO v.n a ds tx i):=by
 let w:=f3 T M dk W V;let r:=ruO v.n a ds tx i;have l:v∈v6++v9:=by
  rcases ba.1 c with c|c
  .exact bB _ (x v c)
  .exact bA _ c
 have evo:=KD (T:=T) (M:=M) (dk:=dk) (W:=W) B c;have u:xm [w,.str v.n]=Z (.I γ):=by let j:aO:=[.q w,.q (.str v.n)];have C:uE [.str v.n]=Z (.I γ):=zp (aC.1 (show ((v6++v9).all λv=>χ (uE [.str v.n]))=γ by kernel_rfl) v l);have mt:se uf "verb_of" aa cD j=Z (tm v,j):=um J J J J evo;refine rH J (rQ ((rT (qX J C)).t ((rT (qZ mt J J)).t (qZ (rU mt J) J ?_))));rw[yT];simp
 refine⟨?_,?_,by kernel_rfl⟩
 .let j:aO:=[.q w,.q r,.un];let E:aO:=[.q w,.q r,.q (.str v.f)];refine rH (ρ:=E) J ?_;unfold CZ;refine(tE (zN J (zN (Av (sL (qX J u))) (Av (sL (qX J A)))))).t ?_;refine(q8 ((tI (rU (z:=.str v.f) (um J J J J evo) J)))).t (rQ ?_);have o:Ac [w,.str v.f,.b0 a]=Z (.I γ):=rH J (rQ ((rT (qX J (LG _ _ (by omega)))).t (vq id a (by rw[dy];rfl) (by omega) λt b=>⟨[.q t,.q w,.q (.str v.f)],[.q t,.q w,.q (.str v.f)],J,qX J ((m t b).2 4 (by decide) (by decide)),J⟩)));have p:Ad [w,.str v.f,.b0 ds]=Z (.I γ):=rH J (rQ ((rT (qX J (LG _ _ (by omega)))).t (vq id ds (by rw[dy];rfl) (by omega) λt b=>⟨[.q t,.q w,.q (.str v.f)],[.q t,.q w,.q (.str v.f)],J,qX J (hd t b).2,J⟩)));have q:ve [r]=Z (.I γ):=by
   cases i with
   |false=>kernel_rfl
   |true=>rw[show r=ruO v.n a [] tx γ from by show ruO v.n a ds tx γ=_;rw[y J]];kernel_rfl
  exact(rT (qX J o)).t ((rT (qX J p)).t (qX J q))
 .have e:gK r=(v7 16 14 a&&(v7 16 14 ds&&γ)):=by kernel_rfl
  rw[e,yD a λt h=>(m t h).1,yD ds λt h=>(hd t h).1];rfl
end
def wtL(u:Str)(w:Wy):List L4.D:=[atO u w.r,woO w.w]++match w.m with|none=>[]|some m=>[noO (mkO m 0)]
def goO(u:Str)(w:Wy):L4.D:=ruO "go" (wtL u w) [mvO u w.g] "You go." δ
def A21(u:Str):List L4.D:=(za [.str u]).getD []++(z5 []).getD []++(z6 []).getD []++(x9 []).getD []
def SH(u:Str)(W:List Wy):List L4.D:=A21 u++(W.map (goO u)++[ruO "go" [] [] "No way there." γ])++[ruO "wait" [] [] "Time goes by." δ]
def Y2(u:Str)(w:Wy):z7 [.str u,nj w]=Z (wtL u w):=by obtain⟨r,x,g,m⟩:=w;cases m<;>kernel_rfl
def Su(u:Str)(w:Wy):xk [.str "go", .b0 (wtL u w),.b0 [mvO u w.g],.str "You go."]=Z (goO u w):=by kernel_rfl
def Y3(u:Str)(W:List Wy)(c:W.length<=8):Bn [.str u,WD W]=Z (W.map (goO u)++[ruO "go" [] [] "No way there." γ]):=by
 let a:aO:=[.q (.str u),.q (WD W),.un];let b:aO:=[.q (.str u),.q (WD W),.q (.b0 (W.map (goO u)))];refine CK (ρ:=b) J ?_;unfold Bm;refine(q8 ((tI (sm (sR nj (goO u) W J (by omega) λw z=>⟨[.q (nj w),.q (.str u)],[.q (nj w),.q (.str u)],J,?_,J⟩))))).t ?_
 .exact qX (qW J (qW (sm (qX J (Y2 u w))) J)) (Su u w)
 .exact uC (sY J (by kernel_rfl) (by rw[ae];show W.length+1<=1000;omega))
def LM(u:Str):(A21 u).length<=50:=aH (by kernel_rfl)
def Xd(u:Str){W:List Wy}(a:W.length<=8):(SH u W).length<=100:=by have:=LM u;unfold SH;rw[au,au,au,ae];show (A21 u).length+(W.length+1)+1<=100;omega
def M6(u:Str)(W:List Wy)(b:W.length<=8):xl [.str u,WD W]=Z (SH u W):=by
 have:=LM u;let a:aO:=[.q (.str u),.q (WD W)];refine CK (ρ:=a) J (uC (sY (sm (sY (ρ1:=a) (by kernel_rfl) (sm (qX J (Y3 u W b))) ?_)) (by kernel_rfl) ?_))
 .rw[au,ae];show (A21 u).length+(W.length+1)<=1000;omega
 .rw[au,au,ae];show (A21 u).length+(W.length+1)+1<=1000;omega
def Tr(u:Str)(W:List Wy):∀d∈SH u W,gK d=γ:=λd hd=>by
 unfold SH at hd;rcases ba.1 hd with hd|hd
 .rcases ba.1 hd with hd|hd
  .exact aC.1 (show (A21 u).all gK=γ by kernel_rfl) d hd
  .rcases ba.1 hd with hd|hd
   .obtain⟨w,_,rfl⟩:=az.1 hd;obtain⟨r,x,g,m⟩:=w;cases m<;>kernel_rfl
   .rw[bV.1 hd];kernel_rfl
 .rw[bV.1 hd];kernel_rfl
def Xe{d:L4.D}(h:gK d=γ):yr 16 14 d=γ:=by unfold gK at h;rw[aT]at h;exact h.2
section
variable{T:List Th}{M:List Mk}{dk:aE}{W:List Wy}{V:List Vb}{R:List L4.D}
def wA(T:List Th)(M:List Mk)(dk:aE)(W:List Wy)(V:List Vb)(R:List L4.D)(c:L4.D):List L4.D:=[TD T,MD M,.b0 (dk.map D.str),WD W,VD V,VD v9,.str (yN T),.M (nK T) (T.map e7),mD T M,vwD (V++v9),.b0 R,.b0 (SH (yN T) W),.b0 R,c]
def wS(T:List Th)(M:List Mk)(dk:aE)(W:List Wy)(V:List Vb)(R:List L4.D)(c:L4.D)(q:Sl)(k:Nat):aO:=[.ob 14 (wNs.take k) ((wA T M dk W V R c).take k),.q (TD T),.q (MD M),.q (.b0 (dk.map D.str)),.q (WD W),.q (VD V),.q (.b0 R),q]
def JC{e:FE}{d:L4.D}{b:aE}{a:List L4.D}{r:aO}{h:aO}(c:e (.q (.obj 14 b a)::r.map Bf)=Z (d,h))(f:yr 16 14 d=γ):AN 16 e (.ob 14 b a::r)=Z (d,.ob 14 b a::r):=by unfold AN;simp only[c,f];rfl
def F2{c:Str}{e:FE}{d:L4.D}{a:aE}{b:List L4.D}{r:aO}(f:e (.ob 14 a b::r)=Z (d,.ob 14 a b::r))(h:a.contains c=δ)(i:b.length=a.length)(j:a.length<900):rY 14 0 c e (.ob 14 a b::r)=Z (.nx (.ob 14 (a++[c]) (b++[d])::r)):=by unfold rY;rw[f];show (if 14=14 then if a.contains c=γ then U else if b.length=a.length then if a.length<900 then Z (K?.nx (.ob 14 (a++[c]) (b++[d])::r))else U else U else U)=_;rw[aj J,h,ak br,aj i,aj j]
def Ie(V:List Vb)(lV:V.length<=6)(a b c d:L4.D)(f:aE)(e:List L4.D):xH [.obj 14 ("kept_things" ::"kept_marks" ::"kept_dark" ::"kept_ways" ::"kept_verbs" ::"shared_verbs" ::f) (a::b::c::d::VD V::VD v9::e)]=Z (VD (V++v9)):=by refine(Bh J (uC (sY J J (by rw[ae];show V.length+9<=1000;omega)))).t ?_;rw[<-aJ]
def Xf(b:∀v∈V,v∈v6):yr 16 14 (vwD (V++v9))=γ:=by
 show v7 16 14 _=γ;refine yD _ λd hd=>?_;obtain⟨v,a,hd⟩:=eE.1 hd;obtain⟨x,_,rfl⟩:=az.1 hd;refine aC.1 (show ((v6++v9).all λv=>yr 16 14 (tm v))=γ by kernel_rfl) v ?_;rcases ba.1 a with a|a
 .exact bB _ (b v a)
 .exact bA _ a
def PH(g:fb T M dk W){m:Nat}(l:m<64)(hR:∀r∈R,Y1 (f3 T M dk W (vL m)) r)(lR:R.length<=12):∃b dss,sJ [TD T,MD M,.b0 (dk.map D.str),WD W,VD (vL m),.b0 R]=Z (wNs,wA T M dk W (vL m) R (.M b (dss.map .b0)))/\∀j,gl b dss j=(R++SH (yN T) W).filter λd=>decide (kv d=j):=by
 have z:=Xd (yN T) g.w8;have y:=g.len;let V:=vL m;have lV:V.length<=6:=Ao m;have q:∀d∈R++SH (yN T) W,gK d=γ:=λd hd=>by
  rcases ba.1 hd with hd|hd
  .exact(hR d hd).g
  .exact Tr (yN T) W d hd
 obtain⟨b,dss,o,p,g3⟩:=PF (R++SH (yN T) W) [] [] q J (by rw[au];simp only[cu];omega) λi h=>(by cases h);let c:L4.D:=.M b (dss.map .b0);refine⟨b,dss,?_,λj=>(p j).t (cv _)⟩;let B:Sl:=.q (.I γ);have w:yr 16 14 c=γ:=by show v7 16 14 (dss.map .b0)=γ;exact yD _ λd hd=>by obtain⟨i,h,rfl⟩:=az.1 hd;exact g3 i h
 let S:=wS T M dk W V R c;have e:vg (S .un 0)=Z (.nx (S B 14)):=by
  unfold vg;refine(q8 (sW (qX (qW J (qW J (qW J (qW J (qW J (qW (sm (qX J Pk)) J)))))) (FZ g l)))).t ?_;refine(q8 (ρ':=S .un 1) (by kernel_rfl)).t ((q8 (ρ':=S .un 2) (by kernel_rfl)).t ((q8 (ρ':=S .un 3) (by kernel_rfl)).t ((q8 (ρ':=S .un 4) (by kernel_rfl)).t ((q8 (ρ':=S .un 5) (by kernel_rfl)).t ((q8 (ρ':=S .un 6) (by kernel_rfl)).t ?_)))));have eY:((T.filter λt=>decide (t.k=.you)).map λt=>D.str t.n)=[.str (yN T)]:=by rw[show (λt:Th=>D.str t.n)=D.str∘Th.n from J,<- aP,g.y1];rfl
  refine(q8 (F2 (JC (qZ (um J J J J ((KC T (by omega) _ _ .you).t (by rw[eY]))) J J) J) J J (by decide))).t ?_;refine(q8 (F2 (qX J (KB T (by omega) g.ndT)) J J (by decide))).t ?_;refine(q8 (F2 (qX J (Pm g)) J J (by decide))).t ?_;refine(q8 (F2 (JC (qX (qW (um J J J J (Ie V lV _ _ _ _ _ _)) J) (YW l)) (Xf λv u=>Dg u)) J J (by decide))).t ?_;refine(q8 ((tI (JC ((rT (qX J (LG _ _ (by omega)))).t (vq id R (by rw[dy];rfl) (by omega) λr f=>?_)) J)))).t ?_
  .exact⟨[.q r,.q (f3 T M dk W V)],[.q r,.q (f3 T M dk W V)],J,qX J (hR r f).r,J⟩
  refine(q8 (ρ':=S B 10) (by kernel_rfl)).t ((q8 (ρ':=S B 11) (by kernel_rfl)).t ?_);refine(q8 (F2 (JC (sm (qX J (M6 (yN T) W g.w8))) (yD _ λd hd=>Xe (Tr (yN T) W d hd))) J J (by decide))).t ?_;refine(q8 (F2 ((sm (sR (ρ1:=S B 12) id id R (by rw[dy];rfl) (by omega) λr f=>⟨[.q r],[.q r],J,qX J (hR r f).c,J⟩)).t (by rw[dy];rfl)) J J (by decide))).t ?_;refine F2 (JC (qX (qW (sm (sY J J (by omega))) J) ?_) w) J J (by decide);refine rH (ρ:=[.q (.b0 (R++SH (yN T) W)),.un,.un]) J ?_;show (match zR (ra uI "verb") (R++SH (yN T) W) [] []with
   |some (b,dss)=>Z (K?.rt (.M b (dss.map .b0)) [.q (.b0 (R++SH (yN T) W)),.un,.un])
   |none=>U)=_
  rw[o]
 unfold sJ tH;rw[aj (show [TD T,MD M,.b0 (dk.map D.str),WD W,VD V,.b0 R].length=6 from J)];rw[show vg (stI 14 8 [TD T,MD M,.b0 (dk.map D.str),WD W,VD V,.b0 R])=Z (.nx (S B 14)) from e];rfl
end
def W2{c d:Type}(x:Option (c×d))(k:c->d->Prop):Prop:=∃a b,x=Z (a,b)/\k a b
def Ws(x:Option K?)(n:aO->Prop)(r:L4.D->aO->Prop):Prop:=∃o,x=Z o/\match o with
 |.nx a=>n a
 |.rt d a=>r d a
 |.T l a=>r (.b0 l) a
 |_=>False
def rE{c d:Type}{x:Option (c×d)}{a:c}{b:d}{k:c->d->Prop}(h:x=Z (a,b))(p:k a b):W2 x k:=⟨a,b,h,p⟩
section
variable{f g:FS}{c c':FT}{e e':FE}{a:FA}{ρ ρ':aO}{n:aO->Prop}{r k:L4.D->aO->Prop}{kb:Bool->aO->Prop}{kl:List L4.D->aO->Prop}{i:Nat}
def rl(w:Ws (f ρ) (λρ=>Ws (g ρ) n r) r):Ws (bt f g ρ) n r:=by
 obtain⟨o,e,p⟩:=w;cases o with
 |nx ρ=>obtain⟨o,b,p⟩:=p;exact⟨o,(q8 e).t b,p⟩
 |rt d ρ=>exact⟨_,sk e,p⟩
 |T d ρ=>exact⟨_,by unfold bt;rw[e],p⟩
 |_=>exact p.elim
def wI(h:f ρ=Z (.nx ρ'))(p:n ρ'):Ws (f ρ) n r:=⟨_,h,p⟩
def s_y(h:c ρ=Z (γ,ρ'))(w:Ws (f ρ') n r):Ws (fu c f g ρ) n r:=by unfold Ws;rw[sP h];exact w
def s_n(h:c ρ=Z (δ,ρ'))(w:Ws (g ρ') n r):Ws (fu c f g ρ) n r:=by unfold Ws;rw[tY h];exact w
def PJ(w:W2 (c ρ) λb ρ=>(b=γ->Ws (f ρ) n r)/\(b=δ->Ws (g ρ) n r)):Ws (fu c f g ρ) n r:=by
 obtain⟨b,ρ',e,y,z⟩:=w;cases b with
 |true=>exact s_y e (y J)
 |false=>exact s_n e (z J)
def sg(w:W2 (e ρ) λd ρ=>n (ρ.set i (.q d))):Ws (rO i e ρ) n r:=by obtain⟨d,ρ',h,p⟩:=w;exact⟨_,tI h,p⟩
def Xg(w:W2 (a ρ) λd ρ=>n (ρ.set i (.J d))):Ws (sZ i a ρ) n r:=by obtain⟨d,ρ',h,p⟩:=w;exact⟨_,Ew h,p⟩
def Di(w:W2 (e ρ) λz ρ=>n ρ):Ws (rq e ρ) n r:=by obtain⟨d,ρ',h,p⟩:=w;exact⟨_,sW h,p⟩
def yd(w:W2 (e ρ) r):Ws (rj e ρ) n r:=by obtain⟨d,ρ',h,p⟩:=w;exact⟨_,rQ h,p⟩
def PK(w:W2 (a ρ) λd=>r (.b0 d)):Ws (sq a ρ) n r:=by obtain⟨d,ρ',h,p⟩:=w;exact⟨_,uC h,p⟩
def M7{g:FG}(w:W2 (e ρ) λd ρ=>∃ρ',g d ρ=Z ρ'/\n ρ'):Ws (EZ e g ρ) n r:=by obtain⟨d,ρ',h,b,j,p⟩:=w;exact⟨.nx b,by unfold EZ;rw[h];simp only[j],p⟩
def w_L(w:W2 (a ρ) λd ρ=>k (.b0 d) ρ):W2 (cL a ρ) k:=by obtain⟨d,ρ',h,p⟩:=w;exact⟨_,_,sm h,p⟩
def Y4{j:List L4.D}(l:uv ρ i=Z j)(w:W2 (e ρ) λd ρ=>∃b,uv ρ i=Z b/\b.length<1000/\k .E (putAt ρ i (b++[d]))):W2 (uP i e ρ) k:=by obtain⟨d,q,h,b,m,o,p⟩:=w;exact⟨_,_,vy l h m o,p⟩
def M8(w:W2 (e ρ) λd ρ=>∃m:Nat,d=.int m/\m<=100/\kl ((av m).map λj:Nat=>D.int j) ρ):W2 (D? e ρ) kl:=by obtain⟨_,b,h,m,rfl,l,p⟩:=w;refine⟨_,b,?_,p⟩;unfold D?;rw[h];dsimp only;rw[aj (by omega),gn];unfold IZ;simp
def s_g{R:aO->Prop}(p:R ρ)(k:∀ρ,R ρ->Ws (f ρ) n r):Ws (f ρ) n r:=k _ p
def j'{h:FS}(q:c ρ=Z (δ,ρ'))(w:Ws (g ρ') n r):Ws (bt (fu c h rG) g ρ) n r:=rl (s_n q (wI J w))
def ν{h:FS}(q:c ρ=Z (γ,ρ'))(w:Ws (f ρ') (λρ=>Ws (g ρ) n r) r):Ws (bt (fu c f h) g ρ) n r:=rl (s_y q w)
def Xh{k:Option Int->aO->Prop}(w:W2 (e ρ) λd ρ=>∃j,d=.int j/\k (Z j) ρ):W2 (T1 e ρ) k:=by obtain⟨_,ρ',h,j,rfl,p⟩:=w;exact⟨Z j,ρ',by unfold T1;rw[h],p⟩
def Y5{lo hi:FO}(w:W2 (e ρ) λd ρ=>∃ds,d=.b0 ds/\W2 (lo ρ) λl ρ=>W2 (hi ρ) λu ρ=>kl (n3 ds l u) ρ):W2 (Gg e lo hi ρ) kl:=by obtain⟨_,m,h,ds,rfl,l,o,b,u,q,j,p⟩:=w;exact⟨_,_,by unfold Gg;rw[h];simp only[b,j],p⟩
def ZR(w:W2 (c ρ) λb ρ=>(b=γ->W2 (c' ρ) kb)/\(b=δ->kb δ ρ)):W2 (vw c c' ρ) kb:=by
 obtain⟨b,d,h,y,z⟩:=w;unfold vw;rw[h];cases b with
 |true=>exact y J
 |false=>exact⟨_,_,J,z J⟩
theorem Y6{a:FG}{q:Nat->aO->Prop}:∀(b:List L4.D) (i:Nat) (ρ:aO),q i ρ->(∀m d ρ,b[m]?=Z d->q (i+m) ρ->∃l,a d ρ=Z l/\Ws (f l) (q (i+m+1)) r)->Ws (i2 a f b ρ) (q (i+b.length)) r
 |[],i,ρ,j,_=>⟨_,J,j⟩
 |d::b,i,ρ,j,st=>by
  obtain⟨l,u,o,w,p⟩:=st 0 d ρ J j;unfold Ws i2;simp only[u,w];cases o with
  |nx t=>rw[aF,show i+(b.length+1)=i+1+b.length by omega];exact Y6 b (i+1) t p λm d ρ h j=>by rw[show i+1+m=i+(m+1) by omega]at j ⊢;exact st (m+1) d ρ h j
  |rt d ρ=>exact⟨_,J,p⟩
  |T d ρ=>exact⟨_,J,p⟩
  |_=>exact p.elim
def Ig{s:FA}{a:FG}(w:W2 (s ρ) λds ρ=>∃b:Nat->aO->Prop,b 0 ρ/\(∀m d ρ,ds[m]?=Z d->b m ρ->∃ρ1,a d ρ=Z ρ1/\Ws (f ρ1) (b (m+1)) r)/\∀ρ,b ds.length ρ->n ρ):Ws (uH s a f ρ) n r:=by
 obtain⟨ds,ρ',q,b,j,st,fin⟩:=w;obtain⟨o,e,p⟩:=Y6 ds 0 ρ' j λm d ρ h j=>by rw[gA]at j ⊢;exact st m d ρ h j
 rw[gA]at p;refine⟨o,(wW q).t e,?_⟩;cases o with
 |nx ρ=>exact fin ρ p
 |_=>exact p
end
section
variable{es:List L4.D}{k:L4.D->aO->Prop}{s:aO}{e a:FE}
def KE{f n:Nat}{b:FS}{ds:List L4.D}{Q:L4.D->Prop}(c:ds.length=f)(w:Ws (b (C? n ds)) (λz=>False) λd z=>Q d):∃d,e0 f n b ds=Z d/\Q d:=by
 obtain⟨o,e,p⟩:=w;cases o with
 |rt d h=>exact⟨d,rH c e,p⟩
 |T d h=>exact⟨_,Bh c e,p⟩
 |_=>exact p.elim
def KF{c n:Nat}{b:FS}{ds:List L4.D}{z:L4.D}(f:ds.length=c)(w:Ws (b (C? n ds)) (λx=>False) λd x=>d=z):e0 c n b ds=Z z:=by obtain⟨_,e,rfl⟩:=KE f w;exact e
end
def snoc{b:Type}{P:b->Prop}{l:List b}{x:b}(h:∀y∈l,P y)(c:P x):∀y∈l++[x],P y:=λy a=>(ba.1 a).elim (h y) λa=>by rw[bV.1 a];exact c
def F3{n m:Nat}{d:L4.D}(h:((av n).map λj:Nat=>D.int j)[m]?=Z d):m<n/\d=.int m:=by
 rw[bp]at h;by_cases a:m<n
 .rw[jB a]at h;exact⟨a,(cF h).symm⟩
 .rw[gb (by rw[bL];omega)]at h;cases h
abbrev dN(k:Nat):L4.D:=.int (k:Nat)
def dl(l:List Nat):L4.D:=.b0 (l.map dN)
def gd(l:List Nat)(i:Nat):Nat:=l.getD i 0
def vV{l:List Nat}{i:Nat}(h:i<l.length):ew (dl l) (dN i)=Z (dN (gd l i)):=Et (by
 rw[bp,bb h];unfold gd;rw[cp,bb h];rfl)
def md{a b:Nat}(h:0<b):rM (dN a) (dN b)=Z (dN (a % b)):=yM (by omega)
def dv{a b:Nat}(h:0<b)(c:b<1073741824):sF (dN a) (dN b)=Z (dN (a / b)):=ub (by omega) (by omega)
def Cn{L:aE}{i:Nat}(h:i<L.length):ew (.b0 (L.map D.str)) (dN i)=Z (.str (L.getD i "")):=Et (by
 rw[bp,bb h,cp,bb h];rfl)
def sy{a:Type}{L:List a}{i:Nat}{z:a}(h:i<L.length):L.getD i z∈L:=by rw[cp,bb h];exact gv h
def Y7{m n i:Nat}{b A B f:FS}{s:FA}{a:FG}{l:List L4.D}{h j:aO}{Q:List L4.D->Prop}(y:b=bt A (bt B (bt (uH s a f) (sq (El i)))))(z:l.length=m)(u:A (C? n l)=Z (.nx h))(x:B h=Z (.nx j))(w:Ws (uH s a f j) (λr=>∃c d,El i r=Z (c,d)/\Q c) λk k=>False):∃c,pk m n b l=Z c/\Q c:=by
 subst y;obtain⟨o,e,p⟩:=w;cases o with
 |nx r=>obtain⟨c,d,t,q⟩:=p;exact⟨c,CK z ((q8 u).t ((q8 x).t ((q8 e).t (uC t)))),q⟩
 |_=>exact p.elim
def JD(c:Int)(n:Nat)(u:n<=100):∃l:List Nat,l.length=n/\vo [.int c,dN n]=Z (l.map dN):=by
 let r:=λ(i:Nat) (w:aO)=>∃(l:List Nat) (e8:Int) (f j:Sl),w=[.q (.int c),.q (dN n),.J (l.map dN),.q (.int e8),f,j]/\l.length=i
 suffices h:∃m,vo [.int c,dN n]=Z m/\∃l:List Nat,m=l.map dN/\l.length=n by obtain⟨m,e,l,rfl,a⟩:=h;exact⟨l,a,e⟩
 refine Y7 (n:=6) (b:=zd) J J J J (Ig (M8 (rE J ⟨n,J,u,r,⟨[],c,.un,.un,J,J⟩,?_,?_⟩)))
 .rintro i _ _ hd ⟨l,e8,f,j,rfl,a⟩;obtain⟨y,rfl⟩:=F3 hd;have hll:(l.map dN).length<1000:=by rw[ae];omega
  have app:∀v:Nat,l.map dN++[dN v]=(l++[v]).map dN:=λv=>by rw[aJ];rfl
  refine⟨_,J,PJ (ZR (rE (sL (qZ J J J)) ⟨λs=>rE (sL (qZ J J J)) ⟨λt=>?_,λs=>?_⟩,λs=>⟨λz=>(by cases z),λs=>?_⟩⟩))⟩
  .have A:0<e8:=bK t;obtain⟨v,d⟩:=lu (iN e8 (show (10007:Int)≠0 by decide));exact rl (Di (Y4 J (rE (qZ J J (yM (by decide))) ⟨_,J,hll,sg (rE (qZ J J (ub (by decide) (by decide))) ⟨l++[v],_,_,_,by rw[<-app,show dN v=.int (e8 % 10007) from bG D.int d.symm];rfl,by rw[au,a];rfl⟩)⟩)))
  all_goals
   have key:∀x:Int,0<=x % 2147483647/\x % 2147483647<2147483647:=λx=>⟨iN _ (by decide),mH _ (by decide)⟩;let o:Int:=(c % 2147483647+7919 * i+1) * 48271 % 2147483647;let p:Int:=o * (o / 1009+69621) % 2147483647;let q:Int:=p * (p / 2003+40692) % 2147483399;obtain⟨v,d⟩:=lu (show 0<=q from iN _ (by decide));refine rl (sg (rE (qZ (qZ (qZ (qZ (qZ J J (yM (by decide))) (qZ J J (uU (.inl (by decide)))) J) J J) J (uU (.inr (by decide)))) J (yM (by decide))) ?_));refine rl (sg (rE (qZ (qZ J (qZ (qZ J J (ub (by decide) (by decide))) J J) (uU (.inl (BP (key _).1 (key _).2)))) J (yM (by decide))) ?_));exact Di (Y4 J (rE (qZ (qZ J (qZ (qZ J J (ub (by decide) (by decide))) J J) (uU (.inl (BP (key _).1 (key _).2)))) J (yM (by decide))) ⟨_,J,hll,l++[v],e8,_,_,by rw[<-app,show dN v=.int q from bG D.int d.symm];rfl,by rw[au,a];rfl⟩))
 .rintro _ ⟨l,e8,f,j,rfl,a⟩;rw[ae,bL]at a;exact⟨_,_,J,l,J,a⟩
def Y8{a x:Str}(b:a∈ahL)(c:x∈smL):a++x∈nmL:=by
 have h:a++x∈nmA a:=az.2 ⟨x,c,J⟩;simp only[ahL,aN,bS,or_false]at b;rcases b with rfl|rfl|rfl|rfl
 .exact bB _ (bB _ h)
 .exact bB _ (bB _ h)
 .exact bB _ (bA _ h)
 .exact bA _ h
def Y9:(ahL.all λa=>decide (nmA a).Nodup)=γ:=by kernel_rfl
def Za:((av 17).all λs=>(av 16).all λt=>decide ((av 14).map λk=>(s+k * (1+t)) % 17).Nodup)=γ:=by kernel_rfl
def nmF(a:Str)(x t k:Nat):Str:=a++smL.getD ((x+k * (1+t)) % 17) ""
def Xj(a:Str)(x t k:Nat):nmF a x t k=(nmA a).getD ((x+k * (1+t)) % 17) "" := by have h:(x+k * (1+t)) % 17<smL.length:=aD _ (by decide);unfold nmF nmA;rw[cp,cp,bp,bb h];rfl
def Zb{a:Str}(h:a∈ahL)(x:Nat){t:Nat}(o:t<16):((av 14).map (nmF a x t)).Nodup:=by
 have d:=bK (aC.1 (aC.1 Za (x % 17) (bz.2 (aD _ (by decide)))) t (bz.2 o));have f:=bK (aC.1 Y9 a h);rw[show (λk=>(x % 17+k * (1+t)) % 17)=λk=>(x+k * (1+t)) % 17 from funext λk=>jX _ _ _]at d;have e:(av 14).map (nmF a x t)=((av 14).map λk=>(x+k * (1+t)) % 17).map λi=>(nmA a).getD i "" := by rw[aP];exact List.map_congr_left λk w=>Xj a x t k
 rw[e];have c:(nmA a).length=17:=by unfold nmA;rw[ae];rfl
 have b:∀z,z % 17<(nmA a).length:=λz=>by rw[c];exact aD _ (by decide)
 refine mO.2 (d.imp_of_mem λ{i j} l m p q=>p ?_);obtain⟨_,_,rfl⟩:=az.1 l;obtain⟨_,_,rfl⟩:=az.1 m;rw[cp,bb (b _),cp,bb (b _)]at q;exact(iA f).1 q
structure Nms(N:aE):Prop where
 len:N.length=14
 nd:N.Nodup
 nm:∀x∈N,x∈nmL
def PL{l:List Nat}(j:l.length=32):∃N,zf [dl l]=Z (.b0 (N.map D.str))/\Nms N:=by
 let a:=ahL.getD (gd l 0 % 4) "";have d:a∈ahL:=sy (aD _ (by decide));let N:=(av 14).map (nmF a (gd l 1) (gd l 2 % 16));refine⟨N,?_,by show ((av 14).map _).length=14;rw[ae];rfl,Zb d _ (aD _ (by decide)),λx e=>?_⟩
 .let c:aO:=[.q (dl l),.q (.b0 (smL.map D.str)),.q (.str a)];refine Bh (ρ:=c) J ?_;unfold ze;refine(q8 J).t ((q8 J).t ((q8 (tI (qZ (y:=dN (gd l 0 % 4)) J (qZ (qZ J J (vV (i:=0) (by omega))) J (md (b:=4) (by decide))) (Cn (L:=ahL) (show gd l 0 % 4<4 from aD _ (by decide)))))).t ?_));refine(uC (sR (λk:Nat=>dN k) (λk=>.str (nmF a (gd l 1) (gd l 2 % 16) k)) (av 14) (ρ1:=c) (by kernel_rfl) (by rw[bL];decide) λk f=>⟨[.q (dN k),.q (.str a),.q (.b0 (smL.map D.str)),.q (dl l)],_,J,qZ (x:=.str a) J (qZ J (qZ (y:=dN 17) (qZ (y:=dN (k * (1+gd l 2 % 16))) (qZ J J (vV (i:=1) (by omega))) (qZ J (qZ J (qZ (qZ J J (vV (i:=2) (by omega))) J (md (b:=16) (by decide))) J) (uU (.inl ?_))) J) J (md (b:=17) (by decide))) (Cn (L:=smL) (show (gd l 1+k * (1+gd l 2 % 16)) % 17<17 from aD _ (by decide)))) ?_,J⟩)).t (by show _=Z (K?.T (((av 14).map (nmF a (gd l 1) (gd l 2 % 16))).map D.str) c);rw[aP];rfl)
  .have:=bz.1 f;exact BP (by omega) (by omega)
  .have e:smL.getD ((gd l 1+k * (1+gd l 2 % 16)) % 17) "" ∈ smL:=sy (aD _ (by decide));have m:=bK (aC.1 (show (ahL.all λx=>decide (x.length<=8))=γ by kernel_rfl) a d);have o:=bK (aC.1 (show (smL.all λx=>decide (x.length<=8))=γ by kernel_rfl) _ e);show (if a.length+(smL.getD ((gd l 1+k * (1+gd l 2 % 16)) % 17) "").length<=100000 then Z (D.str _)else U)=_;rw[aj (by omega)];rfl
 .obtain⟨k,_,rfl⟩:=az.1 e;exact Y8 d (sy (aD _ (by decide)))
def muL:List Nat:=[1,1,2,2,4,6,7,24]
def Gn(l:List Nat)(k:Nat):Nat:=(gd l 3+k * muL.getD (gd l 4 % 8) 0) % 25
def U?(l:List Nat):Str:=tlL.getD (gd l 5 % 3) ""
def clF(l:List Nat)(k:Nat):Str:=Pr.getD (Gn l k % 5) "" ++ U? l
def laF(l:List Nat)(k:Nat):Str:=Q?.getD (Gn l k / 5) "" ++ U? l
def exF(l:List Nat)(k:Nat):Str:=exL.getD (gd l 8 / (1+k) % 3) ""
def r?(l:List Nat)(k:Nat):aE:=if gd l 6 / (1+k) % 3=0 then l' [clF l k,laF l k] (gd l 7 / (1+k) % 3) (exF l k)else [clF l k,laF l k]
def JE(l:List Nat):U? l∈tlL:=sy (aD _ (by decide))
def Ts(l:List Nat)(k:Nat):exF l k∈exL:=sy (aD _ (by decide))
def PM(l:List Nat)(k:Nat):Gn l k<25:=aD _ (by decide)
def LN(l:List Nat)(k:Nat):Gn l k % 5<Pr.length:=aD _ (by decide)
def LO(l:List Nat)(k:Nat):Gn l k / 5<Q?.length:=by have:=PM l k;show _<5;omega
def KG{l:List Nat}{k:Nat}{x:Str}(h:x∈r? l k):x=clF l k\/x=laF l k\/x∈exL:=by
 unfold r? at h;split at h
 .unfold l' at h;rcases ba.1 h with h|h
  .have:=jz h;simp only[aN,bS,or_false]at this;exact this.elim .inl λh=>.inr (.inl h)
  .rcases aN.1 h with rfl|h
   .exact .inr (.inr (Ts l k))
   .have:=l7 h;simp only[aN,bS,or_false]at this;exact this.elim .inl λh=>.inr (.inl h)
 .simp only[aN,bS,or_false]at h;exact h.elim .inl λh=>.inr (.inl h)
def Zc(l:List Nat)(k:Nat):clF l k∈r? l k:=by
 unfold r?;split
 .have h:gd l 7 / (1+k) % 3<3:=aD _ (by decide);generalize gd l 7 / (1+k) % 3=p at h;rcases(by omega:p=0\/p=1\/p=2)with rfl|rfl|rfl<;>simp[l']
 .simp
def Zd(l:List Nat)(k:Nat):laF l k∈r? l k:=by
 unfold r?;split
 .have h:gd l 7 / (1+k) % 3<3:=aD _ (by decide);generalize gd l 7 / (1+k) % 3=p at h;rcases(by omega:p=0\/p=1\/p=2)with rfl|rfl|rfl<;>simp[l']
 .simp
def Ih(l:List Nat)(k:Nat):2<=(r? l k).length/\(r? l k).length<=3:=by
 unfold r?;split
 .have h:gd l 7 / (1+k) % 3<3:=aD _ (by decide);generalize gd l 7 / (1+k) % 3=p at h;rcases(by omega:p=0\/p=1\/p=2)with rfl|rfl|rfl<;>exact⟨by simp[l'],by simp[l']⟩
 .exact⟨by simp,by simp⟩
def Tt{x t:Str}(b:x∈Pr++Q?)(a:t∈tlL):x++t∈wpL:=bA _ (eE.2 ⟨t,a,az.2 ⟨x,b,J⟩⟩)
def PN{l:List Nat}{k:Nat}{x:Str}(h:x∈r? l k):x∈wpL:=by
 rcases KG h with rfl|rfl|h
 .exact Tt (bB _ (sy (LN l k))) (JE l)
 .exact Tt (bA _ (sy (LO l k))) (JE l)
 .exact bB _ h
def tb:(tlL.all λt=>Pr.all λx=>Q?.all λy=>decide (x++t≠y++t)&&decide (x++t∉exL)&&decide (y++t∉exL))=γ:=by kernel_rfl
def tc:(tlL.all λt=>(av 5).all λi=>(av 5).all λj=>decide (i=j)||(decide (Pr.getD i "" ++ t≠Pr.getD j "" ++ t)&&decide (Q?.getD i "" ++ t≠Q?.getD j "" ++ t)))=γ:=by kernel_rfl
def un3(l:List Nat)(k a:Nat):clF l k≠laF l a/\clF l k∉exL/\laF l a∉exL:=by have h:=aC.1 (aC.1 (aC.1 tb _ (JE l)) _ (sy (z:=("" : Str)) (LN l k))) _ (sy (z:=("" : Str)) (LO l a));simp only[aT,bR]at h;exact⟨h.1.1,h.1.2,h.2⟩
def Ze(l:List Nat)(k:Nat):(r? l k).Nodup:=by
 obtain⟨c,e,f⟩:=un3 l k k;have d:=Ts l k;have a:exF l k≠clF l k:=λz=>e (z▸d);have b:exF l k≠laF l k:=λz=>f (z▸d);unfold r?;split
 .have h:gd l 7 / (1+k) % 3<3:=aD _ (by decide);generalize gd l 7 / (1+k) % 3=p at h;rcases(by omega:p=0\/p=1\/p=2)with rfl|rfl|rfl<;>simp[l',c,a,b,a.symm,b.symm]
 .simp[c]
def wqL:aE:="room" ::"me" ::"myself" ::wpL
def KH{x:Str}(h:x∈wqL):tK [.str x]=Z (.I γ):=zp (aC.1 (show (wqL.all λx=>χ (tK [.str x]))=γ by kernel_rfl) x h)
def zr{w:aE}(f:1<=w.length)(h:w.length<=4)(b:∀x∈w,x∈wqL)(d:w.Nodup):vQ [.ea (w.map D.str)]=Z (.I γ):=by let a:aO:=[.q (.ea (w.map D.str))];refine rH (ρ:=a) J ?_;unfold z4;have e:uG vY vY aL (c1 ux aa) (cC yX) a=Z (.I γ,a):=Cj J (rU J (by show Z (D.int _)=_;rw[ae])) J (by omega) (by show (w.length:Int)<=4;omega);refine(tE (zN J (Av (sL e)))).t (rQ ((rT (vq D.str w J (by omega) λx c=>⟨_,_,J,qX J (KH (b x c)),J⟩)).t (qX J (Kw d (by omega)))))
def KI(a b:aE)(d:b.length<=100):wN [.ea (a.map D.str),.ea (b.map D.str)]=Z (.I (b.all λx=>decide (x∈a))):=by let c:aO:=[.q (.ea (a.map D.str)),.q (.ea (b.map D.str))];refine rH (ρ:=c) J (rQ (rU (sm (sR D.str (λx=>.I (decide (x∈a))) b J (by omega) λx z=>⟨[.q (.str x),.q (.ea (a.map D.str))],_,J,qZ J J (Jn δ x a),J⟩)) (Lr b λx=>decide (x∈a))))
def Zf:((av 25).all λs=>muL.all λm=>(av 5).all λk=>(av 5).all λj=>decide (k=j)||decide ((s+k * m) % 25≠(s+j * m) % 25))=γ:=by kernel_rfl
def Xk(l:List Nat){k j:Nat}(r:k<5)(p:j<5)(h:k≠j):wN [.ea ((r? l j).map D.str),.ea ((r? l k).map D.str)]=Z (.I δ):=by
 have t:Gn l k≠Gn l j:=by have q:=aC.1 (aC.1 (aC.1 (aC.1 Zf (gd l 3 % 25) (bz.2 (aD _ (by decide)))) _ (sy (z:=0) (show gd l 4 % 8<muL.length from aD _ (by decide)))) k (bz.2 r)) j (bz.2 p);rw[iI,bR,bR,jX,jX]at q;exact q.resolve_left h
 have e:=PM l k;have d:=PM l j;have tcs:=λ{a b:Nat} (m:a<5) (o:b<5) (hab:a≠b)=>(by
  have q:=aC.1 (aC.1 (aC.1 tc _ (JE l)) a (bz.2 m)) b (bz.2 o);simp only[iI,aT,bR]at q;exact q.resolve_left hab:Pr.getD a "" ++ U? l≠Pr.getD b "" ++ U? l/\Q?.getD a "" ++ U? l≠Q?.getD b "" ++ U? l)
 rw[KI _ _ (by have:=Ih l k;omega)];have key:∃x∈r? l k,x∉r? l j:=by
  by_cases c:Gn l k % 5=Gn l j % 5
  .have q:=(tcs (a:=Gn l k / 5) (b:=Gn l j / 5) (by omega) (by omega) (by omega)).2;refine⟨_,Zd l k,λz=>?_⟩;rcases KG z with z|z|z
   .exact(un3 l j k).1 z.symm
   .exact q z
   .exact(un3 l k k).2.2 z
  .have q:=(tcs (a:=Gn l k % 5) (b:=Gn l j % 5) (by omega) (by omega) c).1;refine⟨_,Zc l k,λz=>?_⟩;rcases KG z with z|z|z
   .exact q z
   .exact(un3 l k j).1 z
   .exact(un3 l k k).2.1 z
 obtain⟨x,f,i⟩:=key;congr 2;exact iy.2 λz=>i (bK (aC.1 z x f))
def Ap{L:aE}{x:Str}(h:(L.all λx=>decide (x.length<=60))=γ)(a:x∈L):x.length<=60:=bK (aC.1 h x a)
def JF{a b:Str}(c:a.length<=20000)(d:b.length<=20000):AL (.str a) (.str b)=Z (.str (a++b)):=by show (if a.length+b.length<=100000 then Z (D.str (a++b))else U)=_;rw[aj (by omega)]
def Xl{i n:Nat}{e f:FE}{d b a:aO}{c ds:List L4.D}{y:L4.D}(h:uv d i=Z c)(j:e d=Z (dN n,b))(l:f b=Z (y,a))(m:uv a i=Z ds)(p:n<=ds.length)(o:ds.length<1000):ZX i e f d=Z (.E,putAt a i (l' ds n y)):=by unfold ZX;rw[h];simp only[j,l,m];rw[aj ⟨by omega,by rw[gn];exact p,o⟩,gn]
def PQ{l:List Nat}(p:l.length=32){k:Nat}(o:k<5):zg [dl l,dN k]=Z (.ea ((r? l k).map D.str)):=by
 have d:(U? l).length<=60:=Ap (by kernel_rfl) (JE l);have P0:=Ap (L:=Pr) (by kernel_rfl) (sy (z:=("" : Str)) (LN l k));have h:=Ap (L:=Q?) (by kernel_rfl) (sy (z:=("" : Str)) (LO l k));have q:0<1+k:=by omega
 have e:c2 rM (c2 sC (c2 ew aa bJ) (c2 vO ag (c2 ew (cL (rB oV)) (c2 rM (c2 ew aa cB) fU)))) (cC (.int 25)) [.q (dl l),.q (dN k),.q (.b0 (Pr.map D.str)),.q (.b0 (Q?.map D.str)),.un,.un,.un]=Z (dN (Gn l k),[.q (dl l),.q (dN k),.q (.b0 (Pr.map D.str)),.q (.b0 (Q?.map D.str)),.un,.un,.un]):=
  qZ (x:=dN (gd l 3+k * muL.getD (gd l 4 % 8) 0)) (qZ (y:=dN (k * muL.getD (gd l 4 % 8) 0)) (qZ J J (vV (i:=3) (by omega))) (qZ (y:=dN (muL.getD (gd l 4 % 8) 0)) J (qZ (x:=dl muL) J (qZ (qZ J J (vV (i:=4) (by omega))) J (md (b:=8) (by decide))) (vV (l:=muL) (show gd l 4 % 8<8 from aD _ (by decide)))) (uU (.inl (BP (by omega) (by omega))))) J) J (md (b:=25) (by decide))
 let A:Sl:=.q (.b0 (Pr.map D.str));let B:Sl:=.q (.b0 (Q?.map D.str));refine KF J (rl (wI J (rl (wI J (rl (sg (rE e (rl (sg (rE (qZ (x:=.b0 (tlL.map D.str)) J (qZ (qZ J J (vV (i:=5) (by omega))) J (md (b:=3) (by decide))) (Cn (L:=tlL) (show gd l 5 % 3<3 from aD _ (by decide)))) ?_))))))))));refine rl (Xg (rE (Be (qW (qZ (qZ (x:=.b0 (Pr.map D.str)) J (qZ J J (md (b:=5) (by decide))) (Cn (L:=Pr) (LN l k))) J (JF (b:=U? l) (by omega) (by omega))) (qW (qZ (qZ (x:=.b0 (Q?.map D.str)) J (qZ J J (dv (b:=5) (by decide) (by decide))) (Cn (L:=Q?) (LO l k))) J (JF (b:=U? l) (by omega) (by omega))) J)) (aH J)) ?_));have a:∀(i:Nat),i<l.length->∀c:Sl,c2 rM (c2 sF (c2 ew aa (cC (dN i))) (c2 sC aL ag)) bJ [.q (dl l),.q (dN k),A,B,.q (dN (Gn l k)),.q (.str (U? l)),c]=Z (dN (gd l i / (1+k) % 3),[.q (dl l),.q (dN k),A,B,.q (dN (Gn l k)),.q (.str (U? l)),c]):=λi f c=>qZ (qZ (y:=dN (1+k)) (qZ J J (vV f)) J (dv (by omega) (by omega))) J (md (b:=3) (by decide));refine rl (PJ (rE (sL (qZ (a 6 (by omega) _) J (wC δ _ 0))) ⟨λb=>?_,λb=>?_⟩))
 .have b:gd l 6 / (1+k) % 3=0:=by have:=bK b;omega
  have m:gd l 7 / (1+k) % 3<3:=aD _ (by decide);refine Di (rE (Xl (n:=gd l 7 / (1+k) % 3) (y:=.str (exF l k)) (ds:=[.str (clF l k),.str (laF l k)]) J (a 7 (by omega) _) (qZ (x:=.b0 (exL.map D.str)) J (a 8 (by omega) _) (Cn (L:=exL) (show _ % 3<3 from aD _ (by decide)))) J (show _<=2 by omega) (iq (aK 2) (by decide))) (yd (rE (b:=[.q (dl l),.q (dN k),A,B,.q (dN (Gn l k)),.q (.str (U? l)),.q (.b0 (l' [.str (clF l k),.str (laF l k)] (gd l 7 / (1+k) % 3) (.str (exF l k))))]) J ?_)))
  .show D.ea _=_;unfold r?;rw[aj b];unfold l';rw[aJ,aR,iU,iQ];rfl
 .have b:gd l 6 / (1+k) % 3≠0:=λz=>by have:=of_decide_eq_false b;omega
  refine wI J (yd (rE (b:=[.q (dl l),.q (dN k),A,B,.q (dN (Gn l k)),.q (.str (U? l)),.q (.b0 [.str (clF l k),.str (laF l k)])]) J ?_));show D.ea _=_;unfold r?;rw[ak b];rfl
def Rn(x:Str):Th:=⟨x,["room"],.room,U⟩
def Th.nw(t:Th):Str×aE:=(t.n,t.w)
def mq(t:Th):L4.D:=.ea [.str t.n,.ea (t.w.map D.str),.str t.k.s,oS t.s]
def kL:List Kd:=[.plain,.box,.lamp,.fixed,.box]
def nA(N:aE)(i:Nat):Str:=N.getD i ""
structure Ii(l:List Nat)(N:aE)(T:List Th):Prop where
 ord:Ord T
 ex:∃(r n:Nat) (y:Str) (P:List Th),1<=r/\r<=3/\n<=5/\T=(N.take r).map Rn++⟨nA N 3,["me", "myself"],.you,Z y⟩::P/\P.map Th.nw=(av n).map (λk=>(nA N (4+k),r? l k))/\∀t∈P,t.k.pl=γ
theorem He:∀(l:aE) (B:List Th),Ord B->Ord (B++l.map Rn)
 |[],B,h=>by rw[c9,bI];exact h
 |x::l,B,h=>by rw[aR,List.append_cons];exact He l _ (h.snoc (.inl ⟨J,J⟩))
def Sv{a:Type}{L:List a}(f:a->L4.D){i:Nat}(z:a)(h:i<L.length):ew (.b0 (L.map f)) (dN i)=Z (f (L.getD i z)):=Et (by
 rw[bp,bb h,cp,bb h];rfl)
def kdD(k:Kd):L4.D:=.str k.s
def Sw{N:aE}{i:Nat}(h:i<N.length):ew (.b0 (N.map D.str)) (dN i)=Z (.str (nA N i)):=Cn h
def M9{l:List Nat}{N:aE}(hl:l.length=32)(hN:Nms N):∃T j,Ii l N T/\vJ [dl l,.b0 (N.map D.str)]=Z (.b0 ((T.drop j++T.take j).map mq)):=by
 suffices h:∃d,vJ [dl l,.b0 (N.map D.str)]=Z d/\∃T j,Ii l N T/\d=.b0 ((T.drop j++T.take j).map mq) by obtain⟨_,e,T,j,h,rfl⟩:=h;exact⟨T,j,h,e⟩
 have l14:=hN.len;let r:=1+gd l 9 % 3;have r3:r<=3:=by have:=aD (gd l 9) (show 0<3 by decide);show 1+_<=3;omega
 have r1:1<=r:=by show 1<=1+_;omega
 let R:aE:=N.take r;have lR:R.length=r:=by show (N.take r).length=r;rw[b9];omega
 let f:=nA N 3;let y:=R.getD (gd l 10 % R.length) "";have yi:gd l 10 % R.length<R.length:=aD _ (by omega);have M:y∈R:=sy yi;let w:Th:=⟨f,["me", "myself"],.you,Z y⟩;let a:List Th:=R.map Rn++[w];have o1:Ord a:=(by have:=He R [] .nil;rw[cv]at this;exact this:Ord (R.map Rn)).snoc (.inr (.inl ⟨J,Rn y,bF M,J,J⟩));have lP:a.length=r+1:=by show (R.map Rn++[w]).length=_;rw[au,ae,lR];rfl
 let A:Sl:=.q (dl l);let B:Sl:=.q (.b0 (N.map D.str));let C:Sl:=.q (.b0 (R.map D.str));refine KE J (rl (sg (w_L (Y5 (rE J ⟨N.map D.str,J,rE J (Xh (rE (qZ (y:=dN (gd l 9 % 3)) J (qZ (qZ J J (vV (i:=9) (by omega))) J (md (b:=3) (by decide))) J) ⟨_,J,?_⟩))⟩)))));rw[show (1+((gd l 9 % 3:Nat):Int))=((r:Nat):Int) from J,Pj r (by rw[ae];omega),<- iU];refine rl (sg (rE (qZ J J (Sw (i:=3) (by omega))) ?_));refine rl (Xg (rE (sR D.str (λx=>mq (Rn x)) R J (by omega) λx s=>⟨_,_,J,J,J⟩) ?_));refine rl (sg (rE (qZ (x:=.b0 (R.map D.str)) J (qZ (y:=dN R.length) (qZ J J (vV (i:=10) (by omega))) (rU J (by show Z (D.int (cP D.str R).length)=_;rw[ae])) (md (by omega))) (Cn yi)) ?_));refine rl (Di (rE (vy (es:=R.map λx=>mq (Rn x)) J (ug (qW J (qW J (qW J (qW J J)))) (aH J)) J (by rw[ae];omega)) ?_));refine rl (Xg (rE (sY (xs:=R.map D.str) (ys:=[.str f,.str y,.str y,.str f]) J J (by rw[ae];show R.length+4<=1000;omega)) ?_));refine s_g (R:=λO=>O=[A,B,C,.q (.str f),.J (a.map mq),.q (.str y),.J ((R++[f,y,y,f]).map D.str),.un,.un,.un]) ?_ ?_
 .rw[show a.map mq=(R.map λx=>mq (Rn x))++[mq w] by show (R.map Rn++[w]).map mq=_;rw[aJ,aP];rfl,aJ];rfl
 rintro _ rfl;let A':=λ(i:Nat) (O:aO)=>∃P c G q,O=[A,B,C,.q (.str f),.J (cP mq (a++P)),.q (.str y),.J (cP D.str c),G,q,.un]/\Ord (a++P)/\P.map Th.nw=(av i).map (λk=>(nA N (4+k),r? l k))/\(∀t∈P,t.k.pl=γ)/\c≠[]/\c.length<=7+i/\∀x∈c,∃u∈a++P,u.n=x/\u.k.hd=γ;have n6:gd l 11 % 6<6:=aD _ (by decide);refine rl (Ig (M8 (rE (qZ (qZ J J (vV (i:=11) (by omega))) J (md (b:=6) (by decide))) ⟨gd l 11 % 6,J,by omega,A',⟨[],R++[f,y,y,f],_,_,by rw[bI],by rw[bI];exact o1,J,λt ht=>(by cases ht),by simp,by rw[au,lR];show r+4<=7;omega,?_⟩,?_,?_⟩)))
 .rw[bI];have X:∃u∈a,u.n=f/\u.k.hd=γ:=⟨w,bA _ (bV.2 J),J,J⟩;have I:∀x∈R,∃u∈a,u.n=x/\u.k.hd=γ:=λx m=>⟨Rn x,bB _ (bF m),J,J⟩;intro x m;rcases ba.1 m with m|m
  .exact I x m
  .simp only[aN,bS,or_false]at m;rcases m with rfl|rfl|rfl|rfl
   .exact X
   .exact I _ M
   .exact I _ M
   .exact X
 .rintro i _ _ hd ⟨P,c,G,q,rfl,o,eP,pl,H,lH,hH⟩;obtain⟨hi,rfl⟩:=F3 hd;have lP':P.length=i:=by have:=bG c6 eP;rw[ae,ae,bL]at this;exact this
  let E:=kL.getD (gd l (12+i) % 5) .plain;have Y:gd l (12+i) % 5<kL.length:=aD _ (by decide);have hkd:E∈kL:=sy Y;have hpl:E.pl=γ:=(show ∀k∈kL,Kd.pl k=γ by decide) _ hkd;have z:0<c.length:=mn.2 H;let p:=c.getD (gd l (12+i) / 5 % c.length) "";have pi:gd l (12+i) / 5 % c.length<c.length:=aD _ z;have hp:p∈c:=sy pi;obtain⟨u,hu,hun,huk⟩:=hH p hp;let t:Th:=⟨nA N (4+i),r? l i,E,Z p⟩;have o':Ord (a++(P++[t])):=by rw[<-bO];exact o.snoc (.inr (.inr ⟨hpl,u,hu,by rw[hun],huk⟩))
  have Q:(P++[t]).map Th.nw=(av (i+1)).map λk=>(nA N (4+k),r? l k):=by rw[aJ,eP,iK,aJ];rfl
  have eT:(a++P).map mq++[mq t]=(a++(P++[t])).map mq:=by rw[<-bO,aJ (l₂:=[t])];rfl
  have hH':∀x∈c,∃u∈a++(P++[t]),u.n=x/\u.k.hd=γ:=λx m=>by obtain⟨v,hv,h⟩:=hH x m;exact⟨v,by rw[<-bO];exact bB _ hv,h⟩
  have S:∀(s4 s6 q:Sl),c2 ew aa (c2 sC je bY) [A,B,C,.q (.str f),s4,.q (.str y),s6,.q (dN i),q,.un]=Z (dN (gd l (12+i)),[A,B,C,.q (.str f),s4,.q (.str y),s6,.q (dN i),q,.un]):=λs s s=>qZ (x:=dl l) (y:=dN (12+i)) J J (vV (by omega));refine⟨_,J,rl (sg (rE (qZ (x:=.b0 (kL.map kdD)) J (qZ (S _ _ _) J (md (b:=5) (by decide))) (Sv kdD .plain Y)) ?_))⟩;refine rl (Di (rE (vy (es:=(a++P).map mq) J (ug (qW (qZ (x:=.b0 (N.map D.str)) (y:=dN (4+i)) J J (Sw (by omega))) (qW (qX (ds:=[dl l,dN i]) J (PQ hl (by omega))) (qW J (qW (HN (qZ (x:=.b0 (c.map D.str)) J (qZ (y:=dN c.length) (qZ (S _ _ _) J (dv (b:=5) (by decide) (by decide))) (rU J (by show Z (D.int (c.map D.str).length)=_;rw[ae])) (md z)) (Cn pi)) J) J)))) (aH J)) J (by rw[ae,au];omega)) ?_));refine PJ (rE (sL (qZ J J (Eh E .box))) ⟨λb=>Di (rE (vy (es:=c.map D.str) J (qZ (x:=.b0 (N.map D.str)) (y:=dN (4+i)) J J (Sw (by omega))) J (by rw[ae];omega)) ⟨P++[t],c++[nA N (4+i)],_,_,by rw[<-eT,aJ (l₂:=[nA N (4+i)])];rfl,o',Q,snoc pl hpl,by simp,by rw[au];show _+1<=_;omega,snoc hH' ⟨t,by simp,J,?_⟩⟩),λs=>wI J ⟨P++[t],c,_,_,by rw[<-eT];rfl,o',Q,snoc pl hpl,H,by omega,hH'⟩⟩);show E.hd=γ;rw[bK b];rfl
 .rintro _ ⟨P,c,G,q,rfl,o,eP,pl,H,lH,hH⟩;rw[ae,bL]at eP;have lT:(a++P).length=r+1+gd l 11 % 6:=by have:=bG c6 eP;rw[ae,ae,bL]at this;rw[au,lP,this]
  let j:=gd l 18 % (a++P).length;have hj:j<(a++P).length:=aD _ (by omega);let σ:aO:=[A,B,C,.q (.str f),.q (.b0 (cP mq (a++P))),.q (.str y),.J (cP D.str c),G,q,.q (dN j)];refine rl (sg (rE (HN (qZ (y:=dN (a++P).length) (qZ (x:=dl l) J J (vV (i:=18) (by omega))) (rU J (by show Z (D.int _)=_;rw[ae])) (md (by omega))) J) (PK (rE (b:=σ) (sY (xs:=((a++P).map mq).drop j) (ys:=((a++P).map mq).take j) (ρ1:=σ) (sm ?_) (sm ?_) ?_) ?_))))
  .show Z (n3 ((a++P).map mq) (Z (j:Int)) U,_)=_;rw[W4 j (by rw[ae];omega)];rfl
  .show Z (n3 ((a++P).map mq) U (Z (j:Int)),_)=_;rw[Pj j (by rw[ae];omega)]
  .rw[dP,b9,ae];omega
  .rw[<-iQ,<- iU,<- aJ];exact⟨a++P,j,⟨o,r,gd l 11 % 6,y,P,r1,r3,by omega,by show (R.map Rn++[w])++P=_;rw[bO];rfl,eP,pl⟩,J⟩
def ε(m:Mk):L4.D:=.ea [.str m.n,.int m.st,.int m.mo]
def pD(q:Str×Int):L4.D:=.ea [.str q.1,.int q.2]
def PR{l:List Nat}{N:aE}(H:l.length=32)(hN:Nms N):∃(M:List Mk) (q:Nat),q<=2/\M.map Mk.n=(av q).map (λk=>nA N (10+k))/\(∀m∈M,m.ok)/\wF [dl l,.b0 (N.map D.str)]=Z (.b0 (M.map ε)):=by
 suffices h:∃d,wF [dl l,.b0 (N.map D.str)]=Z d/\∃(M:List Mk) (q:Nat),q<=2/\M.map Mk.n=(av q).map (λk=>nA N (10+k))/\(∀m∈M,m.ok)/\d=.b0 (M.map ε) by obtain⟨_,e,M,q,r,t,u,rfl⟩:=h;exact⟨M,q,r,t,u,e⟩
 have C:=hN.len;let A:Sl:=.q (dl l);let B:Sl:=.q (.b0 (N.map D.str));let p:=λ(i:Nat) (E:aO)=>∃(M:List Mk) (f c:Sl),E=[A,B,.J (cP ε M),f,c]/\M.map Mk.n=(av i).map (λk=>nA N (10+k))/\∀m∈M,m.ok;have P:gd l 19 % 3<3:=aD _ (by decide);refine KE J (rl (wI J (rl (Ig (M8 (rE (qZ (qZ J J (vV (i:=19) (by omega))) J (md (b:=3) (by decide))) ⟨gd l 19 % 3,J,by omega,p,⟨[],_,_,J,J,λm w=>(by cases w)⟩,?_,?_⟩))))))
 .rintro i _ _ hd ⟨M,f,c,rfl,eM,ok⟩;obtain⟨G,rfl⟩:=F3 hd;have lM:M.length=i:=by have:=bG c6 eM;rw[ae,ae,bL]at this;exact this
  let a:=1+gd l (20+i) % 3;let st:=gd l (20+i) / 3 % (a+1);have O:gd l (20+i) % 3<3:=aD _ (by decide);have I:st<a+1:=aD _ (by omega);let m:Mk:=⟨nA N (10+i),(st:Nat),(a:Nat)⟩;have j:∀(o c:Sl),c2 ew aa (c2 sC (cC (.int 20)) aG) [A,B,o,.q (dN i),c]=Z (dN (gd l (20+i)),[A,B,o,.q (dN i),c]):=λs s=>qZ (x:=dl l) (y:=dN (20+i)) J J (vV (by omega));refine⟨_,J,rl (sg (rE (qZ (z:=dN a) J (qZ (j _ _) J (md (b:=3) (by decide))) J) (Di (rE (vy (es:=M.map ε) J (ug (qW (qZ (x:=.b0 (N.map D.str)) (y:=dN (10+i)) J J (Sw (by omega))) (qW (qZ (y:=dN (a+1)) (qZ (j _ _) J (dv (b:=3) (by decide) (by decide))) J (md (by omega))) (qW J J))) (aH J)) J (by rw[ae];omega)) ⟨M++[m],_,_,by rw[aJ];rfl,by rw[aJ,eM,iK,aJ];rfl,snoc ok ⟨?_,?_,?_,?_⟩⟩))))⟩
  .show 1<=((1+gd l (20+i) % 3:Nat):Int);omega
  .show ((1+gd l (20+i) % 3:Nat):Int)<=3;omega
  .show (0:Int)<=(st:Nat);omega
  .show ((st:Nat):Int)<=(a:Nat);omega
 .rintro _ ⟨M,f,c,rfl,eM,ok⟩;rw[ae,bL]at eM;exact PK (rE J ⟨M,gd l 19 % 3,by omega,eM,ok,J⟩)
def kt{a:aO}(t:Th)(c:Kd)(h:cV 0 a=Z (mq t,a)):cT (c2 (fh δ) (c2 ew aa bX) (cC (.str c.s))) a=Z (decide (t.k=c),a):=sL (qZ (qZ h J J) J (Eh t.k c))
def of_eq{ρ:aO}(T:List Th)(a:T.length<=1000){i:Nat}(hi:cV i ρ=Z (.b0 (T.map mq),ρ))(c:Kd):rh 1 [] (iL (cV i)) (gN 0) (cT (c2 (fh δ) (c2 ew aa bX) (cC (.str c.s)))) (c2 ew aa aS) ρ=Z (((T.filter λt=>decide (t.k=c)).map Th.n).map D.str,ρ):=by refine(vp mq (λt=>.str t.n) (λt=>decide (t.k=c)) T (LJ hi) a λt z=>⟨[.q (mq t)],_,J,kt t c J,λz=>⟨_,J,J⟩,λz=>J⟩).t ?_;rw[aP];rfl
def Ik(T:List Th)(M:List Mk)(hT:T.length<=100)(hM:M.length<=100):vF [.b0 (T.map mq),.b0 (M.map ε)]=Z (.b0 ((mP T M).map pD)):=by
 have h:=cU (λt:Th=>t.k.mk) T;refine(Bh (ρ:=[.q (.b0 (T.map mq)),.q (.b0 (M.map ε)),.q (.b0 ((T.filter λt=>t.k.mk).map λt=>pD (t.n,1)))]) J ((q8 (tI (sm (vp mq (λt=>pD (t.n,1)) (λt=>t.k.mk) T J (by omega) λt z=>⟨[.q (mq t)],[.q (mq t)],J,?_,λz=>⟨_,J,J⟩,λz=>J⟩)))).t (uC (sY J (sm (sR ε (λm=>pD (m.n,m.mo)) M J (by omega) λm z=>⟨_,_,J,J,J⟩)) (by rw[ae,ae];omega))))).t ?_
 .obtain⟨n,w,k,s⟩:=t;cases k<;>kernel_rfl
 .unfold mP;rw[aJ,aP,aP];rfl
def Hs(v:Vb):L4.D:=.ea [.str v.n,.ea (v.o.map D.str),.str v.f,oS v.j]
def bM(a b c d e f:Bool):Nat:=a.toNat+2 * b.toNat+4 * c.toNat+8 * d.toNat+16 * e.toNat+32 * f.toNat
def Zg:∀a b c d e f:Bool,bM a b c d e f<64/\vB (bM a b c d e f) 0=a/\vB (bM a b c d e f) 1=b/\vB (bM a b c d e f) 2=c/\vB (bM a b c d e f) 3=d/\vB (bM a b c d e f) 4=e/\vB (bM a b c d e f) 5=f:=by decide
def mask(p:Nat->Bool):∃m,m<64/\(av 6).filter p=(av 6).filter λk=>vB m k:=by
 obtain⟨h,a,b,c,d,e,f⟩:=Zg (p 0) (p 1) (p 2) (p 3) (p 4) (p 5);refine⟨_,h,List.filter_congr λk i=>?_⟩;have:=bz.1 i;rcases(by omega:k=0\/k=1\/k=2\/k=3\/k=4\/k=5)with rfl|rfl|rfl|rfl|rfl|rfl
 .exact a.symm
 .exact b.symm
 .exact c.symm
 .exact d.symm
 .exact e.symm
 .exact f.symm
def v0:Vb:=⟨"", [],"", U⟩
def PU{l:List Nat}(f:l.length=32):∃m,m<64/\zh [dl l]=Z (.b0 ((vL m).map Hs)):=by
 let p:Nat->Bool:=λk=>decide (iO (((gd l 28:Nat):Int) / 2 ^ ((k:Nat):Int).toNat) 1=1);obtain⟨m,c,e⟩:=mask p;refine⟨m,c,?_⟩;let a:aO:=[.q (dl l),.q (.b0 (v6.map Hs))];refine(Bh (ρ:=a) J ((q8 J).t ((q8 J).t (uC (vp (λk:Nat=>dN k) (λk=>Hs (v6.getD k v0)) p (av 6) (ρ1:=a) (by kernel_rfl) (by rw[bL];decide) λk b=>⟨[.q (dN k),.q (.b0 (v6.map Hs)),.q (dl l)],_,J,sL (qZ (qZ (x:=.int (((gd l 28:Nat):Int) / 2 ^ ((k:Nat):Int).toNat)) (y:=dN 1) (qZ (x:=dN (gd l 28)) (y:=dN k) (qZ (x:=dl l) J J (vV (i:=28) (by omega))) J ?_) J J) J (wC δ _ 1)),λz=>⟨_,qZ (x:=.b0 (v6.map Hs)) J J (Sv Hs v0 (show k<6 from bz.1 b)),J⟩,λz=>J⟩))))).t ?_
 .show (if decide (0<=((k:Nat):Int))=γ then Z (D.int _)else U)=_;rw[aj (bN (by omega))]
 .unfold vL;rw[e,aP];rfl
def Zh(a b c d:Str):fh δ (.ea [.str a,.str b]) (.ea [.str c,.str d])=Z (.I ((a==c)&&((b==d)&&γ))):=by kernel_rfl
def drL(T:List Th)(M:List Mk):List (Option Str):=U::U::(mP T M).map λq=>Z q.1
def Sx{l:List Nat}(hl:l.length=32)(T:List Th)(M:List Mk)(hT:T.length<=13)(hM:M.length<=4)(hr:iE T≠[]):∃W:List Wy,W.length<=4/\(∀x∈W,KA T M x)/\(W.map λw=>[w.r,w.w]).Nodup/\xR [dl l,.b0 ((iE T).map D.str),.b0 ((mP T M).map pD)]=Z (.b0 (W.map nj)):=by
 suffices h:∃d,xR [dl l,.b0 ((iE T).map D.str),.b0 ((mP T M).map pD)]=Z d/\∃W:List Wy,W.length<=4/\(∀x∈W,KA T M x)/\(W.map λw=>[w.r,w.w]).Nodup/\d=.b0 (W.map nj) by obtain⟨_,e,W,u,h2,h3,rfl⟩:=h;exact⟨W,u,h2,h3,e⟩
 let R:=iE T;have j:0<R.length:=mn.2 hr;have lr:R.length<=13:=by show (cP Th.n _).length<=13;rw[ae];exact bf (cU _ _) hT
 have lm:(mP T M).length<=20:=by unfold mP;rw[au,ae,ae];have:=cU (λt:Th=>t.k.mk) T;omega
 let A:Sl:=.q (dl l);let B:Sl:=.q (.b0 (R.map D.str));let C:Sl:=.q (.b0 ((mP T M).map pD));let E:Sl:=.q (.b0 (S2.map D.str));let A':=λ(i:Nat) (f:aO)=>∃(W:List Wy) (H I N O P a:Sl),f=[A,B,C,E,.J (cP nj W),H,I,N,O,P,a]/\W.length<=i/\(∀x∈W,KA T M x)/\(W.map λw=>[w.r,w.w]).Nodup;have n5:gd l 22 % 5<5:=aD _ (by decide);refine KE J (rl (wI J (rl (wI J (rl (Ig (M8 (rE (qZ (qZ (x:=dl l) J J (vV (i:=22) (by omega))) J (md (b:=5) (by decide))) ⟨gd l 22 % 5,J,by omega,A',⟨[],_,_,_,_,_,_,J,aK _,λw G=>(by cases G),.nil⟩,?_,?_⟩))))))))
 .rintro i _ _ hd ⟨W,H,I,N,O,P,a,rfl,lW,ok,F⟩;obtain⟨hi,rfl⟩:=F3 hd;let z:=gd l (23+i);let r:=R.getD (z % R.length) "";let x:=S2.getD (z / 3 % 5) "";let g:=R.getD (z / 15 % R.length) "";let Y:=z / 45 % (2+(mP T M).length);let m:=(drL T M).getD Y U;have ld:(drL T M).length=2+(mP T M).length:=by unfold drL;rw[aF,aF,ae];omega
  have hmi:Y<(drL T M).length:=by rw[ld];exact aD _ (by omega)
  have o:m∈drL T M:=sy hmi;have lenR:∀f:aO,cV 1 f=Z (.b0 (R.map D.str),f)->c1 ux ag f=Z (dN R.length,f):=λf h=>rU h (by show Z (D.int (R.map D.str).length)=_;rw[ae]);refine⟨_,J,rl (sg (rE (qZ (x:=dl l) (y:=dN (23+i)) J J (vV (by omega))) ?_))⟩;refine rl (M7 (rE (ug (qW (qZ (x:=.b0 (R.map D.str)) J (qZ (x:=dN z) J (lenR _ J) (md j)) (Cn (aD _ j))) (qW (qZ (x:=.b0 (S2.map D.str)) J (qZ (qZ (x:=dN z) J J (dv (b:=3) (by decide) (by decide))) J (md (b:=5) (by decide))) (Cn (L:=S2) (show _ % 5<5 from aD _ (by decide)))) (qW (qZ (x:=.b0 (R.map D.str)) J (qZ (qZ (x:=dN z) J J (dv (b:=15) (by decide) (by decide))) (lenR _ J) (md j)) (Cn (aD _ j))) J))) (aH J)) ⟨_,J,?_⟩));let Q:aO:=[A,B,C,E,.J (W.map nj),.q (dN i),.q (dN z),.q (.str r),.q (.str x),.q (.str g),a];refine s_g (R:=λf=>f=Q) J ?_;rintro _ rfl;have em:cL (tS (cL (rB (ax bq fq))) (cL (rh 1 [] (iL ai) (gN 0) sf (c2 ew aa aS)))) Q=Z (.b0 ((drL T M).map oS),Q):=(sm (sY (xs:=[.E,.E]) J (sm (sR pD (λq=>.str q.1) (mP T M) J (by omega) λq s=>⟨_,_,J,J,J⟩)) (by rw[ae];show 2+_<=1000;omega))).t (by unfold drL;rw[aR,aR,aP];rfl);refine rl (sg (rE (qZ em (qZ (y:=dN (2+(mP T M).length)) (qZ (x:=dN z) J J (dv (b:=45) (by decide) (by decide))) (qZ (y:=dN (mP T M).length) J (rU J (by show Z (D.int ((mP T M).map pD).length)=_;rw[ae])) J) (md (by omega))) (Sv oS U hmi)) ?_));let p:Wy->Bool:=λw=>(w.r==r)&&((w.w==x)&&γ);have ec:Fb (cT (c2 X' (cL (rh 1 [7,8] (iL aU) (gN 0) (cT (c2 (fh δ) (OV aa U (Z 2)) (rN cZ))) aa)) (cL (rB rK)))) [A,B,C,E,.J (W.map nj),.q (dN i),.q (dN z),.q (.str r),.q (.str x),.q (.str g),.q (oS m)]=Z ((W.filter p).isEmpty,[A,B,C,E,.J (W.map nj),.q (dN i),.q (dN z),.q (.str r),.q (.str x),.q (.str g),.q (oS m)]):=by refine RH (sL (qZ (sm (vp nj nj p W (ρ1:=[A,B,C,E,.q (.b0 (W.map nj)),.q (dN i),.q (dN z),.q (.str r),.q (.str x),.q (.str g),.q (oS m)]) J (by omega) λw s=>⟨[.q (nj w),.q (.str r),.q (.str x)],_,J,sL (qZ J J (Zh w.r w.w r x)),λs=>⟨_,J,J⟩,λs=>J⟩)) J ?_));cases W.filter p<;>rfl
  refine PJ (rE ec ⟨λc=>Di (rE (vy (es:=W.map nj) J (d:=nj ⟨r,x,g,m⟩) J J (by rw[ae];omega)) ⟨W++[⟨r,x,g,m⟩],_,_,_,_,_,_,by rw[aJ];rfl,by rw[au];exact m8 lW,snoc ok ⟨sy (aD _ j),sy (show _ % 5<5 from aD _ (by decide)),sy (aD _ j),λy e=>?_⟩,?_⟩),λs=>wI J ⟨W,_,_,_,_,_,_,J,by omega,ok,F⟩⟩)
  .have o:Z y∈drL T M:=by rw[<-e];exact o
   have o:Z y∈(mP T M).map λq=>Z q.1:=by simpa [drL]using o
   obtain⟨q,hq,e⟩:=az.1 o;cases e;rw[<-Ia];exact bF hq
  .rw[aJ,cq];refine⟨F,by simp,λy S z' X e=>?_⟩;rw[aR,c9,bV]at X;rw[e,X]at S;obtain⟨w,G,e2⟩:=az.1 S;have u:w.r=r/\w.w=x:=by simpa using e2
   have:w∈W.filter p:=bg.2 ⟨G,by show ((w.r==r)&&((w.w==x)&&γ))=γ;rw[u.1,u.2];simp⟩;rw[List.isEmpty_iff.1 c]at this;cases this
 .rintro _ ⟨W,H,I,N,O,P,a,rfl,lW,ok,F⟩;rw[ae,bL]at lW;exact PK (rE J ⟨W,by omega,ok,F,J⟩)
def Hf{a:Type}(l:List a)(j:Nat):(l.drop j++l.take j).Perm l:=(List.perm_append_comm).t (by rw[jv])
def PV{T T0:List Th}(p:T.Perm T0){t:Th}(h:JA T0 t):Ck T t:=by
 have i:∀u∈T0,u.k=.room->u.n∈iE T:=λu a f=>bF (bg.2 ⟨p.mem_iff.2 a,bN f⟩);have e:∀u∈T0,u.k.hd=γ->u.n∈P' T:=λu a f=>bF (bg.2 ⟨p.mem_iff.2 a,f⟩);obtain⟨n,w,k,s⟩:=t;rcases h with ⟨b,c⟩|⟨b,u,a,c,d⟩|⟨b,u,a,c,d⟩
 .simp only at b c;subst b c;exact trivial
 .simp only at b c;subst b c;exact i u a d
 .simp only at b c;subst c;cases k with
  |room=>cases b
  |you=>cases b
  |plain=>exact e u a d
  |fixed=>exact e u a d
  |box=>exact e u a d
  |lamp=>exact e u a d
def Xm{P:Kd->Prop}(a:P .room)(b:P .you)(c:P .plain)(d:P .fixed)(e:P .box)(f:P .lamp):∀k,P k:=λk=>by cases k<;>assumption
theorem seg{N:aE}(a:Nat):∀n,a+n<=N.length->(av n).map (λk=>nA N (a+k))=(N.drop a).take n
 |0,_=>by simp
 |n+1,h=>by rw[iK,aJ,seg a n (by omega),fC,dt,bb (by omega)];unfold nA;rw[aR,c9,cp,bb (by omega)];rfl
def big{N:aE}(h:N.length=14){r n q:Nat}(f:r<=3)(c:n<=5)(d:q<=2):((N.take r++nA N 3::(av n).map λk=>nA N (4+k))++(av q).map λk=>nA N (10+k)).Sublist N:=by
 rw[seg 4 n (by omega),seg 10 q (by omega),bO];have e:N.take 3++(nA N 3::((N.drop 4).take 6++N.drop 10))=N:=by
  have a:(N.drop 4).take 6++N.drop 10=N.drop 4:=by have:=jv 6 (N.drop 4);rw[List.drop_drop]at this;exact this
  rw[a];have b:N.drop 3=nA N 3::N.drop 4:=by rw[hZ (by omega:3<N.length)];unfold nA;rw[cp,bb (by omega)];rfl
  rw[<-b,jv]
 have s:(N.take r++(nA N 3::((N.drop 4).take n++(N.drop 10).take q))).Sublist (N.take 3++(nA N 3::((N.drop 4).take 6++N.drop 10))):=
  (kW (by omega)).append (.cons₂ _ ((kW (by omega)).append (iu _ _)))
 rw[e]at s;exact s
def LP{l:List Nat}{N:aE}{T0:List Th}{M:List Mk}{dk:aE}{W:List Wy}{q:Nat}(hN:Nms N)(d:Ii l N T0)(j:Nat)(G:q<=2)(eM:M.map Mk.n=(av q).map λk=>nA N (10+k))(mo:∀m∈M,m.ok)(hd:dk.Sublist (iE (T0.drop j++T0.take j)))(w4:W.length<=4)(wo:∀w∈W,KA (T0.drop j++T0.take j) M w)(wn:(W.map λw=>[w.r,w.w]).Nodup):
  fb (T0.drop j++T0.take j) M dk W/\(T0.drop j++T0.take j).length<=9/\M.length<=2/\(iE (T0.drop j++T0.take j)).length<=3:=by
 have p:=Hf T0 j;obtain⟨r,n,y,P,r1,r3,hn,C,eP,hP⟩:=d.ex;have I:=hN.len;let R:=(N.take r).map Rn;let o:Th:=⟨nA N 3,["me", "myself"],.you,Z y⟩;have lR:R.length=r:=by show ((N.take r).map Rn).length=r;rw[ae,b9];omega
 have lP:P.length=n:=by have:=bG c6 eP;rw[ae,ae,bL]at this;exact this
 have lM:M.length=q:=by have:=bG c6 eM;rw[ae,ae,bL]at this;exact this
 have B:∀t∈R,t.k=.room:=λt h=>by obtain⟨x,_,rfl⟩:=az.1 h;rfl
 have spl:∀p:Th->Bool,T0.filter p=R.filter p++((if p o=γ then [o]else [])++P.filter p):=λp=>by rw[C,List.filter_append,iB];show R.filter p++(if p o=γ then o::P.filter p else P.filter p)=_;split<;>rfl
 have all_:∀(p:Kd->Bool) (L:List Th),(∀t∈L,p t.k=γ)->L.filter (λt=>p t.k)=L:=λp L h=>mj.2 h;have non_:∀(p:Kd->Bool) (L:List Th),(∀t∈L,p t.k=δ)->L.filter (λt=>p t.k)=[]:=λp L h=>List.filter_eq_nil_iff.2 λt a z=>by rw[h t a]at z;cases z
 have plk:∀k:Kd,k.pl=γ->decide (k=.room)=δ/\decide (k=.you)=δ:=Xm (λz=>by cases z) (λz=>by cases z) (λs=>⟨J,J⟩) (λs=>⟨J,J⟩) (λs=>⟨J,J⟩) (λs=>⟨J,J⟩);have fr:T0.filter (λt=>decide (t.k=.room))=R:=by rw[spl,all_ (λk=>decide (k=.room)) R λt h=>by rw[B t h];rfl,non_ (λk=>decide (k=.room)) P λt h=>(plk t.k (hP t h)).1];exact bI R
 have Y:T0.filter (λt=>decide (t.k=.you))=[o]:=by rw[spl,non_ (λk=>decide (k=.you)) R λt h=>by rw[B t h];rfl,non_ (λk=>decide (k=.you)) P λt h=>(plk t.k (hP t h)).2];rfl
 have Q:T0.filter (λt=>t.k.pl)=P:=by rw[spl,non_ Kd.pl R λt h=>by rw[B t h];rfl,all_ Kd.pl P hP];rfl
 have eN:T0.map Th.n=N.take r++nA N 3::(av n).map λk=>nA N (4+k):=by
  rw[C,aJ,aR];have c:((N.take r).map Rn).map Th.n=N.take r:=by rw[aP];exact dy _
  have f:P.map Th.n=(av n).map λk=>nA N (4+k):=by have:=bG (cP cc) eP;rw[aP,aP]at this;exact this
  rw[c,f]
 have sub:(T0.map Th.n++M.map Mk.n).Sublist N:=by rw[eN,eM];exact big I r3 hn G
 have pN:((T0.drop j++T0.take j).map Th.n++M.map Mk.n).Perm (T0.map Th.n++M.map Mk.n):=(p.map _).append_right _;have A:(T0.map Th.n).Nodup:=(cq.1 (hN.nd.sublist sub)).1;have wP:∀t∈P,∃k,k<5/\t.n=nA N (4+k)/\t.w=r? l k:=λt h=>by have E:t.nw∈P.map Th.nw:=bF h;rw[eP]at E;obtain⟨k,F,e⟩:=az.1 E;have S:(nA N (4+k),r? l k)=(t.n,t.w):=e;injection S with c f;exact⟨k,by have:=bz.1 F;omega,c.symm,f.symm⟩
 have wT:∀t∈T0.drop j++T0.take j,t.k.pl=γ->t∈P:=λt a F=>by
  have:t∈T0.filter (λt=>t.k.pl):=bg.2 ⟨p.mem_iff.1 a,F⟩
  rwa [Q]at this
 have lT:(T0.drop j++T0.take j).length=r+1+n:=by rw[p.length_eq,C,au,aF,lP];show R.length+_=_;rw[lR];omega
 have lr:(iE (T0.drop j++T0.take j)).length=r:=by unfold iE;rw[ae,(p.filter _).length_eq,fr,lR]
 have y1:((T0.drop j++T0.take j).filter λt=>decide (t.k=.you)).map Th.n=[nA N 3]:=by have:=p.filter λt=>decide (t.k=.you);rw[Y]at this;rw[List.perm_singleton.1 this];rfl
 refine⟨?_,by omega,by omega,by omega⟩;constructor
 .omega
 .rw[(p.filter _).length_eq,fr,lR];exact r1
 .rw[(p.filter _).length_eq,fr,lR];omega
 .unfold yN;rw[y1];rfl
 .rw[(p.filter _).length_eq,Q,lP];omega
 .omega
 .exact mo
 .exact λx b=>hN.nm x (sub.subset (pN.mem_iff.1 b))
 .exact pN.nodup_iff.2 (hN.nd.sublist sub)
 .exact λt a=>PV p (d.ord.all t (p.mem_iff.1 a))
 .obtain⟨B,h⟩:=d.ord.rank A;refine⟨B,λt a=>?_⟩;obtain⟨E,h2⟩:=h t (p.mem_iff.1 a);refine⟨by rw[p.length_eq];exact E,λq G=>?_⟩;obtain⟨h3,u,H,e⟩:=h2 q G;exact⟨h3,u,p.mem_iff.2 H,e⟩
 .intro t a;have h:=p.mem_iff.1 a;rw[C]at h;rcases ba.1 h with h|h
  .obtain⟨x,b,rfl⟩:=az.1 h;exact zr (w:=["room"]) (by decide) (by decide) (by decide +kernel) (by decide)
  .rcases aN.1 h with rfl|h
   .exact zr (w:=["me", "myself"]) (by decide) (by decide) (by decide +kernel) (by decide +kernel)
   .obtain⟨k,_,_,e⟩:=wP t h;rw[e];have:=Ih l k;exact zr (by omega) (by omega) (λx b=>aY _ (aY _ (aY _ (PN b)))) (Ze l k)
 .intro t a u H O uk hne;obtain⟨k,k5,c,f⟩:=wP t (wT t a O);obtain⟨i,i5,T,X⟩:=wP u (wT u H uk);unfold LD;rw[f,X];exact Xk l k5 i5 λz=>hne (by rw[c,T,z])
 .intro t a O;obtain⟨k,_,_,e⟩:=wP t (wT t a O);rw[e];exact⟨(Ih l k).2,λx b=>PN b⟩
 .have:=hd.length_le;omega
 .refine hd.nodup ?_;unfold iE;exact(jF.map _).nodup ((p.map _).nodup_iff.2 A)
 .exact λx b=>hd.subset b
 .omega
 .exact wo
 .exact wn
def cd(x:Str):List Nat:=x.cps.toList
def Xo(x y:Str):cd (x++y)=cd x++cd y:=by show (x.cps++y.cps).toList=_;exact jG
def Il{x y:Str}(h:cd x=cd y):x=y:=qf h
def HK(x:Str):x.length=(cd x).length:=rfl
def fl(l:aE):List Nat:=(l.map λp=>32::cd p).flatten
abbrev jn(l:aE):Str:=gG " " l
def KJ(a:aE):∀(acc:Array Nat),((a.foldl (λacc p=>acc++(" " : Str).cps++p.cps) acc).toList)=acc.toList++fl a:=by
 induction a with
 |nil=>intro acc;simp[fl]
 |cons p r b=>
  intro acc;rw[iJ,b];have e:(" " : Str).cps.toList=[32]:=by decide +kernel
  unfold fl;rw[jG,jG,e,aR,List.flatten_cons];show acc.toList++[32]++cd p++_=acc.toList++(32::cd p++_);simp
def F4(p:Str)(r:aE):cd (jn (p::r))=cd p++fl r:=KJ r p.cps
def Xp(a b:aE):fl (a++b)=fl a++fl b:=by unfold fl;rw[aJ,List.flatten_append]
def Cp(a:Str)(b:aE):fl (a::b)=32::(cd a++fl b):=rfl
def KL:fl []=[]:=rfl
def JG{W:aE}(h:W≠[]):32::cd (jn W)=fl W:=by
 cases W with
 |nil=>exact ar J h
 |cons w W=>rw[F4,Cp]
def ZU{W:aE}(p:Str)(h:W≠[]):jn [p,jn W]=jn (p::W):=Il (by
 rw[F4,F4,Cp,KL,bI,JG h])
def ZV{W a:aE}(p:Str)(h:W≠[])(b:a≠[]):jn [p,jn W,jn a]=jn (p::(W++a)):=Il (by
 rw[F4,F4,Cp,Cp,KL,bI,Xp,<- JG h,<- JG b];rfl)
def Xq{W:aE}{p q:Str}(e:cd q=cd p++[32])(h:W≠[]):q++jn W=jn (p::W):=Il (by
 rw[Xo,F4,e,<- JG h,bO];rfl)
def ZZ(x:Str):jn [x]=x:=Il (by rw[F4,KL,bI])
theorem PX{c:Nat}:∀{l:aE},(∀x∈l,x.length<=c)->(l.map (·.length)).sum<=l.length * c
 |[],_=>by simp
 |x::l,h=>by have b:=h x bc;have d:=PX λy a=>h y (aY _ a);rw[aR,List.sum_cons,aF,oA];omega
theorem PY{c:Nat}:∀{l:aE},(∀x∈l,x.length<=c)->(fl l).length<=l.length * (c+1)
 |[],_=>by simp[fl]
 |x::l,h=>by have a:=h x bc;have d:=PY λy b=>h y (aY _ b);rw[HK]at a;rw[Cp,aF,au,aF,oA];omega
def PZ{c:Nat}{l:aE}(h:∀x∈l,x.length<=c)(a:l≠[]):(jn l).length<=l.length * (c+1):=by have:=PY h;rw[<-JG a,aF]at this;rw[HK];omega
theorem Hg:∀l:aE,Fl (l.map D.str)=Z l
 |[]=>rfl
 |x::l=>by rw[aR];unfold Fl;rw[Hg l]
def Cq{z:Str}(b:z.length<=1){l:aE}(a:l.length<=200)(h:∀x∈l,x.length<=20000):j0 (.str z) (.b0 (l.map D.str))=Z (.str (gG z l)):=by unfold j0;dsimp only;rw[Hg];dsimp only;rw[aj];have c:=PX h;have d:l.length * 20000<=200 * 20000:=jA _ a;have e:l.length * z.length<=200 * 1:=nL a b;omega
def sD:L4.D->Str
 |.str x=>x
 |.int v=>toString v
 |_=>"-"
def Pt:L4.D->Prop
 |.str x=>x.length<=60
 |.int v=>0<=v/\v<=3
 |.E=>True
 |_=>False
def v03{v:Int}(h:0<=v/\v<=3):v=0\/v=1\/v=2\/v=3:=by omega
def EB{d:L4.D}(h:Pt d)(a:d≠.E):oy d=Z (.str (sD d)):=by
 cases d with
 |str x=>rfl
 |int v=>rcases v03 h with rfl|rfl|rfl|rfl<;>kernel_rfl
 |E=>exact ar J a
 |_=>exact h.elim
def F5{d:L4.D}(h:Pt d):(sD d).length<=60:=by
 cases d with
 |str x=>exact h
 |int v=>rcases v03 h with rfl|rfl|rfl|rfl<;>exact aH (by kernel_rfl)
 |E=>exact aH (by kernel_rfl)
 |_=>exact h.elim
def Xr{a:List L4.D}(l:a.length<=100)(h:∀d∈a,Pt d):sN [.ea a]=Z (.str (jn (a.map sD))):=by
 let b:aO:=[.q (.ea a)];have e:rh 1 [] (iT aa) (gN 0) sf (C' (cT (c2 yK aa bq)) (cC CO) (c1 oy aa)) b=Z (a.map λd=>.str (sD d),b):=sR id (λd=>.str (sD d)) a (by rw[dy];rfl) (by omega) λd hd=>⟨[.q d],[.q d],J,by
  have f:=h d hd;by_cases c:d=.E
  .subst c;rfl
  .have i:cT (c2 yK aa bq) [.q d]=Z (δ,[.q d]):=by
    cases d with
    |E=>exact ar J c
    |str x=>rfl
    |int v=>rfl
    |_=>exact f.elim
   show C' _ _ _ _=_;unfold C';rw[i];exact rU J (EB f c),J⟩
 refine rH (ρ:=b) J (rQ (qZ J (sm e) ?_));rw[show (a.map λd=>D.str (sD d))=(a.map sD).map D.str by rw[aP];rfl];exact Cq (by decide +kernel) (by rw[ae];omega) λx j=>by obtain⟨d,hd,rfl⟩:=az.1 j;exact bf (F5 (h d hd)) (by decide)
inductive Q' where
 |at (a b:Str)|has (a:Str)|seen (a:Str)|mark (a:Str) (v:Int)|kind (a k:Str)|word (w:Str)|lit|no (s:Q')|bo (s t:Q')
def l0:Q'->L4.D
 |.at a b=>.ea [.str "at", .str a,.str b]
 |.has a=>.ea [.str "has", .str a]
 |.seen a=>.ea [.str "seen", .str a]
 |.mark a v=>.ea [.str "marked", .str a,.int v]
 |.kind a k=>.ea [.str "kind", .str a,.str k]
 |.word w=>.ea [.str "word", .str w]
 |.lit=>.ea [.str "lit"]
 |.no s=>.ea [.str "not", l0 s]
 |.bo s t=>.ea [.str "both", l0 s,l0 t]
def O':Q'->L4.D
 |.at a b=>atO a b
 |.has a=>hsO a
 |.seen a=>seO a
 |.mark a v=>mkO a v
 |.kind a k=>kiO a k
 |.word w=>woO w
 |.lit=>liO
 |.no s=>noO (O' s)
 |.bo s t=>boO (O' s) (O' t)
def i?:Q'->List L4.D
 |.at a b=>[.str "at", .str a,.str b]
 |.has a=>[.str "has", .str a]
 |.seen a=>[.str "seen", .str a]
 |.mark a v=>[.str "marked", .str a,.int v]
 |.kind a k=>[.str "kind", .str a,.str k]
 |.word w=>[.str "word", .str w]
 |.lit=>[.str "lit"]
 |.no s=>.str "not" ::i? s
 |.bo s t=>.str "both" ::(i? s++i? t)
def dp:Q'->Nat
 |.no s=>dp s+1
 |.bo s t=>max (dp s) (dp t)+1
 |_=>0
def Aq:∀s,i? s≠[]
 |.at _ _=>by simp[i?]|.has _=>by simp[i?]|.seen _=>by simp[i?]|.mark _ _=>by simp[i?]|.kind _ _=>by simp[i?]|.word _=>by simp[i?]|.lit=>by simp[i?]|.no _=>by simp[i?]|.bo _ _=>by simp[i?]
theorem uO:∀(n:Nat) (s:Q'),dp s<=n->(i? s).length+1<=4 * 2 ^ n
 |n,.at _ _,_=>by have:=eB (n:=n);simp only[i?,aF,cu];omega
 |n,.has _,_=>by have:=eB (n:=n);simp only[i?,aF,cu];omega
 |n,.seen _,_=>by have:=eB (n:=n);simp only[i?,aF,cu];omega
 |n,.mark _ _,_=>by have:=eB (n:=n);simp only[i?,aF,cu];omega
 |n,.kind _ _,_=>by have:=eB (n:=n);simp only[i?,aF,cu];omega
 |n,.word _,_=>by have:=eB (n:=n);simp only[i?,aF,cu];omega
 |n,.lit,_=>by have:=eB (n:=n);simp only[i?,aF,cu];omega
 |0,.no s,h=>by simp[dp]at h
 |n+1,.no s,h=>by have:=uO n s (by simp only[dp]at h;omega);simp only[i?,aF];rw[iV];omega
 |0,.bo s t,h=>by simp[dp]at h
 |n+1,.bo s t,h=>by have a:=uO n s (by simp only[dp]at h;omega);have b:=uO n t (by simp only[dp]at h;omega);simp only[i?,aF,au];rw[iV];omega
def zE:L4.D->Bool
 |.ea _=>γ
 |_=>δ
def Sy:∀s,∃a,l0 s=.ea a
 |.at _ _=>⟨_,J⟩|.has _=>⟨_,J⟩|.seen _=>⟨_,J⟩|.mark _ _=>⟨_,J⟩|.kind _ _=>⟨_,J⟩|.word _=>⟨_,J⟩|.lit=>⟨_,J⟩|.no _=>⟨_,J⟩|.bo _ _=>⟨_,J⟩
theorem Cr:∀(s:Q') (n:Nat),dp s<n->ua n [l0 s]=Z (O' s)
 |s,0,h=>ar h (iM _)
 |.at _ _,n+1,_=>by kernel_rfl
 |.has _,n+1,_=>by kernel_rfl
 |.seen _,n+1,_=>by kernel_rfl
 |.mark _ _,n+1,_=>by kernel_rfl
 |.kind _ _,n+1,_=>by kernel_rfl
 |.word _,n+1,_=>by kernel_rfl
 |.lit,n+1,_=>by kernel_rfl
 |.no s,n+1,h=>by have c:=Cr s n (by simp only[dp]at h;omega);exact rH J ((tE J).t ((tE J).t ((tE J).t ((tE J).t ((tE J).t ((tE J).t (sk ((sP J).t (rQ (Ay (qW (qX J c) J) J))))))))))
 |.bo s t,n+1,h=>by have a:=Cr s n (by simp only[dp]at h;omega);have b:=Cr t n (by simp only[dp]at h;omega);exact rH J ((tE J).t ((tE J).t ((tE J).t ((tE J).t ((tE J).t ((tE J).t ((tE J).t (sk ((sP J).t (rQ (Ay (qW (qX J a) (qW (qX J b) J)) J)))))))))))
def Told(n:Nat)(o d:L4.D):Prop:=∃c a b h,o=.obj c a b/\sI n c=Z h/\a.contains "told" = δ/\h [o]=Z d
def yE{n:Nat}{o d:L4.D}(h:Told n o d){e:FE}{ρ a:aO}(j:e ρ=Z (o,a)):se (sI n) "told" e rK ρ=Z (d,a):=by obtain⟨c,p,l,m,rfl,b,f,i⟩:=h;exact um j b f J i
theorem EC:∀(s:Q') (n:Nat),dp s<=n->Told n (O' s) (l0 s)
 |.at a b,n,_=>⟨3,_,_,G8,J,by cases n<;>rfl,J,J⟩
 |.has a,n,_=>⟨4,_,_,FK,J,by cases n<;>rfl,J,J⟩
 |.seen a,n,_=>⟨5,_,_,D3,J,by cases n<;>rfl,J,J⟩
 |.mark a v,n,_=>⟨6,_,_,AY,J,by cases n<;>rfl,J,J⟩
 |.kind a k,n,_=>⟨7,_,_,D6,J,by cases n<;>rfl,J,J⟩
 |.word w,n,_=>⟨8,_,_,D8,J,by cases n<;>rfl,J,J⟩
 |.lit,n,_=>⟨15,_,_,FM,J,by cases n<;>rfl,J,J⟩
 |.no s,0,h=>by simp[dp]at h
 |.no s,n+1,h=>by have e:=EC s n (by simp only[dp]at h;omega);exact⟨9,_,_,_,J,J,J,rH J (rQ (ug (qW J (qW (yE e J) J)) (aH J)))⟩
 |.bo s t,0,h=>by simp[dp]at h
 |.bo s t,n+1,h=>by have c:=EC s n (by simp only[dp]at h;omega);have d:=EC t n (by simp only[dp]at h;omega);exact⟨10,_,_,_,J,J,J,rH J (rQ (ug (qW J (qW (yE c J) (qW (yE d J) J))) (aH J)))⟩
def SA{f h:FE}{e a b:aO}{c d:List L4.D}(i:f e=Z (.ea c,a))(j:h a=Z (.ea d,b))(l:c.length+d.length<=900):DH f h e=Z (.ea (c++d),b):=by unfold DH;rw[i];simp only[j,l,if_true]
theorem Hh{g:List L4.D->Option L4.D}{x:L4.D}:∀(b:List (L4.D×List L4.D)) (acc:List L4.D) (s:Sl),(∀q∈b,(zE q.1=γ/\g [q.1]=Z (.ea q.2))\/((∃y,q.1=.str y)\/∃v,q.1=.int v)/\q.2=[q.1])->acc.length+(b.flatMap cm).length<=800->
  ∃i,i2 (gN 2) (rO 1 (DH ag (C' (cT (c1 (r6 (sG "tuple")) ai)) (qY g bQ) (rN bQ)))) (b.map cc) [.q x,.q (.ea acc),s]=Z (.nx [.q x,.q (.ea (acc++b.flatMap cm)),i])
 |[],acc,s,_,_=>⟨s,by simp;rfl⟩
 |(d,ws)::b,acc,s,h,f=>by
  rw[c7,au]at f;have f:acc.length+(ws.length+(b.flatMap cm).length)<=800:=f;obtain⟨i,m⟩:=Hh (g:=g) (x:=x) b (acc++ws) (.q d) (λq l=>h q (aY _ l)) (by rw[au];omega);refine⟨i,?_⟩;rw[aR];unfold i2;rw[show gN 2 d [.q x,.q (.ea acc),s]=Z [.q x,.q (.ea acc),.q d] from J];have e:C' (cT (c1 (r6 (sG "tuple")) ai)) (qY g bQ) (rN bQ) [.q x,.q (.ea acc),.q d]=Z (.ea ws,[.q x,.q (.ea acc),.q d]):=by
   rcases h (d,ws) bc with ⟨a,c⟩|⟨⟨y,a⟩|⟨y,a⟩,c⟩
   .cases d with
    |ea p=>exact(F0 J).t (qX J c)
    |_=>cases a
   .simp only at a c;subst a c;rfl
   .simp only at a c;subst a c;rfl
  have j:rO 1 (DH ag (C' (cT (c1 (r6 (sG "tuple")) ai)) (qY g bQ) (rN bQ))) [.q x,.q (.ea acc),.q d]=Z (.nx [.q x,.q (.ea (acc++ws)),.q d]):=by refine(tI (d:=.ea (acc++ws)) (ρ':=[.q x,.q (.ea acc),.q d]) ?_).t J;exact SA J e (by omega)
  simp only[j];rw[m,c7,bO]
def LQ{n:Nat}{ps:List (L4.D×List L4.D)}(h:∀q∈ps,(zE q.1=γ/\wx n [q.1]=Z (.ea q.2))\/((∃y,q.1=.str y)\/∃v,q.1=.int v)/\q.2=[q.1])(a:(ps.flatMap cm).length<=800):wx (n+1) [.ea (ps.map cc)]=Z (.ea (ps.flatMap cm)):=by obtain⟨b,e⟩:=Hh (x:=.ea (ps.map cc)) ps [] .un h (by simpa using a);exact rH J ((q8 J).t ((q8 ((wW J).t e)).t J))
def Zi(y:Str){n:Nat}:(zE (D.str y)=γ/\wx n [.str y]=Z (.ea [.str y]))\/((∃z,D.str y=.str z)\/∃v,D.str y=.int v)/\[D.str y]=[.str y]:=.inr ⟨.inl ⟨y,J⟩,J⟩
def Dj(s:Q'):zE (l0 s)=γ:=by obtain⟨a,e⟩:=Sy s;rw[e];rfl
theorem ED:∀(s:Q') (n:Nat),dp s<n->n<=4->wx n [l0 s]=Z (.ea (i? s))
 |s,0,h,_=>ar h (iM _)
 |.at _ _,n+1,_,_=>by kernel_rfl
 |.has _,n+1,_,_=>by kernel_rfl
 |.seen _,n+1,_,_=>by kernel_rfl
 |.mark _ _,n+1,_,_=>by kernel_rfl
 |.kind _ _,n+1,_,_=>by kernel_rfl
 |.word _,n+1,_,_=>by kernel_rfl
 |.lit,n+1,_,_=>by kernel_rfl
 |.no s,n+1,h,b=>by
  have e:=ED s n (by simp only[dp]at h;omega) (by omega);have l:=uO 3 s (by simp only[dp]at h;omega);have:=LQ (n:=n) (ps:=[(.str "not", [.str "not"]),(l0 s,i? s)]) (λq a=>by
   simp only[aN,bS,or_false]at a;rcases a with rfl|rfl
   .exact Zi _
   .exact .inl ⟨Dj s,e⟩) (by simp only[c7,iC,au,aF,cu];omega)
  simpa [l0,i?]using this
 |.bo s t,n+1,h,b=>by
  have c:=ED s n (by simp only[dp]at h;omega) (by omega);have d:=ED t n (by simp only[dp]at h;omega) (by omega);have i:=uO 3 s (by simp only[dp]at h;omega);have j:=uO 3 t (by simp only[dp]at h;omega);have:=LQ (n:=n) (ps:=[(.str "both", [.str "both"]),(l0 s,i? s),(l0 t,i? t)]) (λq a=>by
   simp only[aN,bS,or_false]at a;rcases a with rfl|rfl|rfl
   .exact Zi _
   .exact .inl ⟨Dj s,c⟩
   .exact .inl ⟨Dj t,d⟩) (by simp only[c7,iC,au,aF,cu];omega)
  simpa [l0,i?]using this
def vr(a:List L4.D):Prop:=∀d∈a,Pt d/\d≠.E
def jw(a:List L4.D):Str:=jn (a.map sD)
def F6{a:List L4.D}(h:vr a)(b:a≠[])(e:a.length<=100):(jw a).length<=6100:=by have:=PZ (l:=a.map sD) (c:=60) (λx f=>by obtain⟨d,hd,rfl⟩:=az.1 f;exact F5 (h d hd).1) (by simpa using b);rw[ae]at this;exact bf this (by have:=jA 61 e;omega)
theorem LR{g:List L4.D->Option L4.D}{x:L4.D}:∀(a:List (L4.D×Str)) (acc:aE) (s:Sl),(∀q∈a,(zE q.1=γ/\g [q.1]=Z (.str q.2))\/((Pt q.1/\q.1≠.E)/\q.2=sD q.1))->acc.length+a.length<=800->
  ∃f,i2 (gN 2) (fu (cT (c1 (r6 (sG "tuple")) ai)) (rq (uP 1 (qY g bQ))) (rq (uP 1 (c1 oy ai)))) (a.map cc) [.q x,.J (acc.map D.str),s]=Z (.nx [.q x,.J ((acc++a.map cm).map D.str),f])
 |[],acc,s,_,_=>⟨s,by simp;rfl⟩
 |(d,w)::a,acc,s,h,m=>by
  rw[aF]at m;obtain⟨f,p⟩:=LR (g:=g) (x:=x) a (acc++[w]) (.q d) (λq o=>h q (aY _ o)) (by rw[au];show acc.length+1+_<=_;omega);refine⟨f,?_⟩;rw[aR];unfold i2;rw[show gN 2 d [.q x,.J (acc.map D.str),s]=Z [.q x,.J (acc.map D.str),.q d] from J];have e:fu (cT (c1 (r6 (sG "tuple")) ai)) (rq (uP 1 (qY g bQ))) (rq (uP 1 (c1 oy ai))) [.q x,.J (acc.map D.str),.q d]=Z (.nx [.q x,.J ((acc++[w]).map D.str),.q d]):=by
   rw[aJ];rcases h (d,w) bc with ⟨c,b⟩|⟨⟨c,i⟩,b⟩
   .cases d with
    |ea r=>exact(sP J).t ((sW (vy (es:=acc.map D.str) J (qX J b) J (by rw[ae];omega))).t J)
    |_=>cases c
   .have b:w=sD d:=b;have j:cT (c1 (r6 (sG "tuple")) ai) [.q x,.J (acc.map D.str),.q d]=Z (δ,[.q x,.J (acc.map D.str),.q d]):=by
     cases d with
     |str y=>rfl
     |int v=>rfl
     |E=>exact ar J i
     |_=>exact c.elim
    rw[b];exact(tY j).t ((sW (vy (es:=acc.map D.str) J (rU J (EB c i)) J (by rw[ae];omega))).t J)
  simp only[e];rw[p,aR,bO];rfl
def P1{n:Nat}{ps:List (L4.D×Str)}(h:∀q∈ps,(zE q.1=γ/\sj n [q.1]=Z (.str q.2))\/((Pt q.1/\q.1≠.E)/\q.2=sD q.1))(d:ps.length<=100)(b:∀q∈ps,q.2.length<=20000):sj (n+1) [.ea (ps.map cc)]=Z (.str (jn (ps.map cm))):=by obtain⟨f,e⟩:=LR (x:=.ea (ps.map cc)) ps [] .un h (by simp;omega);refine rH J ((q8 J).t ((q8 ((wW J).t e)).t (rQ (HN (qZ J J (Cq (by decide +kernel) (by simp;omega) λx c=>?_)) J))));obtain⟨q,a,rfl⟩:=az.1 (show x∈ps.map cm from c);exact b q a
def xS{n:Nat}{a:List L4.D}(h:vr a)(c:a.length<=100):sj (n+1) [.ea a]=Z (.str (jw a)):=by have:=P1 (n:=n) (ps:=a.map λd=>(d,sD d)) (λq b=>by obtain⟨d,hd,rfl⟩:=az.1 b;exact .inr ⟨h d hd,J⟩) (by rw[ae];exact c) (λq b=>by obtain⟨d,hd,rfl⟩:=az.1 b;exact bf (F5 (h d hd).1) (by decide));rw[aP,aP]at this;rw[show (cc∘λd:L4.D=>(d,sD d))=id from J,dy]at this;exact this
def SC{a b:List L4.D}(h:vr (a++b)):vr a/\vr b:=⟨λd hd=>h d (bB _ hd),λd hd=>h d (bA _ hd)⟩
def AH{x:Str}(h:x.length<=60):Pt (.str x)/\D.str x≠.E:=⟨h,λz=>by cases z⟩
theorem AG:∀(s:Q') (n:Nat),dp s<n->n<=4->vr (i? s)->sj n [l0 s]=Z (.str (jw (i? s)))
 |s,0,h,_,_=>ar h (iM _)
 |.at _ _,n+1,_,_,h=>xS h (aH J)
 |.has _,n+1,_,_,h=>xS h (aH J)
 |.seen _,n+1,_,_,h=>xS h (aH J)
 |.mark _ _,n+1,_,_,h=>xS h (aH J)
 |.kind _ _,n+1,_,_,h=>xS h (aH J)
 |.word _,n+1,_,_,h=>xS h (aH J)
 |.lit,n+1,_,_,h=>xS h (aH J)
 |.no s,n+1,h,i,c=>by
  have b:vr (i? s):=λd hd=>c d (aY _ hd);have o:=AG s n (by simp only[dp]at h;omega) (by omega) b;have l:=uO 3 s (by simp only[dp]at h;omega);have:=P1 (n:=n) (ps:=[(.str "not", "not"),(l0 s,jw (i? s))]) (λq a=>by
   simp only[aN,bS,or_false]at a;rcases a with rfl|rfl
   .exact .inr ⟨AH (aH (by kernel_rfl)),J⟩
   .exact .inl ⟨Dj s,o⟩) (aH J) (λq a=>by
   simp only[aN,bS,or_false]at a;rcases a with rfl|rfl
   .exact aH (by kernel_rfl)
   .exact bf (F6 b (Aq s) (by omega)) (by decide))
  refine kJ this ?_;show Z (D.str (jn ["not", jn ((i? s).map sD)]))=Z (.str (jn ("not" ::(i? s).map sD)));rw[ZU _ (by simpa using Aq s)]
 |.bo s t,n+1,h,i,c=>by
  have b:vr (i? s++i? t):=λd hd=>c d (aY _ hd);obtain⟨e,f⟩:=SC b;have j:=AG s n (by simp only[dp]at h;omega) (by omega) e;have m:=AG t n (by simp only[dp]at h;omega) (by omega) f;have r:=uO 3 s (by simp only[dp]at h;omega);have u:=uO 3 t (by simp only[dp]at h;omega);have:=P1 (n:=n) (ps:=[(.str "both", "both"),(l0 s,jw (i? s)),(l0 t,jw (i? t))]) (λq a=>by
   simp only[aN,bS,or_false]at a;rcases a with rfl|rfl|rfl
   .exact .inr ⟨AH (aH (by kernel_rfl)),J⟩
   .exact .inl ⟨Dj s,j⟩
   .exact .inl ⟨Dj t,m⟩) (aH J) (λq a=>by
   simp only[aN,bS,or_false]at a;rcases a with rfl|rfl|rfl
   .exact aH (by kernel_rfl)
   .exact bf (F6 e (Aq s) (by omega)) (by decide)
   .exact bf (F6 f (Aq t) (by omega)) (by decide))
  refine kJ this ?_;show Z (D.str (jn ["both", jn ((i? s).map sD),jn ((i? t).map sD)]))=Z (.str (jn ("both" ::(i? s++i? t).map sD)));rw[ZV _ (by simpa using Aq s) (by simpa using Aq t),aJ]
inductive De where
 |mv (a b:Str)|pu (a:Str) (v:Int)
def Me:De->List L4.D
 |.mv a b=>[.str "move", .str a,.str b]
 |.pu a v=>[.str "put", .str a,.int v]
def tX(d:De):L4.D:=.ea (Me d)
def Xn:De->L4.D
 |.mv a b=>mvO a b
 |.pu a v=>puO a v
def SD(d:De):Ak [tX d]=Z (Xn d):=by cases d<;>kernel_rfl
def SE(d:De):Told 2 (Xn d) (tX d):=by
 cases d with
 |mv a b=>exact⟨11,_,_,Ea,J,J,J,J⟩
 |pu a v=>exact⟨12,_,_,FP,J,J,J,J⟩
def SF(d:De):wx 3 [tX d]=Z (.ea (Me d)):=by cases d<;>kernel_rfl
def Dl(d:De):Me d≠[]/\(Me d).length=3:=by cases d<;>exact⟨by simp[Me],J⟩
def Na(d:De)(h:vr (Me d)):sj 3 [tX d]=Z (.str (jw (Me d))):=xS h (by rw[(Dl d).2];decide)
def ne_nil{b:List L4.D}{l:List L3.Dq}(h:CJ b=Z l)(hd:ud l<=19):fh γ (.b0 b) (.b0 [])=Z (.I (!decide (b=[]))):=by
 cases b with
 |nil=>rfl
 |cons x c=>
  rw[bx (m9 x c)];obtain⟨y,a,rfl⟩:∃y a,l=y::a:=by
   unfold CJ at h;split at h
   .split at h
    .cases h;exact⟨_,_,J⟩
    .cases h
   .cases h
  have d:Jb γ (.b0 (x::c)) (.b0 [])=U:=rfl;have e:z3 (.b0 (x::c))=Z (.b0 (y::a)):=by unfold z3;rw[h]
  have f:m3 (.b0 (y::a))<=20:=by rw[m3];omega
  unfold fh;rw[d];show Oc γ _ _=_;unfold Oc;rw[e,show z3 (.b0 [])=Z (.b0 []) from J];show (if NR (.b0 (y::a)) (.b0 [])&&decide (m3 (.b0 (y::a))<=20)&&decide (m3 (.b0 [])<=20)then Z (D.I (!F? (.b0 (y::a)) (.b0 [])))else U)=_;rw[bN f];rfl
theorem F7:∀l:List (Str×Int),∃m,CJ (l.map pD)=Z m/\ud m<=1
 |[]=>⟨[],J,by decide⟩
 |x::l=>by obtain⟨m,a,b⟩:=F7 l;refine⟨.ea [.str x.1,.int x.2]::m,by rw[aR];unfold CJ;rw[a];rfl,?_⟩;unfold ud;exact Nat.max_le.2 ⟨aK 1,b⟩
def tx(f:Str):aE:=if f="one" then ["it"]else if f="two" then ["it", "other", "it"]else []
def v?(T:List Th):aE:=(T.filter λt=>!decide (t.k=.room)).map Th.n
def y?(T:List Th):aE:=iE T++[yN T,"here"]++(T.filter λt=>decide (t.k=.box)).map Th.n
def fm4{P:Str->Prop}(b:P "one")(c:P "two")(d:P "alone")(e:P "way"):∀f∈n?,P f:=λf a=>by simp only[n?,aN,bS,or_false]at a;rcases a with rfl|rfl|rfl|rfl<;>assumption
section
variable{T:List Th}{M:List Mk}{dk:aE}{W:List Wy}{V:List Vb}{f:Str}
def Tu(b:f∈n?):∀x∈tx f,By f x:=by
 refine fm4 (P:=λf=>∀x∈tx f,By f x) ?_ ?_ ?_ ?_ f b
 .intro x a;have:x="it" := by simpa [tx]using a
  subst this;exact .inl ⟨J,by decide⟩
 .intro x a;have:x∈(["it", "other", "it"]:aE):=a;simp only[aN,bS,or_false]at this;rcases this with rfl|rfl|rfl
  .exact .inl ⟨J,by decide⟩
  .exact .inr ⟨J,J⟩
  .exact .inl ⟨J,by decide⟩
 .intro x a;have:x∈([]:aE):=a;cases this
 .intro x a;have:x∈([]:aE):=a;cases this
def Tv(a:f∈n?){x:Str}(h:x∈v? T++tx f):Tm f (T.map Th.n) x:=by
 rcases ba.1 h with h|h
 .obtain⟨t,b,rfl⟩:=az.1 h;exact .inl (bF (bg.1 b).1)
 .exact .inr (.inr (Tu a x h))
def y_T(g:fb T M dk W):∃t∈T,t.n=yN T/\t.k=.you:=by
 have h:yN T∈(T.filter λt=>decide (t.k=.you)).map Th.n:=by rw[g.y1];exact bV.2 J
 obtain⟨t,a,e⟩:=az.1 h;exact⟨t,(bg.1 a).1,e,bK (bg.1 a).2⟩
def Tw(g:fb T M dk W){x:Str}(h:x∈y? T):Tm f (P' T) x:=by
 have b:∀t∈T,t.k.hd=γ->t.n∈P' T:=λt a c=>bF (bg.2 ⟨a,c⟩);rcases ba.1 h with h|h
 .rcases ba.1 h with h|h
  .obtain⟨t,a,rfl⟩:=az.1 h;exact .inl (b t (bg.1 a).1 (by rw[bK (bg.1 a).2];rfl))
  .simp only[aN,bS,or_false]at h;rcases h with rfl|rfl
   .obtain⟨t,a,e,k⟩:=y_T g;rw[<-e];exact .inl (b t a (by rw[k];rfl))
   .exact .inr (.inl J)
 .obtain⟨t,a,rfl⟩:=az.1 h;exact .inl (b t (bg.1 a).1 (by rw[bK (bg.1 a).2];rfl))
def Nc{x:Str}(h:x∈nmL):x.length<=60:=Ap (by kernel_rfl) h
def Z0{x:Str}(h:By f x):x.length<=60:=by rcases h with ⟨rfl,_⟩|⟨rfl,_⟩<;>exact aH (by kernel_rfl)
def P2(g:fb T M dk W){N:aE}(hN:∀x∈N,x∈T.map Th.n){x:Str}(h:Tm f N x):x.length<=60:=by
 rcases h with h|rfl|h
 .exact Nc (g.nm x (bB _ (hN x h)))
 .exact aH (by kernel_rfl)
 .exact Z0 h
def Im:∀x∈P' T,x∈T.map Th.n:=λx h=>by obtain⟨t,a,rfl⟩:=az.1 h;exact bF (bg.1 a).1
def SG(g:fb T M dk W){q:Str×Int}(h:q∈mP T M):0<=q.2/\q.2<=3:=by
 rcases ba.1 h with h|h
 .obtain⟨t,_,rfl⟩:=az.1 h;exact⟨(by show (0:Int)<=1;decide),(by show (1:Int)<=3;decide)⟩
 .obtain⟨m,b,rfl⟩:=az.1 h;obtain⟨c,a,_,_⟩:=g.mo m b;exact⟨by show 0<=m.mo;omega,a⟩
def P0(x:Str)(h:cQ x.length 60=γ):Pt (.str x)/\D.str x≠.E:=AH (aH h)
def vt:vr []:=λd h=>by cases h
def rS{d:L4.D}{b:List L4.D}(h:Pt d/\d≠.E)(c:vr b):vr (d::b):=λe a=>by
 rcases aN.1 a with rfl|a
 .exact h
 .exact c e a
def TOk(w:L4.D)(f:Str)(n:Nat)(d:L4.D):Prop:=∃s,d=l0 s/\Tk w f n (O' s)/\dp s<=n/\vr (i? s)
def Tx(a:f∈n?){ρ:aO}(h:cV 1 ρ=Z (.str f,ρ)):Dw (DE [("one", (cL (rB d9))),("two", (cL (rB gW)))]) ag (cL (rB rK)) ρ=Z (.b0 ((tx f).map D.str),ρ):=by
 have key:∀f∈n?,∀ρ:aO,cV 1 ρ=Z (.str f,ρ)->Dw (DE [("one", (cL (rB d9))),("two", (cL (rB gW)))]) ag (cL (rB rK)) ρ=Z (.b0 ((tx f).map D.str),ρ):=by refine fm4 ?_ ?_ ?_ ?_<;>intro ρ h<;>(unfold Dw;rw[show DE [("one", (cL (rB d9))),("two", (cL (rB gW)))] ρ=Z (.M [Sum.inr "one", Sum.inr "two"] [.b0 [.str "it"],.b0 [.str "it", .str "other", .str "it"]],ρ) from by kernel_rfl];simp only[h];kernel_rfl)
 exact key f a ρ h
end
def Ar{c d:FT}{ρ ρ1 a:aO}{b:Bool}(e:c ρ=Z (γ,ρ1))(f:d ρ1=Z (b,a)):vw c d ρ=Z (b,a):=by unfold vw;rw[e];exact f
def Tz{b:Type}{L:List b}(F:b->L4.D){i:Nat}{a:aO}(h:cV i a=Z (.b0 (L.map F),a)):c1 ux (cV i) a=Z (dN L.length,a):=rU h (by show Z (D.int (L.map F).length)=_;rw[ae])
def JH{a:Type}{L:List a}(F:a->L4.D)(y:a){i z:Nat}{e:FE}{ρ:aO}(b:0<L.length)(h:cV i ρ=Z (.b0 (L.map F),ρ))(c:e ρ=Z (dN z,ρ)):c2 ew (cV i) (c2 rM e (c1 ux (cV i))) ρ=Z (F (L.getD (z % L.length) y),ρ):=
 qZ h (qZ c (Tz F h) (md b)) (Sv F y (aD _ b))
def Xs{L:aE}{i z k:Nat}{e:FE}{c:FE}{ρ:aO}(a:0<k)(d:L.length=k)(h:c ρ=Z (.b0 (L.map D.str),ρ))(b:e ρ=Z (dN z,ρ)):c2 ew c (c2 rM e (cC (.int k))) ρ=Z (.str (L.getD (z % k) ""),ρ):=
 qZ h (qZ b J (md a)) (Cn (by rw[d];exact aD _ a))
def Bv{c k:Nat}{ρ:aO}(h:cV 0 ρ=Z (dN c,ρ))(b:0<k)(a:k<1073741824):c2 sF aa (cC (.int k)) ρ=Z (dN (c / k),ρ):=qZ h J (dv b a)
section
variable{T:List Th}{M:List Mk}{dk:aE}{W:List Wy}{V:List Vb}{f:Str}
def TB(g:fb T M dk W):0<(v? T).length:=by obtain⟨t,a,_,k⟩:=y_T g;exact lG (bF (bg.2 ⟨a,by rw[k];rfl⟩))
def TC(g:fb T M dk W):(v? T).length<=20:=by unfold v?;rw[ae];have:=cU (λt:Th=>!decide (t.k=.room)) T;have:=g.len;omega
def TF:(tx f).length<=3:=by
 unfold tx;split
 .decide
 .split<;>decide
def LS:0<(y? T).length:=by unfold y?;rw[au,au];show 0<_+2+_;omega
def pm{k c:Nat}{q:Str×Int}(h:0<=q.2/\q.2<=3):∃v:Int,rM (dN (c / k)) (.int (q.2+1))=Z (.int v)/\0<=v/\v<=q.2:=
 ⟨_,yM (by omega),iN _ (by omega),by have:=mH ((c / k:Nat):Int) (show 0<q.2+1 by omega);omega⟩
def Hk(g:fb T M dk W)(t:f∈n?)(n c:Nat)(u:n=0\/∃m,n=m+1/\∀c,∃d,sO (m+1) [dN c,.str f,.b0 ((v? T).map D.str),.b0 ((y? T).map D.str),.b0 ((mP T M).map pD),dN (m+1)]=Z d/\TOk (f3 T M dk W V) f m d):∃d,sO (n+1) [dN c,.str f,.b0 ((v? T).map D.str),.b0 ((y? T).map D.str),.b0 ((mP T M).map pD),dN (n+1)]=Z d/\TOk (f3 T M dk W V) f n d:=by
 let X:=v? T++tx f;have lx:X.length=(v? T).length+(tx f).length:=au;have x0:0<X.length:=by rw[lx];have:=TB g;omega
 let a:=X.getD (c / 9 % X.length) "";have hat:Tm f (T.map Th.n) a:=Tv t (sy (aD _ x0));have l:=P2 g (λ_ h=>h) hat;let p:=(y? T).getD (c / 90 % (y? T).length) "";have hpt:Tm f (P' T) p:=Tw g (sy (aD _ LS));have S:=P2 g Im hpt;let A:Sl:=.q (dN c);let F:Sl:=.q (.str f);let O:Sl:=.q (.b0 ((v? T).map D.str));let P:Sl:=.q (.b0 ((y? T).map D.str));let K:Sl:=.q (.b0 ((mP T M).map pD));let Y:Sl:=.q (.b0 (X.map D.str));refine KE J ?_;unfold vS;refine rl (sg (rE (a:=.b0 (X.map D.str)) (b:=[A,F,O,P,K,.q (dN (n+1)),.un,.un,.un,.un,.un,.un]) ((sm (sY J (Tx t J) (by rw[ae,ae];have:=TC g;have:=TF (f:=f);omega))).t (by rw[<-aJ];rfl)) ?_));refine rl (sg (rE (a:=.str a) (b:=[A,F,O,P,K,.q (dN (n+1)),Y,.un,.un,.un,.un,.un]) (JH D.str "" x0 J (Bv (k:=9) J (by decide) (by decide))) ?_));refine rl (sg (rE (a:=dN (c % 9)) (b:=[A,F,O,P,K,.q (dN (n+1)),Y,.q (.str a),.un,.un,.un,.un]) (qZ J J (md (b:=9) (by decide))) ?_));obtain⟨r,hr⟩:∃r,c % 9=r:=⟨_,J⟩;have r9:r<9:=by rw[<-hr];exact aD _ (by decide)
 rw[hr];refine s_g (R:=λo=>o=[A,F,O,P,K,.q (dN (n+1)),Y,.q (.str a),.q (dN r),.un,.un,.un]) J ?_;rintro _ rfl;have lit:∀r:Nat,Ws (rj (rN (a1 (cS "lit"))) [A,F,O,P,K,.q (dN (n+1)),Y,.q (.str a),.q (dN r),.un,.un,.un]) (λ_=>False) λd _=>TOk (f3 T M dk W V) f n d:=λr=>yd (rE J ⟨.lit,J,Xc,cb _,rS (P0 "lit" (by kernel_rfl)) vt⟩);have gt:∀(m r:Nat),n=m+1->cT (c2 MC bw aL) [A,F,O,P,K,.q (dN (n+1)),Y,.q (.str a),.q (dN r),.un,.un,.un]=Z (γ,[A,F,O,P,K,.q (dN (n+1)),Y,.q (.str a),.q (dN r),.un,.un,.un]):=λm r j=>by show Z (decide ((1:Int)<((n+1:Nat):Int)),_)=_;rw[bN (by omega)]
 have sb:∀(m:Nat) (o:aO),n=m+1->cV 5 o=Z (dN (n+1),o)->c2 E6 bw aL o=Z (dN (m+1),o):=λm o j h=>(qZ h J J).t (by
  show Z (D.int (((n+1:Nat):Int) - 1),o)=_;rw[show ((n+1:Nat):Int) - 1=((m+1:Nat):Int) by omega])
 have cases9:r=0\/r=1\/r=2\/r=3\/r=4\/r=5\/r=6\/r=7\/r=8:=by omega
 clear hr r9;rcases cases9 with rfl|rfl|rfl|rfl|rfl|rfl|rfl|rfl|rfl
 .refine ν J (yd (rE (ug (qW J (qW J (qW (JH D.str "" LS J (Bv (k:=90) J (by decide) (by decide))) J))) (aH J)) ?_));exact⟨.at a p,J,YZ g t hat hpt,cb _,rS (P0 "at" (by kernel_rfl)) (rS (AH l) (rS (AH S) vt))⟩
 .exact j' J (ν J (yd (rE J ⟨.has a,J,Xb g t hat,cb _,rS (P0 "has" (by kernel_rfl)) (rS (AH l) vt)⟩)))
 .exact j' J (ν J (yd (rE J ⟨.seen a,J,Sn g t hat,cb _,rS (P0 "seen" (by kernel_rfl)) (rS (AH l) vt)⟩)))
 .obtain⟨ml,m1,m2⟩:=F7 (mP T M);have B:=ne_nil m1 (by omega);refine j' J (j' J ?_);by_cases C:(mP T M).map pD=[]
  .rw[bN C]at B;exact j' (Ar J (sL (qZ J J B))) (j' J (j' J (j' J (j' J (lit 3)))))
  .rw[bx C]at B;have w:0<(mP T M).length:=by
    rcases mI (mP T M).length with z|z
    .exact ar (by rw[fZ.1 z];rfl) C
    .exact z
   let q:=(mP T M).getD (c / 90 % (mP T M).length) ("", 0);have y:q∈mP T M:=sy (aD _ w);obtain⟨v,e1,v0,v1⟩:=pm (k:=900) (c:=c) (SG g y);have:=SG g y;refine ν (Ar J (sL (qZ J J B))) (rl (M7 (rE (JH pD ("", 0) w J (Bv (k:=90) J (by decide) (by decide))) ⟨[A,F,O,P,K,.q (dN (n+1)),Y,.q (.str a),.q (dN 3),.q (.str q.1),.q (.int q.2),.un],J,?_⟩)));refine yd (rE (ug (qW J (qW J (qW (qZ (Bv (k:=900) J (by decide) (by decide)) J e1) J))) (aH J)) ?_);exact⟨.mark q.1 v,J,So g t (.inl y) v0 v1,cb _,rS (P0 "marked" (by kernel_rfl)) (rS (AH (Nc (LK g y))) (rS ⟨⟨v0,by omega⟩,λz=>by cases z⟩ vt))⟩
 .let k:=(["plain", "box", "lamp", "fixed"]:aE).getD (c / 90 % 4) "";have N:k∈(["plain", "box", "lamp", "fixed"]:aE):=sy (show _<4 from aD _ (by decide));have Q:k∈(["plain", "fixed", "box", "lamp", "room", "you"]:aE):=by simp only[aN,bS,or_false]at N ⊢;rcases N with h|h|h|h<;>simp[h]
  have k6:k.length<=60:=Ap (by kernel_rfl) N;refine j' J (j' J (j' J (ν J (yd (rE (ug (qW J (qW J (qW (Xs (L:=["plain", "box", "lamp", "fixed"]) (i:=0) (k:=4) (by decide) J J (Bv (k:=90) J (by decide) (by decide))) J))) (aH J)) ?_)))));exact⟨.kind a k,J,Sq g t hat Q,cb _,rS (P0 "kind" (by kernel_rfl)) (rS (AH l) (rS (AH k6) vt))⟩
 .refine j' J (j' J (j' J (j' J ?_)));by_cases hw:f="way"
  .subst hw;let x:=(["north", "up", "in"]:aE).getD (c / 90 % 3) "";have hx:x∈(["north", "up", "in"]:aE):=sy (show _<3 from aD _ (by decide));have hx':x∈S2:=by
    have:((["north", "up", "in"]:aE).all λx=>decide (x∈S2))=γ:=by kernel_rfl
    exact bK (aC.1 this x hx)
   have x6:x.length<=60:=Ap (by kernel_rfl) hx;refine ν J (yd (rE (ug (qW J (qW (Xs (L:=["north", "up", "in"]) (i:=0) (k:=3) (by decide) J J (Bv (k:=90) J (by decide) (by decide))) J)) (aH J)) ?_));exact⟨.word x,J,Sr hx',cb _,rS (P0 "word" (by kernel_rfl)) (rS (AH x6) vt)⟩
  .have e:fh δ (.str f) (.str "way")=Z (.I δ):=by rw[yT,bx hw];rfl
   exact j' (Ar J (sL (qZ J J e))) (j' J (j' J (lit 5)))
 .refine j' J (j' J (j' J (j' J (j' J ?_))));rcases u with rfl|⟨m,j,u⟩
  .exact j' J (j' J (lit 6))
  .obtain⟨d,e,s,rfl,E,h2,H⟩:=u (c / 7);refine ν (Ar J (gt m 6 j)) (yd (rE (ug (qW J (qW (qX (qW (Bv (k:=7) J (by decide) (by decide)) (qW J (qW J (qW J (qW J (qW (sb m _ j J) J)))))) (by rw[j];exact e)) J)) (aH J)) ?_));subst j;exact⟨.no s,J,Pw E,by show dp s+1<=m+1;omega,rS (P0 "not" (by kernel_rfl)) H⟩
 .refine j' J (j' J (j' J (j' J (j' J (j' J ?_)))));rcases u with rfl|⟨m,j,u⟩
  .exact j' J (lit 7)
  .obtain⟨d,e,s,rfl,E,h2,H⟩:=u (c / 11);obtain⟨d',e',s',rfl,G,h2',I⟩:=u (c / 13);refine ν (Ar J (gt m 7 j)) (rl (sg (rE (b:=[A,F,O,P,K,.q (dN (n+1)),Y,.q (.str a),.q (dN 7),.un,.un,.un]) (qX (qW (Bv (k:=11) J (by decide) (by decide)) (qW J (qW J (qW J (qW J (qW (sb m _ j J) J)))))) (by rw[j];exact e)) ?_)));refine yd (rE (ug (qW J (qW J (qW (qX (qW (Bv (k:=13) J (by decide) (by decide)) (qW J (qW J (qW J (qW J (qW (sb m _ j J) J)))))) (by rw[j];exact e')) J))) (aH J)) ?_);subst j;refine⟨.bo s s',J,M5 E G,by show max (dp s) (dp s')+1<=m+1;omega,rS (P0 "both" (by kernel_rfl)) λd hd=>?_⟩;rcases ba.1 hd with hd|hd
   .exact H d hd
   .exact I d hd
 .exact j' J (j' J (j' J (j' J (j' J (j' J (j' J (lit 8)))))))
theorem LU(g:fb T M dk W)(a:f∈n?):∀(n c:Nat),∃d,sO (n+1) [dN c,.str f,.b0 ((v? T).map D.str),.b0 ((y? T).map D.str),.b0 ((mP T M).map pD),dN (n+1)]=Z d/\TOk (f3 T M dk W V) f n d
 |0,c=>Hk g a 0 c (.inl J)
 |n+1,c=>Hk g a (n+1) c (.inr ⟨n,J,λc=>LU g a n c⟩)
end
def P3{c a:FT}{ρ ρ1:aO}(b:c ρ=Z (δ,ρ1)):vw c a ρ=Z (δ,ρ1):=by unfold vw;rw[b]
def DOk(w:L4.D)(f:Str)(d:L4.D):Prop:=∃s,d=tX s/\Dd w f (Xn s)/\vr (Me s)
section
variable{T:List Th}{M:List Mk}{dk:aE}{W:List Wy}{V:List Vb}{f:Str}
def TH(b:f∈n?){x:Str}(h:x∈v? T++tx f):Mv T f x:=by
 rcases ba.1 h with h|h
 .obtain⟨t,a,rfl⟩:=az.1 h;exact .inl ⟨t,(bg.1 a).1,J,by simpa using (bg.1 a).2⟩
 .exact .inr (Tu b x h)
def d12(a:f∈n?):∃b,A? δ (.str f) (.ea [.str "one", .str "two"])=Z (.I b)/\(b=γ->f∈(["one", "two"]:aE)):=
 fm4 (P:=λf=>∃b,A? δ (.str f) (.ea [.str "one", .str "two"])=Z (.I b)/\(b=γ->f∈(["one", "two"]:aE))) ⟨γ,by kernel_rfl,λx=>by decide⟩ ⟨γ,by kernel_rfl,λx=>by decide⟩ ⟨δ,by kernel_rfl,λz=>by cases z⟩ ⟨δ,by kernel_rfl,λz=>by cases z⟩ f a
def Z1(g:fb T M dk W){x:Str}(h:x∈iE T):Tm f (P' T) x/\∃t∈T,t.n=x/\t.k=.room:=by obtain⟨t,a,rfl⟩:=az.1 h;have b:t.k=.room:=bK (bg.1 a).2;exact⟨.inl (bF (bg.2 ⟨(bg.1 a).1,by rw[b];rfl⟩)),t,(bg.1 a).1,J,b⟩
def SI(g:fb T M dk W)(j:f∈n?)(c:Nat):∃d,vT [dN c,.str f,.b0 ((v? T).map D.str),.b0 ((y? T).map D.str),.b0 ((mP T M).map pD),.b0 ((iE T).map D.str),.str (yN T)]=Z d/\DOk (f3 T M dk W V) f d:=by
 let X:=v? T++tx f;have lx:X.length=(v? T).length+(tx f).length:=au;have G:0<X.length:=by rw[lx];have:=TB g;omega
 have E:0<(iE T).length:=by unfold iE;rw[ae];exact g.r1
 let a:=X.getD (c / 5 % X.length) "";have hax:a∈X:=sy (aD _ G);have l:=P2 g (λw h=>h) (Tv j hax);let p:=(y? T).getD (c / 50 % (y? T).length) "";have hpt:Tm f (P' T) p:=Tw g (sy (aD _ LS));let b:=(iE T).getD (c / 50 % (iE T).length) "";obtain⟨hbt,hbr⟩:=Z1 (f:=f) g (sy (aD _ E):b∈iE T);let A:Sl:=.q (dN c);let F:Sl:=.q (.str f);let O:Sl:=.q (.b0 ((v? T).map D.str));let P:Sl:=.q (.b0 ((y? T).map D.str));let K:Sl:=.q (.b0 ((mP T M).map pD));let R:Sl:=.q (.b0 ((iE T).map D.str));let o:Sl:=.q (.str (yN T));let Y:Sl:=.q (.b0 (X.map D.str));let i:aO:=[A,F,O,P,K,R,o,Y,.q (.str a),.un,.un];refine KE J ?_;unfold Aj;refine rl (sg (rE (a:=.b0 (X.map D.str)) (b:=[A,F,O,P,K,R,o,.un,.un,.un,.un]) ((sm (sY J (Tx j J) (by rw[ae,ae];have:=TC g;have:=TF (f:=f);omega))).t (by rw[<-aJ];rfl)) ?_));refine rl (sg (rE (a:=.str a) (b:=[A,F,O,P,K,R,o,Y,.un,.un,.un]) (JH D.str "" G J (Bv (k:=5) J (by decide) (by decide))) ?_));refine s_g (R:=λH=>H=i) J ?_;rintro _ rfl;have C:∀k:Nat,c2 (fh δ) (c2 rM aa ck) (cC (.int k)) i=Z (.I (decide (((c % 5:Nat):Int)=k)),i):=λk=>qZ (qZ (x:=dN c) J J (md (b:=5) (by decide))) J ((wC δ _ _).t (by cases decide (((c % 5:Nat):Int)=(k:Int))<;>rfl));have tail:Ws (bt (fu (cT (c2 (fh δ) bT bj)) (rj (rN kO)) rG)
   (rj (rN kP)) i) (λw=>False) λd w=>DOk (f3 T M dk W V) f d:=by
  have e:c2 (fh δ) bT bj i=Z (.I (decide (a=yN T)),i):=qZ J J ((yT δ a (yN T)).t (by cases decide (a=yN T)<;>rfl));by_cases h:a=yN T
  .rw[bN h]at e;refine ν (sL e) (yd (rE (ug (qW J (qW J (qW (JH D.str "" E J (Bv (k:=50) J (by decide) (by decide))) J))) (aH J)) ?_));have S:Mv T f (yN T):=by rw[<-h];exact TH j hax
   exact⟨.mv (yN T) b,J,LL g j S hbt (λw=>hbr),rS (P0 "move" (by kernel_rfl)) (rS (AH (by rw[<-h];exact l)) (rS (AH (P2 g Im hbt)) vt))⟩
  .rw[bx h]at e;refine j' (sL e) (yd (rE (ug (qW J (qW J (qW (JH D.str "" LS J (Bv (k:=50) J (by decide) (by decide))) J))) (aH J)) ?_));exact⟨.mv a p,J,LL g j (TH j hax) hpt (λz=>ar z h),rS (P0 "move" (by kernel_rfl)) (rS (AH l) (rS (AH (P2 g Im hpt)) vt))⟩
 have B:Ws (bt (fu (vw (cT (c2 (fh δ) (c2 rM aa ck) aL)) (cT (c2 (A? δ) ag (rN ja)))) (rj (rN oZ)) rG)
  (bt (fu (cT (c2 (fh δ) bT bj)) (rj (rN kO)) rG)
   (rj (rN kP))) i) (λw=>False) λd w=>DOk (f3 T M dk W V) f d:=by
  have e:=C 1;cases h:decide (((c % 5:Nat):Int)=(1:Nat))
  .rw[h]at e;exact j' (P3 (sL e)) tail
  .rw[h]at e;obtain⟨b,N,Q⟩:=d12 j;have y:=Ar (sL e) (sL (qZ (ρ:=i) (e:=cV 1) (e':=rN ja) J J N));cases b with
   |false=>exact j' y tail
   |true=>have h4:c / 50 % 4<4:=aD _ (by decide);refine ν y (yd (rE (ug (qW J (qW J (qW (qZ (Bv (k:=50) J (by decide) (by decide)) J (md (b:=4) (by decide))) J))) (aH J)) ?_));exact⟨.pu "it" (c / 50 % 4:Nat),J,Px (q:=("it", 3)) g j (.inr ⟨.inl ⟨J,Q J⟩,Int.le_refl 3⟩) (by omega) (by show ((c / 50 % 4:Nat):Int)<=3;omega),rS (P0 "put" (by kernel_rfl)) (rS (P0 "it" (by kernel_rfl)) (rS ⟨⟨by omega,by omega⟩,λz=>by cases z⟩ vt))⟩
 have e:=C 0;cases h:decide (((c % 5:Nat):Int)=(0:Nat))
 .rw[h]at e;exact j' (P3 (sL e)) B
 .rw[h]at e;obtain⟨ml,m1,m2⟩:=F7 (mP T M);have t:=ne_nil m1 (by omega);by_cases u:(mP T M).map pD=[]
  .rw[bN u]at t;exact j' (Ar (ρ1:=i) (sL e) (sL (qZ J J t))) B
  .rw[bx u]at t;have m:0<(mP T M).length:=by
    rcases mI (mP T M).length with z|z
    .exact ar (by rw[fZ.1 z];rfl) u
    .exact z
   let q:=(mP T M).getD (c / 50 % (mP T M).length) ("", 0);have r:q∈mP T M:=sy (aD _ m);obtain⟨v,I,v0,v1⟩:=pm (k:=500) (c:=c) (SG g r);have:=SG g r;refine ν (Ar (ρ1:=i) (sL e) (sL (qZ J J t))) (rl (M7 (rE (JH pD ("", 0) m J (Bv (k:=50) J (by decide) (by decide))) ⟨[A,F,O,P,K,R,o,Y,.q (.str a),.q (.str q.1),.q (.int q.2)],J,?_⟩)));refine yd (rE (ug (qW J (qW J (qW (qZ (Bv (k:=500) J (by decide) (by decide)) J I) J))) (aH J)) ?_);exact⟨.pu q.1 v,J,Px g j (.inl r) v0 v1,rS (P0 "put" (by kernel_rfl)) (rS (AH (Nc (LK g r))) (rS ⟨⟨v0,by omega⟩,λz=>by cases z⟩ vt))⟩
end
def P4:yb []=Z (v9.map Hs):=by kernel_rfl
def txL:aE:=["So be it.", " two  blanks ", "x", "refuses at it", i8 "~" 60]
def SJ{x:Str}(h:x∈txL):yA [.str x]=Z (.I γ):=zp (aC.1 (show (txL.all λx=>χ (yA [.str x]))=γ by kernel_rfl) x h)
def Zj{x:Str}(h:x∈txL):x.length<=60:=Ap (by kernel_rfl) h
structure Rs where
 v:Vb
 ts:List Q'
 ds:List De
 tx:Str
 rf:Bool
def Rr(r:Rs):L4.D:=.ea [.str r.v.n,.b0 (r.ts.map l0),.b0 (r.ds.map tX),.str r.tx,.I r.rf]
structure Bw(w:L4.D)(V:List Vb)(r:Rs):Prop where
 v:r.v∈V++v9
 lt:r.ts.length<=2
 t:∀t∈r.ts,Tk w r.v.f 2 (O' t)/\dp t<=2/\vr (i? t)
 ld:r.ds.length<=2
 d:∀d∈r.ds,Dd w r.v.f (Xn d)/\vr (Me d)
 x:r.tx∈txL
 rf:r.rf=γ->r.ds=[]
def Zk{v:Vb}(h:v∈v6++v9):v.f∈n?:=bK (aC.1 (show ((v6++v9).all λv=>decide (v.f∈n?))=γ by kernel_rfl) v h)
def P5{e:FE}{ρ a:aO}{m:Nat}(h:e ρ=Z (dN m,a))(f:m<=100):D? e ρ=Z ((av m).map λj:Nat=>D.int j,a):=by obtain⟨c,b,d,rfl,rfl⟩:=M8 (kl:=λc b=>c=(av m).map (λj:Nat=>D.int j)/\b=a) (rE h ⟨m,J,f,J,J⟩);exact d
def Zl(k:Kd):fh γ (.str k.s) (.str "room")=Z (.I (!decide (k=.room))):=by cases k<;>kernel_rfl
def Zm{ρ:aO}(T:List Th)(a:T.length<=1000){i:Nat}(hi:cV i ρ=Z (.b0 (T.map mq),ρ)):rh 1 [] (iL (cV i)) (gN 0) (cT (c2 (fh γ) (c2 ew aa bX) dE)) (c2 ew aa aS) ρ=Z ((v? T).map D.str,ρ):=by refine(vp mq (λt=>.str t.n) (λt=>!decide (t.k=.room)) T (LJ hi) a λt z=>⟨[.q (mq t)],_,J,sL (qZ (qZ J J J) J (Zl t.k)),λz=>⟨_,J,J⟩,λz=>J⟩).t ?_;unfold v?;rw[aP];rfl
def Xt{c:Type}(F:c->L4.D){l:List c}{a b:Nat}(h:a<=b)(f:b<=l.length):n3 (l.map F) (Z (a:Int)) (Z (b:Int))=((l.drop a).take (b - a)).map F:=by
 unfold n3;have d:HT.f? (l.map F).length 0 (Z (a:Int))=a:=by rw[HT.Es,ae,gz (by omega)]
 have e:HT.f? (l.map F).length (l.map F).length (Z (b:Int))=b:=by rw[HT.Es,ae,gz f]
 rw[d,e,iU,iQ]
section
variable{T:List Th}{M:List Mk}{dk:aE}{W:List Wy}{V:List Vb}{f:Str}
def SK(g:fb T M dk W)(b:f∈n?):∃a:Nat->Q',∀c,sO 3 [dN c,.str f,.b0 ((v? T).map D.str),.b0 ((y? T).map D.str),.b0 ((mP T M).map pD),dN 3]=Z (l0 (a c))/\Tk (f3 T M dk W V) f 2 (O' (a c))/\dp (a c)<=2/\vr (i? (a c)):=
 ly (r:=λc s=>sO 3 [dN c,.str f,.b0 ((v? T).map D.str),.b0 ((y? T).map D.str),.b0 ((mP T M).map pD),dN 3]=Z (l0 s)/\Tk (f3 T M dk W V) f 2 (O' s)/\dp s<=2/\vr (i? s)) λc=>by obtain⟨d,e,s,rfl,h⟩:=LU (V:=V) g b 2 c;exact⟨s,e,h⟩
def SL(g:fb T M dk W)(b:f∈n?):∃a:Nat->De,∀c,vT [dN c,.str f,.b0 ((v? T).map D.str),.b0 ((y? T).map D.str),.b0 ((mP T M).map pD),.b0 ((iE T).map D.str),.str (yN T)]=Z (tX (a c))/\Dd (f3 T M dk W V) f (Xn (a c))/\vr (Me (a c)):=
 ly (r:=λc s=>vT [dN c,.str f,.b0 ((v? T).map D.str),.b0 ((y? T).map D.str),.b0 ((mP T M).map pD),.b0 ((iE T).map D.str),.str (yN T)]=Z (tX s)/\Dd (f3 T M dk W V) f (Xn s)/\vr (Me s)) λc=>by obtain⟨d,e,s,rfl,h⟩:=SI (V:=V) g b c;exact⟨s,e,h⟩
def P6(g:fb T M dk W){m:Nat}(hm:m<64)(c:Int):∃RS:List Rs,RS.length<=4/\(∀r∈RS,Bw (f3 T M dk W (vL m)) (vL m) r)/\wG [.int c,.b0 (T.map mq),.b0 ((mP T M).map pD),.b0 ((vL m).map Hs)]=Z (.b0 (RS.map Rr)):=by
 suffices h:∃d,wG [.int c,.b0 (T.map mq),.b0 ((mP T M).map pD),.b0 ((vL m).map Hs)]=Z d/\∃RS:List Rs,RS.length<=4/\(∀r∈RS,Bw (f3 T M dk W (vL m)) (vL m) r)/\d=.b0 (RS.map Rr) by obtain⟨_,e,RS,h1,h2,rfl⟩:=h;exact⟨RS,h1,h2,e⟩
 obtain⟨l,hl,el⟩:=JD c 40 (by decide);have lT:=g.len;have lV:=Ao m;let V:=vL m++v9;have v0:0<V.length:=by show 0<(vL m++v9).length;rw[au];show 0<_+9;omega
 let A:Sl:=.q (.int c);let S:Sl:=.q (.b0 (T.map mq));let K:Sl:=.q (.b0 ((mP T M).map pD));let u:Sl:=.q (.b0 ((vL m).map Hs));let B:Sl:=.q (dl l);let R:Sl:=.q (.b0 ((iE T).map D.str));let p:Sl:=.q (.str (yN T));let O:Sl:=.q (.b0 ((v? T).map D.str));let P:Sl:=.q (.b0 ((y? T).map D.str));let C:Sl:=.q (.b0 (V.map Hs));have lbx:((T.filter λt=>decide (t.k=.box)).map Th.n).length<=13:=by rw[ae];exact bf (cU _ _) lT
 have lrm:(iE T).length<=13:=by unfold iE;rw[ae];exact bf (cU _ _) lT
 let A':=λ(i:Nat) (ρ:aO)=>∃(RS:List Rs) (s1 s2 s3 s4 s5 s6 X H G q:Sl),ρ=[A,S,K,u,B,R,p,O,P,C,.J (RS.map Rr),s1,s2,s3,s4,s5,s6,X,H,G,q]/\RS.length<=i/\∀r∈RS,Bw (f3 T M dk W (vL m)) (vL m) r;refine KE J ?_;unfold zi;refine rl (sg (rE (a:=dl l) (sm (qX J el)) ?_));refine rl (sg (rE (sm (of_eq T (by omega) J .room)) ?_));refine rl (sg (rE (a:=.str (yN T)) (qZ ((sm (of_eq T (by omega) J .you)).t (by rw[g.y1])) J J) ?_));refine rl (sg (rE (sm (Zm T (by omega) J)) ?_));refine rl (sg (rE (a:=.b0 ((y? T).map D.str)) (sm ((sY (sm (sY (ys:=[.str (yN T),.str "here"]) J J (by rw[ae];show (iE T).length+2<=1000;omega))) (sm (of_eq T (by omega) J .box)) (by rw[au,ae,ae (as:=cP Th.n _)];show (iE T).length+2+_<=1000;omega)).t (by unfold y?;rw[aJ,aJ];rfl))) ?_));refine rl (sg (rE (a:=.b0 (V.map Hs)) (sm ((sY J (sm (qX J P4)) (by rw[ae,ae];show _+9<=1000;omega)).t (by rw[<-aJ]))) ?_));refine rl (wI J ?_);refine rl (Ig (M8 (rE (qZ (qZ (x:=dl l) J J (vV (i:=0) (by omega))) J (md (b:=5) (by decide))) ⟨gd l 0 % 5,J,by have:gd l 0 % 5<5:=aD _ (by decide);omega,A',⟨[],_,_,_,_,_,_,_,_,_,_,J,aK _,λw hw=>(by cases hw)⟩,?_,?_⟩)))
 .rintro i _ _ hd ⟨RS,s1,s2,s3,s4,s5,s6,X,H,G,q,rfl,lR,ok⟩;obtain⟨hi,rfl⟩:=F3 hd;have i5:i<5:=cf hi (fL (aD _ (by decide)));let z:=(l.drop (1+7 * i)).take 7;have lz:z.length=7:=by show ((l.drop (1+7 * i)).take 7).length=7;rw[b9,dP];omega
  let v:=V.getD (gd z 0 % V.length) ⟨"", [],"", U⟩;have hv:v∈vL m++v9:=sy (aD _ v0);have hv6:v∈v6++v9:=by
   rcases ba.1 hv with h|h
   .exact bB _ (Dg h)
   .exact bA _ h
  have hf:=Zk hv6;obtain⟨tf,htf⟩:=SK (V:=vL m) g hf;obtain⟨df,hdf⟩:=SL (V:=vL m) g hf;let nt:=gd z 1 % 3;have nt3:nt<3:=aD _ (by decide);let nd:=gd z 1 / 12 % 3;have nd3:nd<3:=aD _ (by decide);let N:=(av nt).map λk=>tf (gd z (2+k));let E:=(av nd).map λk=>df (gd z (4+k));let F:=decide (((gd z 1 / 3 % 4:Nat):Int)=0);let x:=txL.getD (gd z 6 % 5) "";have hx:x∈txL:=sy (show _<5 from aD _ (by decide));let I:Sl:=.q (dN i);let AT:Sl:=.q (dl z);let v1:Sl:=.q (.str v.n);let v2:Sl:=.q (.ea (v.o.map D.str));let Q:Sl:=.q (.str v.f);let v4:Sl:=.q (oS v.j);let L:Sl:=.J (RS.map Rr);have ez:cL (Gg aU (T1 (c2 sC aL (c2 vO dh di))) (T1 (c2 sC fU (c2 vO dh di)))) [A,S,K,u,B,R,p,O,P,C,L,I,s2,s3,s4,s5,s6,X,H,G,q]=Z (dl z,[A,S,K,u,B,R,p,O,P,C,L,I,s2,s3,s4,s5,s6,X,H,G,q]):=by obtain⟨d,ρ,e,rfl,rfl⟩:=w_L (k:=λd ρ=>d=dl z/\ρ=[A,S,K,u,B,R,p,O,P,C,L,I,s2,s3,s4,s5,s6,X,H,G,q]) (Y5 (e:=cV 4) (ρ:=[A,S,K,u,B,R,p,O,P,C,L,I,s2,s3,s4,s5,s6,X,H,G,q]) (lo:=T1 (c2 sC aL (c2 vO dh di))) (hi:=T1 (c2 sC fU (c2 vO dh di))) (rE J ⟨l.map dN,J,Xh (rE (qZ J (qZ J J (uU (.inl (by decide)))) J) ⟨((1+7 * i:Nat):Int),J,Xh (rE (qZ J (qZ J J (uU (.inl (by decide)))) J) ⟨((8+7 * i:Nat):Int),J,by rw[Xt dN (by omega) (by omega),show 8+7 * i - (1+7 * i)=7 by omega];rfl,J⟩)⟩)⟩));exact e
  refine⟨_,J,rl (sg (rE ez ?_))⟩;refine rl (M7 (rE (b:=[A,S,K,u,B,R,p,O,P,C,L,I,AT,s3,s4,s5,s6,X,H,G,q]) (JH Hs ⟨"", [],"", U⟩ v0 J (qZ (x:=dl z) J J (vV (i:=0) (by omega)))) ⟨[A,S,K,u,B,R,p,O,P,C,L,I,AT,v1,v2,Q,v4,X,H,G,q],J,?_⟩));have z1:∀ρ:aO,cV 12 ρ=Z (dl z,ρ)->c2 ew dG aL ρ=Z (dN (gd z 1),ρ):=λρ h=>qZ h J (vV (i:=1) (by omega));refine rl (sg (rE (a:=.b0 (N.map l0)) (b:=[A,S,K,u,B,R,p,O,P,C,L,I,AT,v1,v2,Q,v4,X,H,G,q]) (sm ((sR (λj:Nat=>D.int j) (λk=>l0 (tf (gd z (2+k)))) (av nt) (P5 (qZ (z1 _ J) J (md (b:=3) (by decide))) (by show nt<=100;omega)) (by rw[bL];omega) λk hk=>⟨[.q (dN k),Q,O,P,K,AT],[.q (dN k),Q,O,P,K,AT],J,qX (qW (qZ (x:=dl z) (y:=dN (2+k)) J J (vV (by have:=bz.1 hk;omega))) J) (htf _).1,J⟩).t (by rw[show N.map l0=(av nt).map λk=>l0 (tf (gd z (2+k))) from aP]))) ?_));refine rl (sg (rE (a:=.I F) (b:=[A,S,K,u,B,R,p,O,P,C,L,I,AT,v1,v2,Q,v4,.q (.b0 (N.map l0)),H,G,q]) (qZ (qZ (qZ (z1 _ J) J (dv (b:=3) (by decide) (by decide))) J (md (b:=4) (by decide))) J ((wC δ _ _).t (by show Z (D.I _)=Z (D.I F);cases h:F<;>simp[F]at h<;>simp[h]))) ?_));refine rl (sg (rE (a:=.b0 (E.map tX)) (b:=[A,S,K,u,B,R,p,O,P,C,L,I,AT,v1,v2,Q,v4,.q (.b0 (N.map l0)),.q (.I F),G,q]) (sm ((sR (λj:Nat=>D.int j) (λk=>tX (df (gd z (4+k)))) (av nd) (P5 (qZ (qZ (z1 _ J) J (dv (b:=12) (by decide) (by decide))) J (md (b:=3) (by decide))) (by show nd<=100;omega)) (by rw[bL];omega) λk hk=>⟨[.q (dN k),Q,O,P,K,R,p,AT],[.q (dN k),Q,O,P,K,R,p,AT],J,qX (qW (qZ (x:=dl z) (y:=dN (4+k)) J J (vV (by have:=bz.1 hk;omega))) J) (hdf _).1,J⟩).t (by rw[show E.map tX=(av nd).map λk=>tX (df (gd z (4+k))) from aP];rfl))) ?_));have oT:∀t∈N,Tk (f3 T M dk W (vL m)) v.f 2 (O' t)/\dp t<=2/\vr (i? t):=λt ht=>by obtain⟨k,_,rfl⟩:=az.1 ht;exact(htf _).2
  have oD:∀d∈E,Dd (f3 T M dk W (vL m)) v.f (Xn d)/\vr (Me d):=λd hd=>by obtain⟨k,_,rfl⟩:=az.1 hd;exact(hdf _).2
  have lt:N.length<=2:=by show ((av nt).map _).length<=2;rw[ae,bL];omega
  have ld:E.length<=2:=by show ((av nd).map _).length<=2;rw[ae,bL];omega
  have fin:∀Y:List De,Y.length<=2->(∀d∈Y,Dd (f3 T M dk W (vL m)) v.f (Xn d)/\vr (Me d))->(F=γ->Y=[])->Ws (bt (rO 20 (c2 ew (cL (rB oG)) (c2 rM (c2 ew dG eZ) ck)))
    (rq (uP 10 (rN oK)))
    [A,S,K,u,B,R,p,O,P,C,L,I,AT,v1,v2,Q,v4,.q (.b0 (N.map l0)),.q (.I F),.q (.b0 (Y.map tX)),q]) (A' (i+1)) λd s=>∃RS:List Rs,RS.length<=4/\(∀r∈RS,Bw (f3 T M dk W (vL m)) (vL m) r)/\d=.b0 (RS.map Rr):=λY hl2 fc hrf=>by
   refine rl (sg (rE (a:=.str x) (b:=[A,S,K,u,B,R,p,O,P,C,L,I,AT,v1,v2,Q,v4,.q (.b0 (N.map l0)),.q (.I F),.q (.b0 (Y.map tX)),q]) (Xs (L:=txL) (i:=0) (k:=5) (by decide) J (by kernel_rfl) (qZ (x:=dl z) J J (vV (i:=6) (by omega)))) ?_));refine Di (rE (vy (es:=RS.map Rr) J (d:=Rr ⟨v,N,Y,x,F⟩) J J (by rw[ae];omega)) ⟨RS++[⟨v,N,Y,x,F⟩],_,_,_,_,_,_,_,_,_,_,by rw[aJ];rfl,by rw[au];exact m8 lR,snoc ok ⟨hv,lt,oT,hl2,fc,hx,hrf⟩⟩)
  refine rl (PJ (rE (a:=F) (b:=[A,S,K,u,B,R,p,O,P,C,L,I,AT,v1,v2,Q,v4,.q (.b0 (N.map l0)),.q (.I F),.q (.b0 (E.map tX)),q]) J ⟨λh=>wI J (fin [] (by decide) (λd hd=>by cases hd) λs=>J),λh=>wI J (fin E ld oD λz=>by rw[h]at z;cases z)⟩))
 .rintro _ ⟨RS,s1,s2,s3,s4,s5,s6,X,H,G,q,rfl,lR,ok⟩;rw[ae,bL]at lR;exact PK (rE J ⟨RS,by have:gd l 0 % 5<5:=aD _ (by decide);omega,ok,J⟩)
end
def LV(b:List Int)(k:Nat):∃c,vn [.O (b.map D.int),.int k]=Z (.int c):=by
 let d:aO:=[.q (.O (b.map D.int)),.q (.int k)];have a:cT (c2 Ka ag (c1 ux aa)) d=Z (decide ((k:Int)<((b.map D.int).length:Nat)),d):=rfl;rw[ae]at a;by_cases h:k<b.length
 .rw[bN (by omega)]at a;refine⟨b[k],rH J (sk ((sP a).t (rQ (qZ J J ?_))))⟩;exact Et (by rw[bp,bb h];rfl)
 .rw[bx (by omega)]at a;exact⟨0,rH J ((q8 ((tY a))))⟩
def PD(T:List Th)(M:List Mk)(dk:aE)(W:List Wy)(m:Nat)(RS:List Rs):L4.D:=.ea [.b0 (T.map mq),.b0 (M.map ε),.b0 (dk.map D.str),.b0 (W.map nj),.b0 ((vL m).map Hs),.b0 (RS.map Rr)]
def SM(R:aE):(av R.length).map (λk=>R.getD k "")=R:=by refine List.ext_getElem (by rw[ae,bL]) λi b a=>?_;rw[List.getElem_map,List.getElem_range,cp,bb a];rfl
def g3{k:Nat}(h:k<3):0<gd [1,4,16] k/\gd [1,4,16] k<1073741824:=by
 obtain rfl|rfl|rfl:k=0\/k=1\/k=2:=by omega
 all_goals decide
def P7{l:List Nat}{N:aE}{T:List Th}(d:Ii l N T):∀t∈T,t.w.length<=3/\∀x∈t.w,x.length<=60:=λt c=>by
 obtain⟨r,n,y,P,_,_,_,i,eP,_⟩:=d.ex;rw[i]at c;rcases ba.1 c with h|h
 .obtain⟨x,_,rfl⟩:=az.1 h;exact⟨by show 1<=3;decide,λx a=>Ap (L:=["room"]) (by kernel_rfl) a⟩
 .rcases aN.1 h with rfl|h
  .exact⟨by show 2<=3;decide,λx a=>Ap (L:=["me", "myself"]) (by kernel_rfl) a⟩
  .have b:t.nw∈P.map Th.nw:=bF h;rw[eP]at b;obtain⟨k,_,e⟩:=az.1 b;have f:(nA N (4+k),r? l k)=(t.n,t.w):=e;injection f with _ j;rw[<-j];exact⟨(Ih l k).2,λx a=>Ap (L:=wpL) (by kernel_rfl) (PN a)⟩
def P8(o:List Int):∃T M dk W m RS,fb T M dk W/\(∀t∈T,t.w.length<=3/\∀x∈t.w,x.length<=60)/\T.length<=9/\M.length<=2/\dk.length<=3/\W.length<=4/\m<64/\RS.length<=4/\(∀r∈RS,Bw (f3 T M dk W (vL m)) (vL m) r)/\zk [.O (o.map D.int)]=Z (PD T M dk W m RS):=by
 obtain⟨Q,X⟩:=LV o 0;obtain⟨u,Y⟩:=LV o 1;obtain⟨l,d,el⟩:=JD Q 32 (by decide);obtain⟨N,eN,hN⟩:=PL d;obtain⟨T0,j,B,eT⟩:=M9 d hN;obtain⟨M,q,F,eMn,G,eM⟩:=PR d hN;let T:=T0.drop j++T0.take j;obtain⟨g0,C,m2,e⟩:=LP (dk:=[]) (W:=[]) hN B j F eMn G (List.nil_sublist _) (by decide) (λw hw=>by cases hw) .nil;have C:T.length<=9:=C;have e:(iE T).length<=3:=e;have rne:iE T≠[]:=λz=>by
  have h:1<=(T.filter λt=>decide (t.k=.room)).length:=g0.r1;have:(iE T).length=0:=by rw[z];rfl
  unfold iE at this;rw[ae]at this;omega
 obtain⟨W,H,wo,wn,eW⟩:=Sx d T M (by omega) (by omega) rne;obtain⟨m,E,eV⟩:=PU d;let p:Nat->Bool:=λk=>decide (((gd l 29 / gd [1,4,16] k % 4:Nat):Int)=1);let dk:=((av (iE T).length).filter p).map λk=>(iE T).getD k "";have sub:dk.Sublist (iE T):=by have:=(jF (p:=p) (l:=av (iE T).length)).map λk=>(iE T).getD k "";rw[SM]at this;exact this
 obtain⟨g,_,_,_⟩:=LP hN B j F eMn G sub H wo wn;obtain⟨RS,r4,ok,eR⟩:=P6 g E u;refine⟨T,M,dk,W,m,RS,g,λt ht=>P7 B t ((Hf T0 j).mem_iff.1 ht),C,m2,bf sub.length_le e,H,E,r4,ok,?_⟩;let A:Sl:=.q (.O (o.map D.int));let f:Sl:=.q (dl l);let n:Sl:=.q (.b0 (N.map D.str));let S:Sl:=.q (.b0 (T.map mq));let I:Sl:=.q (.b0 (M.map ε));let R:Sl:=.q (.b0 ((iE T).map D.str));let K:Sl:=.q (.b0 ((mP T M).map pD));refine KF J ?_;unfold zj;refine rl (sg (rE (a:=dl l) (b:=[A,.un,.un,.un,.un,.un,.un,.un,.un,.un]) (sm (qX (qW (qX J X) J) el)) ?_));refine rl (sg (rE (qX J eN) ?_));refine rl (sg (rE (qX J eT) ?_));refine rl (sg (rE (qX J eM) ?_));refine rl (sg (rE (sm (of_eq T (by omega) J .room)) ?_));refine rl (sg (rE (qX J (Ik T M (by omega) (by omega))) ?_));refine rl (sg (rE (a:=.b0 (dk.map D.str)) (b:=[A,f,n,S,I,R,K,.un,.un,.un]) (sm ((vp (λj:Nat=>D.int j) (λk=>.str ((iE T).getD k "")) p (av (iE T).length) (P5 (Tz D.str J) (by omega)) (by rw[bL];omega) λk c=>?_).t (by rw[show dk.map D.str=((av (iE T).length).filter p).map λk=>.str ((iE T).getD k "") from aP];rfl))) ?_))
 .have c:=bz.1 c;obtain⟨O,P⟩:=g3 (cf c e);refine⟨[.q (dN k),R,f],[.q (dN k),R,f],J,sL (qZ (qZ (qZ (qZ (x:=dl l) J J (vV (i:=29) (by omega))) (qZ (x:=dl [1,4,16]) (y:=dN k) J J (vV (cf c e))) (dv O P)) J (md (b:=4) (by decide))) J ((wC δ _ _).t ?_)),λs=>⟨[.q (dN k),R,f],qZ J J (Cn c),J⟩,λs=>J⟩;show Z (D.I _)=Z (D.I (p k));cases h:p k<;>simp[p]at h<;>simp[h]
 refine rl (sg (rE (qX J eV) ?_));refine rl (sg (rE (qX (qW (qX J Y) J) eR) ?_));exact yd (rE (ug (qW J (qW J (qW J (qW (qX J eW) J)))) (aH J)) J)
def X?(r:Rs):L4.D:=ruO r.v.n (r.ts.map O') (r.ds.map Xn) r.tx r.rf
def TJ(v:Str)(c a:List L4.D)(x:Str)(b:Bool):tW [.str v,.b0 c,.b0 a,.str x,.I b]=Z (ruN,[.str v,.b0 c,.b0 a,.str x,.I b]):=by kernel_rfl
def P9{w:L4.D}{V:List Vb}{r:Rs}(h:Bw w V r):Am [Rr r]=Z (X? r):=by
 obtain⟨v,c,a,x,e⟩:=r;have lt:c.length<=2:=h.lt;have ld:a.length<=2:=h.ld;let A:Sl:=.q (Rr ⟨v,c,a,x,e⟩);let B:Sl:=.q (.str v.n);let C:Sl:=.q (.b0 (c.map l0));let f:Sl:=.q (.b0 (a.map tX));let E:Sl:=.q (.str x);let F:Sl:=.q (.I e);refine KF J ?_;unfold Al;refine rl (M7 (rE J ⟨[A,B,C,f,E,F,.un],J,?_⟩));refine rl (sg (rE (b:=[A,B,C,f,E,F,.un]) (sm (sR l0 O' c J (by omega) λt i=>⟨[.q (l0 t)],[.q (l0 t)],J,qX J (Cr t 3 (by have:=(h.t t i).2.1;omega)),J⟩)) ?_));cases e with
 |false=>exact ν J (yd (rE (Ay (qW J (qW J (qW (sm (sR tX Xn a J (by omega) λd z=>⟨[.q (tX d)],[.q (tX d)],J,qX J (SD d),J⟩)) J))) (TJ _ _ _ _ _)) J))
 |true=>have:a=[]:=h.rf J;subst this;exact j' J (yd (rE (Ay J (TJ _ _ _ _ _)) J))
def Nd{T:List Th}{M:List Mk}{c:aE}{W:List Wy}{m:Nat}{RS:List Rs}(g:fb T M c W)(I:m<64)(r4:RS.length<=4)(ok:∀r∈RS,Bw (f3 T M c W (vL m)) (vL m) r):∃(H:List eu) (dss:List (List L4.D)),zm [PD T M c W m RS]=Z (.obj 14 wNs (wA T M c W (vL m) (RS.map X?) (.M H (dss.map .b0)))):=by
 obtain⟨H,dss,X,_⟩:=PH (R:=RS.map X?) g I (λr F=>by
  obtain⟨r,h,rfl⟩:=az.1 F;have o:=ok r h;exact Ss (λv Y=>Dg Y) (Pl I) o.v (λt u=>by obtain⟨s,G,rfl⟩:=az.1 u;exact(o.t s G).1) (by rw[ae];have:=o.lt;omega) (λt u=>by obtain⟨s,G,rfl⟩:=az.1 u;exact(o.d s G).1) (by rw[ae];have:=o.ld;omega) (λz=>by rw[o.rf z];rfl) (SJ o.x)) (by rw[ae];omega)
 refine⟨H,dss,?_⟩;have lT:=g.len;have lM:=g.m4;have lV:=Ao m;let A:Sl:=.q (PD T M c W m RS);let S:Sl:=.q (.b0 (T.map mq));let l:Sl:=.q (.b0 (M.map ε));let e:Sl:=.q (.b0 (c.map D.str));let a:Sl:=.q (.b0 (W.map nj));let q:Sl:=.q (.b0 ((vL m).map Hs));let p:Sl:=.q (.b0 (RS.map Rr));let P:=λ(i:Nat) (ρ:aO)=>∃y B C E:Sl,ρ=[A,S,l,e,a,q,p,.J ((T.take i).map e7),y,B,C,E,.un,.un];refine KF J ?_;unfold zl;refine rl (M7 (rE J ⟨[A,S,l,e,a,q,p,.un,.un,.un,.un,.un,.un,.un],J,?_⟩));refine rl (wI J (rl (Ig (rE J ⟨P,⟨_,_,_,_,J⟩,?_,?_⟩))))
 .rintro i d _ hd ⟨y,B,C,E,rfl⟩;rw[bp]at hd;obtain⟨t,u,rfl⟩:=f7.1 hd;obtain⟨hi,et⟩:=bZ.1 u;have O:(T.take (i+1)).map e7=(T.take i).map e7++[e7 t]:=by rw[fC,u,aJ];rfl
  have N:((T.take i).map e7).length<1000:=by rw[ae,b9];omega
  obtain⟨n,w,k,s⟩:=t;cases s with
  |none=>refine⟨[A,S,l,e,a,q,p,.J ((T.take i).map e7),.q (.str n),.q (.ea (w.map D.str)),.q (.str k.s),.q .E,.un,.un],J,s_y J (Di (rE (vy (es:=(T.take i).map e7) J (d:=e7 ⟨n,w,k,U⟩) J J N) ⟨_,_,_,_,by rw[O];rfl⟩))⟩
  |some x=>refine⟨[A,S,l,e,a,q,p,.J ((T.take i).map e7),.q (.str n),.q (.ea (w.map D.str)),.q (.str k.s),.q (.str x),.un,.un],J,s_n J (Di (rE (vy (es:=(T.take i).map e7) J (d:=e7 ⟨n,w,k,Z x⟩) J J N) ⟨_,_,_,_,by rw[O];rfl⟩))⟩
 .rintro _ ⟨y,B,C,E,rfl⟩;rw[ae,iF];refine rl (sg (rE (b:=[A,S,l,e,a,q,p,.J (T.map e7),y,B,C,E,.un,.un]) (sm (sR ε I1 M J (by omega) λx _=>⟨[.q (.str x.n),.q (.int x.st),.q (.int x.mo)],_,J,J,J⟩)) ?_));refine rl (sg (rE (b:=[A,S,l,e,a,q,p,.J (T.map e7),y,B,C,E,.q (MD M),.un]) (sm (sR Hs tm (vL m) J (by omega) λx _=>⟨[.q (.str x.n),.q (.ea (x.o.map D.str)),.q (.str x.f),.q (oS x.j)],_,J,J,J⟩)) ?_));refine yd (rE (Ay (ds:=[TD T,MD M,.b0 (c.map D.str),WD W,VD (vL m),.b0 (RS.map X?)]) (qW J (qW J (qW J (qW J (qW J (qW (sm (sR Rr X? RS J (by omega) λr F=>⟨[.q (Rr r)],[.q (Rr r)],J,qX J (P9 (ok r F)),J⟩)) J)))))) (ns:=wNs) ?_) J);exact X
def rr(ds:List L4.D):Str:=jn (ds.map sD)
structure Rw(ds:List L4.D):Prop where
 p:∀d∈ds,Pt d
 n:ds≠[]
 l:ds.length<=100
def Rw.row{ds:List L4.D}(h:Rw ds):sN [.ea ds]=Z (.str (rr ds)):=Xr h.l h.p
def Rw.len{ds:List L4.D}(h:Rw ds):(rr ds).length<=20000:=by have:=PZ (l:=ds.map sD) (c:=60) (λx a=>by obtain⟨d,hd,rfl⟩:=az.1 a;exact F5 (h.p d hd)) (by simpa using h.n);rw[ae]at this;exact bf this (by have:=jA 61 h.l;omega)
def Rw.join{a:List L4.D}(h:Rw a):j0 (.str " ") (.b0 ((a.map sD).map D.str))=Z (.str (rr a)):=
 Cq (by decide +kernel) (by rw[ae];have:=h.l;omega) λx b=>by obtain⟨d,hd,rfl⟩:=az.1 b;exact bf (F5 (h.p d hd)) (by decide)
def thW(t:Th):List L4.D:=[.str "thing", .str t.n,.str t.k.s,oS t.s]++t.w.map D.str
def mkW(m:Mk):List L4.D:=[.str "mark", .str m.n,.int m.st,.int m.mo]
def dkW(x:Str):List L4.D:=[.str "dark", .str x]
def wyW(w:Wy):List L4.D:=[.str "way", .str w.r,.str w.w,.str w.g,oS w.m]
def ξ(v:Vb):List L4.D:=[.str "verb", .str v.n,.str v.f,oS v.j]++v.o.map D.str
def θ(r:Rs):List L4.D:=[.str "rule", .str r.v.n,.str (if r.rf then "refuses" else "does"),.str r.tx]
def whW(t:Q'):List L4.D:=.str "when" ::i? t
def tnW(d:De):List L4.D:=.str "then" ::Me d
def rsW(r:Rs):List (List L4.D):=θ r::(r.ts.map whW++r.ds.map tnW)
def s60(x:Str)(h:cQ x.length 60=γ):Pt (.str x):=aH h
def SN{a b c d:L4.D}{l:List L4.D}(f:Pt a)(i:Pt b)(j:Pt c)(m:Pt d)(h:∀x∈l,Pt x):∀x∈[a,b,c,d]++l,Pt x:=λx e=>by
 rcases ba.1 e with e|e
 .simp only[aN,bS,or_false]at e;rcases e with rfl|rfl|rfl|rfl<;>assumption
 .exact h x e
def Xu{l:aE}(h:∀x∈l,x.length<=60):∀d∈l.map D.str,Pt d:=λd hd=>by obtain⟨x,a,rfl⟩:=az.1 hd;exact h x a
def no4:∀x∈([]:List L4.D),Pt x:=λx h=>by cases h
section
variable{T:List Th}{M:List Mk}{dk:aE}{W:List Wy}{m:Nat}{RS:List Rs}
def n60(g:fb T M dk W){x:Str}(h:x∈T.map Th.n):x.length<=60:=Nc (g.nm x (bB _ h))
def Qa(g:fb T M dk W){x:Str}(h:x∈iE T):x.length<=60:=n60 g (by
 obtain⟨t,a,rfl⟩:=az.1 h;exact bF (bg.1 a).1)
def Z2(g:fb T M dk W){t:Th}(h:t∈T):Pt (oS t.s):=by
 have:=g.st t h;unfold Ck at this;cases e:t.s with
 |none=>exact trivial
 |some x=>
  rw[e]at this;show x.length<=60;cases k:t.k<;>rw[k]at this
  .exact this.elim
  .exact Qa g this
  all_goals exact n60 g (Im x this)
def Z3(k:Kd):k.s.length<=60:=by cases k<;>exact aH (by kernel_rfl)
def Qb(g:fb T M dk W)(a:∀t∈T,t.w.length<=3/\∀x∈t.w,x.length<=60){t:Th}(h:t∈T):Rw (thW t):=⟨SN (s60 _ (by kernel_rfl)) (n60 g (bF h)) (Z3 t.k) (Z2 g h) (Xu (a t h).2),(λz=>by cases z),by
 show ([_,_,_,_]++t.w.map D.str).length<=100;rw[au,ae];have:=(a t h).1;show 4+_<=100;omega⟩
def JI(g:fb T M dk W){x:Mk}(h:x∈M):Rw (mkW x):=⟨by
 obtain⟨c,a,b,d⟩:=g.mo x h;exact SN (l:=[]) (s60 _ (by kernel_rfl)) (Nc (g.nm _ (bA _ (bF h)))) ⟨b,by omega⟩ ⟨by omega,a⟩ no4,(λz=>by cases z),aH J⟩
def TL(g:fb T M dk W){x:Str}(h:x∈dk):Rw (dkW x):=⟨λd hd=>by
 simp only[dkW,aN,bS,or_false]at hd;rcases hd with rfl|rfl
 .exact s60 _ (by kernel_rfl)
 .exact Qa g (g.d2 x h),(λz=>by cases z),aH J⟩
def Qc(g:fb T M dk W){w:Wy}(h:w∈W):Rw (wyW w):=⟨by
 have o:=g.wo w h;refine SN (l:=[oS w.m]) (s60 _ (by kernel_rfl)) (Qa g o.hr) (Ap (L:=S2) (by kernel_rfl) o.hw) (Qa g o.hg) λd hd=>?_;rw[bV.1 hd];cases e:w.m with
 |none=>exact trivial
 |some x=>
  have a:=o.hm x e;rw[<-Ia]at a;obtain⟨q,b,rfl⟩:=az.1 a;exact Nc (LK g b),(λz=>by cases z),aH J⟩
def pB:L4.D->Bool
 |.str x=>cQ x.length 60
 |.E=>γ
 |_=>δ
def Zn{d:L4.D}(h:pB d=γ):Pt d:=by
 cases d with
 |str x=>exact aH h
 |E=>exact trivial
 |_=>cases h
def Xv:(v6.all λv=>(ξ v).all pB&&cQ (ξ v).length 100)=γ:=by kernel_rfl
def JJ{v:Vb}(h:v∈vL m):Rw (ξ v):=by have:=aC.1 Xv v (Dg h);rw[aT]at this;exact⟨λd hd=>Zn (aC.1 this.1 d hd),(λz=>by cases z),aH this.2⟩
def Xw:((v6++v9).all λv=>cQ v.n.length 60)=γ:=by kernel_rfl
def Qd{w:L4.D}{r:Rs}(o:Bw w (vL m) r):∀ds∈rsW r,Rw ds:=λds hd=>by
 rcases aN.1 hd with rfl|hd
 .refine⟨SN (l:=[]) (s60 _ (by kernel_rfl)) ?_ ?_ (Zj o.x) no4,(λz=>by cases z),aH J⟩
  .refine aH (aC.1 Xw r.v ?_);rcases ba.1 o.v with h|h
   .exact bB _ (Dg h)
   .exact bA _ h
  .cases r.rf<;>exact s60 _ (by kernel_rfl)
 .rcases ba.1 hd with hd|hd
  .obtain⟨t,i,rfl⟩:=az.1 hd;obtain⟨_,f,a⟩:=o.t t i;refine⟨λd hd=>?_,(λz=>by cases z),?_⟩
   .rcases aN.1 hd with rfl|hd
    .exact s60 _ (by kernel_rfl)
    .exact(a d hd).1
   .show (i? t).length+1<=100;have:=uO 2 t f;omega
  .obtain⟨d,b,rfl⟩:=az.1 hd;obtain⟨_,a⟩:=o.d d b;refine⟨λe c=>?_,(λz=>by cases z),?_⟩
   .rcases aN.1 c with rfl|c
    .exact s60 _ (by kernel_rfl)
    .exact(a e c).1
   .show (Me d).length+1<=100;rw[(Dl d).2];decide
def R5(T:List Th)(M:List Mk)(dk:aE)(W:List Wy)(m:Nat):aE:=T.map (λt=>rr (thW t))++M.map (λx=>rr (mkW x))++dk.map (λx=>rr (dkW x))++W.map (λw=>rr (wyW w))++(vL m).map λv=>rr (ξ v)
def rR(r:Rs):aE:=(rsW r).map rr
def RW(T:List Th)(M:List Mk)(dk:aE)(W:List Wy)(m:Nat)(RS:List Rs):aE:=R5 T M dk W m++RS.flatMap rR
def mm{b:Type}(l:List b)(r:b->Str):l.map (λa=>D.str (r a))=(l.map r).map D.str:=by rw[aP];rfl
def EE{f h:FE}{ρ a b:aO}{x:L4.D}{xs ys:List L4.D}(c:f ρ=Z (.ea (x::xs),a))(d:h a=Z (.ea ys,b))(e:xs.length+ys.length<=900):wX f h ρ=Z (.ea (x::xs++ys),b):=by unfold wX;rw[c];simp only[d,e,if_true]
def JK{w:L4.D}{L b:aE}{s:Sl}{a:FA}(h:a [.q w,.J (L.map D.str),s]=Z (b.map D.str,[.q w,.J (L.map D.str),s]))(c:L.length+b.length<=1000):rq (yj 1 a) [.q w,.J (L.map D.str),s]=Z (.nx [.q w,.J ((L++b).map D.str),s]):=
 (sW (Ou (es:=L.map D.str) J h J (by rw[ae,ae];exact c))).t (by rw[aJ];rfl)
def Io{t:Th}(h:Rw (thW t))(a:t.w.length<=3):xQ [e7 t]=Z (.str (rr (thW t))):=
 rH J (rQ (qX (qW (EE (ys:=t.w.map D.str) J J (by rw[ae];show 3+_<=900;omega)) J) h.row))
def Qe{w:L4.D}{r:Rs}(o:Bw w (vL m) r):(rR r).length<=5:=by unfold rR rsW;rw[ae,aF,au,ae,ae];have:=o.lt;have:=o.ld;omega
def Ip{w:L4.D}{r:Rs}(o:Bw w (vL m) r):Ah [X? r]=Z ((rR r).map D.str):=by
 have i:=Qd o;obtain⟨v,c,b,x,e⟩:=r;have lt:c.length<=2:=o.lt;have ld:b.length<=2:=o.ld;let O:Sl:=.q (X? ⟨v,c,b,x,e⟩);let A:aE:=[rr (θ ⟨v,c,b,x,e⟩)];let B:aE:=c.map λt=>rr (whW t);let C:aE:=b.map λd=>rr (tnW d);have p:sZ 1 (rB oP) [O,.un]=Z (.nx [O,.J (A.map D.str)]):=by refine(Ew (ρ':=[O,.un]) (Be (qW (qX (qW (ug (ds:=θ ⟨v,c,b,x,e⟩) ?_ (aH J)) J) (i _ bc).row) J) (aH J))).t J;cases e<;>rfl
 have q:∀{X Y:aE} {a:FA},a [O,.J (X.map D.str)]=Z (Y.map D.str,[O,.J (X.map D.str)])->X.length+Y.length<=1000->rq (yj 1 a) [O,.J (X.map D.str)]=Z (.nx [O,.J ((X++Y).map D.str)]):=λ{X Y a} h z=>(sW (Ou (es:=X.map D.str) J h J (by rw[ae,ae];exact z))).t (by rw[aJ];rfl)
 have u:rq (yj 1 (rh 1 [] (iL (c1 (ra yq "tests") aa)) (gN 0) sf (qY sN pb))) [O,.J (A.map D.str)]=Z (.nx [O,.J ((A++B).map D.str)]):=by refine q ((sR O' (λt=>.str (rr (whW t))) c J (by omega) λt l=>⟨[.q (O' t)],[.q (O' t)],J,?_,J⟩).t (by rw[mm])) (by show 1+(c.map _).length<=1000;rw[ae];omega);obtain⟨_,j,H⟩:=o.t t l;refine qX (qW (EE (xs:=[]) J (qX (qW (yE (EC t 2 j) J) J) (ED t 3 (by omega) (by decide))) ?_) J) (i (whW t) (aY _ (bB _ (bF l)))).row;have:=uO 2 t j;show 0+_<=900;omega
 have y:rq (yj 1 (rh 1 [] (iL (c1 (ra wM "deeds") aa)) (gN 0) sf (qY sN pd))) [O,.J ((A++B).map D.str)]=Z (.nx [O,.J ((A++B++C).map D.str)]):=by refine q ((sR Xn (λd=>.str (rr (tnW d))) b J (by omega) λd hd=>⟨[.q (Xn d)],[.q (Xn d)],J,?_,J⟩).t (by rw[mm])) (by rw[au];show 1+(c.map _).length+(b.map _).length<=1000;rw[ae,ae];omega);exact qX (qW (EE (xs:=[]) J (qX (qW (yE (SE d) J) J) (SF d)) (by rw[(Dl d).2];decide)) J) (i (tnW d) (aY _ (bA _ (bF hd)))).row
 refine CK (ρ:=[O,.un]) J ((q8 p).t ((q8 u).t ((q8 y).t ((uC J).t ?_))));show Z (K?.T ((A++B++C).map D.str) _)=Z (K?.T ((cP rr (_::(c.map whW++b.map tnW))).map D.str) _);rw[aR (f:=rr),aJ (f:=rr),aP,aP];rfl
end
section
variable{T:List Th}{M:List Mk}{dk:aE}{W:List Wy}{m:Nat}{RS:List Rs}
def KM(g:fb T M dk W):(R5 T M dk W m).length<=40:=by unfold R5;simp only[au,ae];have:=g.len;have:=g.m4;have:=g.d0;have:=g.w8;have:=Ao m;omega
theorem Iq{w:L4.D}:∀{L:List Rs},(∀r∈L,Bw w (vL m) r)->(L.flatMap rR).length<=5 * L.length
 |[],_=>aK _
 |r::L,h=>by rw[c7,au,aF];have:=Qe (h r bc);have:=Iq (L:=L) λr a=>h r (aY _ a);omega
def Qf{w:L4.D}(g:fb T M dk W)(a:RS.length<=4)(ok:∀r∈RS,Bw w (vL m) r):(RW T M dk W m RS).length<=100:=by unfold RW;rw[au];have:=KM (m:=m) g;have:=Iq ok;omega
def Qg{w:L4.D}(g:fb T M dk W)(e:∀t∈T,t.w.length<=3/\∀x∈t.w,x.length<=60)(ok:∀r∈RS,Bw w (vL m) r):∀x∈RW T M dk W m RS,x.length<=20000:=λx a=>by
 rcases ba.1 a with a|a
 .rcases ba.1 a with a|a
  .rcases ba.1 a with a|a
   .rcases ba.1 a with a|a
    .rcases ba.1 a with a|a
     .obtain⟨t,b,rfl⟩:=az.1 a;exact(Qb g e b).len
     .obtain⟨t,b,rfl⟩:=az.1 a;exact(JI g b).len
    .obtain⟨t,b,rfl⟩:=az.1 a;exact(TL g b).len
   .obtain⟨t,b,rfl⟩:=az.1 a;exact(Qc g b).len
  .obtain⟨t,b,rfl⟩:=az.1 a;exact(JJ b).len
 .obtain⟨r,d,a⟩:=eE.1 a;obtain⟨c,hd,rfl⟩:=az.1 a;exact(Qd (ok r d) c hd).len
def tt(T:List Th)(M:List Mk)(dk:aE)(W:List Wy)(m:Nat)(RS:List Rs):Str:=gG "\n" (RW T M dk W m RS)
def LW{b c:Type}(F:b->List c){L:List b}{i:Nat}{a:b}(h:L[i]?=Z a):(L.take (i+1)).flatMap F=(L.take i).flatMap F++F a:=by rw[fC,h,List.flatMap_append];simp
def Gm(g:fb T M dk W)(A:∀t∈T,t.w.length<=3/\∀x∈t.w,x.length<=60)(H:RS.length<=4){c:L4.D}(ok:∀r∈RS,Bw (f3 T M dk W (vL m)) (vL m) r):tD [.obj 14 wNs (wA T M dk W (vL m) (RS.map X?) c)]=Z (.str (tt T M dk W m RS)):=by
 have lT:=g.len;have lM:=g.m4;have lD:=g.d0;have lW:=g.w8;have lV:=Ao m;let w:L4.D:=.obj 14 wNs (wA T M dk W (vL m) (RS.map X?) c);let f:aE:=T.map λt=>rr (thW t);let j:aE:=M.map λx=>rr (mkW x);let q:aE:=dk.map λx=>rr (dkW x);let y:aE:=W.map λw=>rr (wyW w);let B:aE:=(vL m).map λv=>rr (ξ v);have l1:f.length=T.length:=ae _;have l2:j.length=M.length:=ae _;have l3:q.length=dk.length:=ae _;have l4:y.length=W.length:=ae _;have l5:B.length=(vL m).length:=ae _;have F:AW [w]=Z (.b0 (T.map λt=>.str t.n)):=Bh J (uC (sR e7 (λt=>.str t.n) T J (by omega) λt k=>⟨[.q (e7 t)],_,J,rU J (xu t),J⟩));have G:∀t∈T,tQ [w,.str t.n]=Z (e7 t):=λt u=>by
  have e:tQ [w,.str t.n]=Z ((wy (nK T) (T.map e7) (kS t.n)).getD .E):=by kernel_rfl
  rw[e,EA g.ndT e7 u];rfl
 have I:sZ 1 (rh 1 [0] (iL (se xK "names" aa rK)) (gN 0) sf (qY xQ pe)) [.q w,.un,.un]=Z (.nx [.q w,.J (f.map D.str),.un]):=by refine(Ew (ρ':=[.q w,.un,.un]) ((sR (λt=>.str t.n) (λt=>.str (rr (thW t))) T (LJ (um J J J J F)) (by omega) λt u=>⟨[.q (.str t.n),.q w],[.q (.str t.n),.q w],J,?_,J⟩).t (by rw[mm]))).t J;exact qX (qW (um J J J J (G t u)) J) (Io (Qb g A u) (A t u).1)
 have N:rq (yj 1 (rh 1 [] (iL (se uM "own_marks" aa rK)) (gN 0) sf (qY sN oR))) [.q w,.J (f.map D.str),.un]=Z (.nx [.q w,.J ((f++j).map D.str),.un]):=by refine JK ((sR I1 (λx=>.str (rr (mkW x))) M J (by omega) λx p=>⟨[.q (I1 x)],[.q (I1 x)],J,?_,J⟩).t (by rw[mm])) (by omega);exact qX J (JI g p).row
 have O:rq (yj 1 (rh 1 [] (iL (se uF "dark_rooms" aa rK)) (gN 0) sf (qY sN px))) [.q w,.J ((f++j).map D.str),.un]=Z (.nx [.q w,.J ((f++j++q).map D.str),.un]):=by refine JK ((sR D.str (λx=>.str (rr (dkW x))) dk J (by omega) λx p=>⟨[.q (.str x)],[.q (.str x)],J,?_,J⟩).t (by rw[mm])) (by simp only[au];omega);exact qX J (TL g p).row
 have P:rq (yj 1 (rh 1 [] (iL (se vh "own_ways" aa rK)) (gN 0) sf (qY sN o9))) [.q w,.J ((f++j++q).map D.str),.un]=Z (.nx [.q w,.J ((f++j++q++y).map D.str),.un]):=by refine JK ((sR nj (λx=>.str (rr (wyW x))) W J (by omega) λx p=>⟨[.q (nj x)],[.q (nj x)],J,?_,J⟩).t (by rw[mm])) (by simp only[au];omega);exact qX J (Qc g p).row
 have Q:rq (yj 1 (rh 1 [] (iL (se uN "own_verbs" aa rK)) (gN 0) sf (qY sN oQ))) [.q w,.J ((f++j++q++y).map D.str),.un]=Z (.nx [.q w,.J ((f++j++q++y++B).map D.str),.un]):=by
  refine JK ((sR tm (λx=>.str (rr (ξ x))) (vL m) J (by omega) λx p=>⟨[.q (tm x)],[.q (tm x)],J,?_,J⟩).t (by rw[mm])) (by simp only[au];omega);have:=(JJ p).l;exact qX (qW (EE (ys:=x.o.map D.str) J J (by
   have h:(ξ x).length=4+(x.o.map D.str).length:=au;show 3+_<=900;omega)) J) (JJ p).row
 refine KF J (rl (wI I (rl (wI N (rl (wI O (rl (wI P (rl (wI Q (rl ?_)))))))))));let E:=λ(i:Nat) (R:aO)=>∃s:Sl,R=[.q w,.J ((R5 T M dk W m++(RS.take i).flatMap rR).map D.str),s];refine Ig (rE (a:=RS.map X?) (b:=[.q w,.J ((R5 T M dk W m).map D.str),.un]) J ⟨E,⟨.un,by rw[j1,iC,bI]⟩,?_,?_⟩)
 .rintro i d _ hd ⟨s,rfl⟩;rw[bp]at hd;obtain⟨r,z,rfl⟩:=f7.1 hd;have C:r∈RS:=bU z;refine⟨[.q w,.J ((R5 T M dk W m++(RS.take i).flatMap rR).map D.str),.q (X? r)],J,wI (JK (qX J (Ip (ok r C))) ?_) ⟨.q (X? r),by rw[LW rR z,bO]⟩⟩;have X:=KM (m:=m) g;have Y:=Iq (w:=f3 T M dk W (vL m)) (m:=m) (L:=RS.take i) λr z=>ok r (jz z);have h3:=Qe (ok r C);have h4:(RS.take i).length<=4:=by rw[b9];omega
  rw[au];omega
 .rintro _ ⟨s,rfl⟩;rw[ae,iF];exact yd (rE (HN (qZ J J (Cq (by decide +kernel) (by have:=Qf g H ok;exact bf this (by decide)) (Qg g A ok))) J) J)
end
def Rp(P:L4.D)(L:aE)(w:aO):Prop:=∃l m o p q r t u a b c d e f h i j:Sl,w=[.q P,.J (L.map D.str),l,m,o,p,q,r,t,u,a,b,c,d,e,f,h,i,j]
def Ir(o:Option Str):vU [oS o]=Z (.str (sD (oS o))):=by cases o<;>kernel_rfl
def lp{l:Type}{P:L4.D}{L0:aE}{A:List l}(F:l->L4.D)(V:l->List L4.D){e:FE}{src:FA}{f:FG}{b:aO}{n:aO->Prop}{r:L4.D->aO->Prop}(t:∀b,Rp P L0 b->src b=Z (A.map F,b))(st:∀a∈A,∀L b,Rp P L b->∃c,f (F a) b=Z c/\Rp P L c/\e c=Z (.str (rr (V a)),c))(M:L0.length+A.length<1000)(h:Rp P L0 b)(k:∀b,Rp P (L0++A.map λa=>rr (V a)) b->n b):Ws (uH src f (rq (uP 1 e)) b) n r:=by
 refine Ig (rE (t b h) ⟨λi b=>Rp P (L0++(A.take i).map λa=>rr (V a)) b,by show Rp P (L0++(A.take 0).map λa=>rr (V a)) b;rw[j1,c9,bI];exact h,?_,?_⟩)
 .intro i d b hd hJ;rw[bp]at hd;obtain⟨a,j,rfl⟩:=f7.1 hd;have lX:(L0++(A.take i).map λa=>rr (V a)).length<1000:=by
   have:(A.take i).length<=A.length:=by rw[b9];omega
   rw[au,ae];have I:i<A.length:=(bZ.1 j).1;rw[b9];omega
  have q:(L0++(A.take (i+1)).map λa=>rr (V a))=(L0++(A.take i).map λa=>rr (V a))++[rr (V a)]:=by rw[fC,j,aJ,<- bO];rfl
  show ∃c,f (F a) b=Z c/\Ws (rq (uP 1 e) c) (λb=>Rp P (L0++(A.take (i+1)).map λa=>rr (V a)) b) r;rw[q];have hJ:Rp P (L0++(A.take i).map λa=>rr (V a)) b:=hJ;clear q;generalize (L0++(A.take i).map λa=>rr (V a))=X at hJ lX;obtain⟨c,m,p,o⟩:=st a (bU j) _ _ hJ;refine⟨c,m,?_⟩;obtain⟨N,O,Q,R,S,T,W,Y,u,w,x,y,z,B,C,E,G,rfl⟩:=p;exact Di (rE (vy (es:=X.map D.str) J o J (by rw[ae];exact lX)) ⟨_,_,_,_,_,_,_,_,_,_,_,_,_,_,_,_,_,by rw[aJ];rfl⟩)
 .intro b hJ;rw[ae,iF]at hJ;exact k b hJ
def ca{P:L4.D}{L L':aE}{s:aO}{a:FA}(h:a (.q P::.q (.b0 (L.map D.str))::s)=Z (L'.map D.str,.q P::.q (.b0 (L.map D.str))::s))(b:L.length+L'.length<=1000):sZ 1 (tS (vu 1) (cL a)) (.q P::.J (L.map D.str)::s)=Z (.nx (.q P::.J ((L++L').map D.str)::s)):=
 (Ew (sY (xs:=L.map D.str) J (sm h) (by rw[ae,ae];exact b))).t (by rw[aJ];rfl)
def SO(b:Bool){a:aO}(h:cV 18 a=Z (.I b,a)):c2 ew (cL (rB oN)) (c1 Ry (cV 18)) a=Z (.str (if b then "refuses" else "does"),a):=by
 cases b
 .exact qZ (x:=.b0 [.str "does", .str "refuses"]) J (rU h J) J
 .exact qZ (x:=.b0 [.str "does", .str "refuses"]) J (rU h J) J
def SQ:cd "dark " = cd "dark" ++ [32]:=by kernel_rfl
def SR:cd "when " = cd "when" ++ [32]:=by kernel_rfl
def SU:cd "then " = cd "then" ++ [32]:=by kernel_rfl
section
variable{T:List Th}{M:List Mk}{dk:aE}{W:List Wy}{m:Nat}{RS:List Rs}
def LX(l:aE):(l.map D.str).map sD=l:=by rw[aP];exact dy l
def SV(g:fb T M dk W)(hw:∀t∈T,t.w.length<=3/\∀x∈t.w,x.length<=60)(r4:RS.length<=4)(ok:∀r∈RS,Bw (f3 T M dk W (vL m)) (vL m) r):An [PD T M dk W m RS]=Z (.b0 ((RW T M dk W m RS).map D.str)):=by
 have lT:=g.len;have lM:=g.m4;have lD:=g.d0;have lW:=g.w8;have lV:=Ao m;let P:=PD T M dk W m RS;let A1:aE:=T.map λt=>rr (thW t);let A2:aE:=M.map λx=>rr (mkW x);let A3:aE:=dk.map λx=>rr (dkW x);let A4:aE:=W.map λw=>rr (wyW w);let A5:aE:=(vL m).map λv=>rr (ξ v);have l1:A1.length=T.length:=ae _;have l2:A2.length=M.length:=ae _;have l3:A3.length=dk.length:=ae _;have l4:A4.length=W.length:=ae _;have l5:A5.length=(vL m).length:=ae _;refine KF J (rl (wI J (rl ?_)));refine lp (L0:=[]) (P:=P) (A:=T) mq thW (λO h=>?_) (λt ht L O h=>?_) (by show 0+_<1000;omega) ⟨_,_,_,_,_,_,_,_,_,_,_,_,_,_,_,_,_,J⟩ (λO h=>rl (lp (L0:=A1) (P:=P) (A:=M) ε mkW (λO h=>?_) (λt ht L O h=>?_) (by omega) h (λO h=>rl ?_)))
 .obtain⟨s2,Q,S,s5,X,Y,s8,s9,c,q,u,E,F,G,H,I,N,rfl⟩:=h;rfl
 .obtain⟨s2,Q,S,s5,X,Y,s8,s9,c,q,u,E,F,G,H,I,N,rfl⟩:=h;refine⟨[.q P,.J (L.map D.str),.q (.str t.n),.q (.ea (t.w.map D.str)),.q (.str t.k.s),.q (oS t.s),X,Y,s8,s9,c,q,u,E,F,G,H,I,N],J,⟨_,_,_,_,_,_,_,_,_,_,_,_,_,_,_,_,_,J⟩,?_⟩;refine qZ (y:=.b0 (((thW t).map sD).map D.str)) J ((sm (sY (xs:=[.str "thing", .str t.n,.str t.k.s,.str (sD (oS t.s))]) (ys:=t.w.map D.str) (sm (Be (qW J (qW J (qW J (qW (qX J (Ir t.s)) J)))) (aH J))) J ?_)).t ?_) (Qb g hw ht).join
  .rw[ae];have:=(hw t ht).1;show 4+_<=1000;omega
  .unfold thW;rw[aJ (f:=sD),LX,aJ (f:=D.str)];rfl
 .obtain⟨s2,Q,S,s5,X,Y,s8,s9,c,q,u,E,F,G,H,I,N,rfl⟩:=h;rfl
 .obtain⟨s2,Q,S,s5,X,Y,s8,s9,c,q,u,E,F,G,H,I,N,rfl⟩:=h;have h1:=(JI g ht).p (.int t.st) (by simp[mkW]);have h2:=(JI g ht).p (.int t.mo) (by simp[mkW]);refine⟨[.q P,.J (L.map D.str),.q (.str t.n),Q,S,.q (.int t.st),.q (.int t.mo),Y,s8,s9,c,q,u,E,F,G,H,I,N],J,⟨_,_,_,_,_,_,_,_,_,_,_,_,_,_,_,_,_,J⟩,?_⟩;exact qZ (y:=.b0 (((mkW t).map sD).map D.str)) J (sm (Be (qW J (qW J (qW (rU J (EB h1 (λz=>by cases z))) (qW (rU J (EB h2 (λz=>by cases z))) J)))) (aH J))) (JI g ht).join
 obtain⟨s2,Q,S,s5,X,Y,s8,s9,c,q,u,E,F,G,H,I,N,rfl⟩:=h;refine wI (ca (L:=A1++A2) (L':=A3) ((sR D.str (λx=>.str (rr (dkW x))) dk J (by omega) λx hx=>⟨[.q (.str x)],[.q (.str x)],J,qZ J J ?_,J⟩).t (by rw[mm])) (by rw[au];omega)) ?_
 .have:=Qa g (g.d2 x hx);refine(JF (aH (by kernel_rfl)) (by omega)).t ?_;have e:=Xq (W:=[x]) SQ (m9 _ _);rw[ZZ]at e;rw[e];rfl
 refine rl (lp (L0:=A1++A2++A3) (P:=P) (A:=W) nj wyW (λO h=>?_) (λt ht L O h=>?_) (by simp only[au];omega) ⟨_,_,_,_,_,_,_,_,_,_,_,_,_,_,_,_,_,J⟩ (λO h=>rl (lp (L0:=A1++A2++A3++A4) (P:=P) (A:=vL m) Hs ξ (λO h=>?_) (λt ht L O h=>?_) (by simp only[au];omega) h (λO h=>rl ?_))))
 .obtain⟨s2,Q,S,s5,X,Y,s8,s9,c,q,u,E,F,G,H,I,N,rfl⟩:=h;rfl
 .obtain⟨s2,Q,S,s5,X,Y,s8,s9,c,q,u,E,F,G,H,I,N,rfl⟩:=h;refine⟨[.q P,.J (L.map D.str),s2,Q,S,s5,X,.q (.str t.r),.q (.str t.w),.q (.str t.g),.q (oS t.m),q,u,E,F,G,H,I,N],J,⟨_,_,_,_,_,_,_,_,_,_,_,_,_,_,_,_,_,J⟩,?_⟩;exact qZ (y:=.b0 (((wyW t).map sD).map D.str)) J (sm (Be (qW J (qW J (qW J (qW J (qW (qX J (Ir t.m)) J))))) (aH J))) (Qc g ht).join
 .obtain⟨s2,Q,S,s5,X,Y,s8,s9,c,q,u,E,F,G,H,I,N,rfl⟩:=h;rfl
 .obtain⟨s2,Q,S,s5,X,Y,s8,s9,c,q,u,E,F,G,H,I,N,rfl⟩:=h;refine⟨[.q P,.J (L.map D.str),.q (.str t.n),Q,S,s5,X,Y,s8,s9,c,.q (.ea (t.o.map D.str)),.q (.str t.f),.q (oS t.j),F,G,H,I,N],J,⟨_,_,_,_,_,_,_,_,_,_,_,_,_,_,_,_,_,J⟩,?_⟩;refine qZ (y:=.b0 (((ξ t).map sD).map D.str)) J ((sm (sY (xs:=[.str "verb", .str t.n,.str t.f,.str (sD (oS t.j))]) (ys:=t.o.map D.str) (sm (Be (qW J (qW J (qW J (qW (qX J (Ir t.j)) J)))) (aH J))) J ?_)).t ?_) (JJ ht).join
  .have:=(JJ ht).l;have h:(ξ t).length=4+(t.o.map D.str).length:=au;show 4+_<=1000;omega
  .unfold ξ;rw[aJ (f:=sD),LX,aJ (f:=D.str)];rfl
 refine Ig (rE (a:=RS.map Rr) (b:=O) ?_ ⟨λi O=>Rp P (R5 T M dk W m++(RS.take i).flatMap rR) O,by show Rp P (R5 T M dk W m++(RS.take 0).flatMap rR) O;rw[j1,iC,bI];exact h,?_,?_⟩)
 .obtain⟨s2,Q,S,s5,X,Y,s8,s9,c,q,u,E,F,G,H,I,N,rfl⟩:=h;rfl
 .clear h;rintro i d _ hd ⟨s2,Q,S,s5,X,Y,s8,s9,c,q,u,E,F,G,H,I,N,rfl⟩;rw[bp]at hd;obtain⟨r,hr,rfl⟩:=f7.1 hd;have hm:r∈RS:=bU hr;have o:=ok r hm;let L:=R5 T M dk W m++(RS.take i).flatMap rR;let B:aE:=r.ts.map λt=>rr (whW t);let C:aE:=r.ds.map λd=>rr (tnW d);have lt:=o.lt;have ld:=o.ld;have lB:B.length=r.ts.length:=ae _;have lC:C.length=r.ds.length:=ae _;have lL:L.length<=60:=by
   show (R5 T M dk W m++(RS.take i).flatMap rR).length<=60;have h1:=KM (m:=m) g;have h2:=Iq (w:=f3 T M dk W (vL m)) (m:=m) (L:=RS.take i) λr hr=>ok r (jz hr);have h4:(RS.take i).length<=4:=by rw[b9];omega
   rw[au];omega
  have w:=Qd o;refine⟨[.q P,.J (L.map D.str),s2,Q,S,s5,X,Y,s8,s9,c,q,u,E,.q (.str r.v.n),.q (.b0 (r.ts.map l0)),.q (.b0 (r.ds.map tX)),.q (.str r.tx),.q (.I r.rf)],J,?_⟩;refine rl (Di (rE (vy (es:=L.map D.str) (d:=.str (rr (θ r))) J (qZ (y:=.b0 (((θ r).map sD).map D.str)) J (sm (Be (qW J (qW J (qW (SO r.rf J) J))) (aH J))) (w _ bc).join) J (by rw[ae];omega)) ?_));refine s_g (R:=λO=>O=[.q P,.J ((L++[rr (θ r)]).map D.str),s2,Q,S,s5,X,Y,s8,s9,c,q,u,E,.q (.str r.v.n),.q (.b0 (r.ts.map l0)),.q (.b0 (r.ds.map tX)),.q (.str r.tx),.q (.I r.rf)]) (by rw[show (L++[rr (θ r)]).map D.str=L.map D.str++[.str (rr (θ r))] from aJ];rfl) ?_;rintro _ rfl;refine rl (wI (ca (L:=L++[rr (θ r)]) (L':=B) ((sR l0 (λt=>.str (rr (whW t))) r.ts J (by omega) λt ht=>⟨[.q (l0 t)],[.q (l0 t)],J,?_,J⟩).t (by rw[mm])) (by rw[au];show L.length+1+_<=1000;omega)) (wI (ca (L:=L++[rr (θ r)]++B) (L':=C) ((sR tX (λd=>.str (rr (tnW d))) r.ds J (by omega) λd hd=>⟨[.q (tX d)],[.q (tX d)],J,?_,J⟩).t (by rw[mm])) (by rw[au,au];show L.length+1+_+_<=1000;omega)) (?_:Rp _ _ _)))
  .obtain⟨_,h2,h3⟩:=o.t t ht;refine qZ J (qX J (AG t 3 (by omega) (by decide) h3)) ((JF (aH (by kernel_rfl)) (bf (F6 h3 (Aq t) (by have:=uO 2 t h2;omega)) (by decide))).t ?_);rw[show "when " ++ jw (i? t)=rr (whW t) from Xq SR (by simpa using Aq t)]
  .obtain⟨_,h3⟩:=o.d d hd;refine qZ J (qX J (Na d h3)) ((JF (aH (by kernel_rfl)) (bf (F6 h3 (Dl d).1 (by rw[(Dl d).2];decide)) (by decide))).t ?_);rw[show "then " ++ jw (Me d)=rr (tnW d) from Xq SU (by simpa using (Dl d).1)]
  .have e:L++[rr (θ r)]++B++C=R5 T M dk W m++(RS.take (i+1)).flatMap rR:=by rw[LW rR hr,<- bO];show L++[rr (θ r)]++B++C=L++rR r;rw[bO,bO];unfold rR rsW;rw[aR,aJ,aP,aP];rfl
   rw[e];exact⟨_,_,_,_,_,_,_,_,_,_,_,_,_,_,_,_,_,J⟩
 .rintro O h;rw[ae,iF]at h;obtain⟨s2,Q,S,s5,X,Y,s8,s9,c,q,u,E,F,G,H,I,N,rfl⟩:=h;exact PK (rE J J)
end
def a6:List L4.D:=[.b0 [e7 ⟨"hall", ["room"],.room,U⟩,e7 ⟨"me", ["i"],.you,Z "hall"⟩],.b0 [],.b0 [],.b0 [],.b0 [],.b0 []]
def t6:(match sJ a6 with
 |some (a,b)=>(match tD [.obj 14 a b]with
  |some d=>fh γ d (.str "thing hall room - room\nthing me you hall i")
  |none=>U)
 |none=>U)=Z (.I δ):=by kernel_rfl
def e6:∃a b d,sJ a6=Z (a,b)/\tD [.obj 14 a b]=Z d/\fh γ d (.str "thing hall room - room\nthing me you hall i")=Z (.I δ):=by
 have t:=t6;cases h:sJ a6 with
 |none=>rw[h]at t;cases t
 |some q=>
  obtain⟨a,b⟩:=q;rw[h]at t;cases c:tD [.obj 14 a b]with
  |none=>simp only[c]at t;cases t
  |some d=>simp only[c]at t;exact⟨a,b,d,J,c,t⟩
def m6{a:aE}{b:List L4.D}(h:sJ a6=Z (a,b))(c:aO):rJ 14 (λds=>sJ (ds++[])) (ax (cL (rB (ax (rJ 0 (λds=>tu (ds++[D.E])) pf) (a1 (rJ 0 (λds=>tu (ds++[])) oJ))))) oH) c=Z (.obj 14 a b,c):=Ay (ds:=a6) (by kernel_rfl) (by rw[bI];exact h)
def Xx(b:List Int)(B:b.length<=63):Tn [.O (b.map D.int)]=Z (.I γ):=by
 obtain⟨T,M,a,W,m,RS,g,f,_,_,_,_,r,e,ok,eP⟩:=P8 b;obtain⟨i,dss,eW⟩:=Nd g r e ok;have eR:=SV g f e ok;have eT:=Gm (c:=.M i (dss.map .b0)) g f e ok;obtain⟨t,u,z,o,p,q⟩:=e6;let A:Sl:=.q (.O (b.map D.int));let P:Sl:=.q (PD T M a W m RS);let w:L4.D:=.obj 14 wNs (wA T M a W (vL m) (RS.map X?) (.M i (dss.map .b0)));let X:=tt T M a W m RS;have j:j0 (.str "\n") (.b0 ((RW T M a W m RS).map D.str))=Z (.str X):=Cq (by decide +kernel) (by have:=Qf g e ok;exact bf this (by decide)) (Qg g f ok);have l:fh γ (.str X) (.str X)=Z (.I δ):=by rw[yT,bN J];rfl
 have h:fh δ (.str X) (.str X)=Z (.I γ):=by rw[yT,bN J];rfl
 refine KF J ?_;unfold Ly;refine rl (sg (rE (qX J eP) (rl (sg (rE (qX J eW) (rl (sg (rE (qZ J (qX J eR) j) (rl (sg (rE (qX J eT) ?_)))))))))));refine s_g (R:=λx=>x=[A,P,.q w,.q (.str X),.q (.str X),.un,.un]) J ?_;rintro _ rfl;refine j' (zN J (sL (qZ J J l))) ?_;refine rl (wI (ρ':=[A,P,.q w,.q (.str X),.q (.str X),.un,.un]) (by kernel_rfl) ?_);refine rl (sg (rE (m6 o _) ?_));refine j' (sL (qZ (qX (qW (d:=.obj 14 t u) J J) p) J q)) ?_;exact yd (rE ((rT (qZ (qX J eT) J h)).t (qZ J J h)) J)
end K84x
namespace K84x
open PySem L2 L3 L4
open PySem.W (nsIn)
structure Fx(K:ao)(C0 C1 C2 C3 C4 C5 C6 C7 C8 C9 C10 C11 C12 C13 C14 C15:Addr):Prop where
 a0:nsIn K aQ "Thing" = Z (Z (.ref C0))
 a1:nsIn K aQ "Mark" = Z (Z (.ref C1))
 a2:nsIn K aQ "Verb" = Z (Z (.ref C2))
 a3:nsIn K aQ "At" = Z (Z (.ref C3))
 a4:nsIn K aQ "Has" = Z (Z (.ref C4))
 a5:nsIn K aQ "Seen" = Z (Z (.ref C5))
 a6:nsIn K aQ "Marked" = Z (Z (.ref C6))
 a7:nsIn K aQ "Kind" = Z (Z (.ref C7))
 a8:nsIn K aQ "Word" = Z (Z (.ref C8))
 a9:nsIn K aQ "Not" = Z (Z (.ref C9))
 a10:nsIn K aQ "Both" = Z (Z (.ref C10))
 a11:nsIn K aQ "Move" = Z (Z (.ref C11))
 a12:nsIn K aQ "Put" = Z (Z (.ref C12))
 a13:nsIn K aQ "Rule" = Z (Z (.ref C13))
 a14:nsIn K aQ "World" = Z (Z (.ref C14))
 a15:nsIn K aQ "Lit" = Z (Z (.ref C15))
 k0:CF K C0 ["kind", "name", "start", "words"]
 k1:CF K C1 ["most", "name", "start"]
 k2:CF K C2 ["form", "joining", "name", "others"]
 k3:CF K C3 ["place", "term"]
 k4:CF K C4 ["term"]
 k5:CF K C5 ["term"]
 k6:CF K C6 ["term", "value"]
 k7:CF K C7 ["kind", "term"]
 k8:CF K C8 ["word"]
 k9:CF K C9 ["inner"]
 y':CF K C10 ["one", "other"]
 Dv:CF K C11 ["place", "term"]
 z?:CF K C12 ["term", "value"]
 u?:CF K C13 ["deeds", "refuses", "tests", "text", "verb"]
 j?:CF K C14 ["copied_rules", "kept_dark", "kept_marks", "kept_rules", "kept_things", "kept_verbs", "kept_ways", "mosts_by_name", "shared_rules", "shared_verbs", "things_by_name", "verbs_by_word", "your_name", "rules_by_verb"]
 G':CF K C15 []
 i_At:ti K [C0,C1,C2,C3,C4,C5,C6,C7,C8,C9,C10,C11,C12,C13,C14,C15] C3 3=γ
 i_Both:ti K [C0,C1,C2,C3,C4,C5,C6,C7,C8,C9,C10,C11,C12,C13,C14,C15] C10 10=γ
 i_Has:ti K [C0,C1,C2,C3,C4,C5,C6,C7,C8,C9,C10,C11,C12,C13,C14,C15] C4 4=γ
 i_Kind:ti K [C0,C1,C2,C3,C4,C5,C6,C7,C8,C9,C10,C11,C12,C13,C14,C15] C7 7=γ
 i_Lit:ti K [C0,C1,C2,C3,C4,C5,C6,C7,C8,C9,C10,C11,C12,C13,C14,C15] C15 15=γ
 i_Mark:ti K [C0,C1,C2,C3,C4,C5,C6,C7,C8,C9,C10,C11,C12,C13,C14,C15] C1 1=γ
 i_Marked:ti K [C0,C1,C2,C3,C4,C5,C6,C7,C8,C9,C10,C11,C12,C13,C14,C15] C6 6=γ
 i_Move:ti K [C0,C1,C2,C3,C4,C5,C6,C7,C8,C9,C10,C11,C12,C13,C14,C15] C11 11=γ
 i_Not:ti K [C0,C1,C2,C3,C4,C5,C6,C7,C8,C9,C10,C11,C12,C13,C14,C15] C9 9=γ
 i_Put:ti K [C0,C1,C2,C3,C4,C5,C6,C7,C8,C9,C10,C11,C12,C13,C14,C15] C12 12=γ
 i_Rule:ti K [C0,C1,C2,C3,C4,C5,C6,C7,C8,C9,C10,C11,C12,C13,C14,C15] C13 13=γ
 i_Seen:ti K [C0,C1,C2,C3,C4,C5,C6,C7,C8,C9,C10,C11,C12,C13,C14,C15] C5 5=γ
 i_Thing:ti K [C0,C1,C2,C3,C4,C5,C6,C7,C8,C9,C10,C11,C12,C13,C14,C15] C0 0=γ
 i_Verb:ti K [C0,C1,C2,C3,C4,C5,C6,C7,C8,C9,C10,C11,C12,C13,C14,C15] C2 2=γ
 i_Word:ti K [C0,C1,C2,C3,C4,C5,C6,C7,C8,C9,C10,C11,C12,C13,C14,C15] C8 8=γ
 n_Lit:cH K (.ref C15) "__init__" = Z (Z (.builtin "object.__init__"))
 nd:decide ([C0,C1,C2,C3,C4,C5,C6,C7,C8,C9,C10,C11,C12,C13,C14,C15]:List Addr).Nodup=γ
 kn:kN K=γ
 e:((["all", "any", "bool", "int", "isinstance", "len", "list", "range", "set", "str", "tuple"]:aE).all λx=>match nsIn K aQ x with|some U=>γ|_=>δ)=γ
 g0:GS K "FORMS" ["alone", "one", "two", "way"]
 g1:GS K "KINDS" ["room", "plain", "fixed", "box", "lamp", "you"]
 g2:GS K "KINDS_APART" ["room", "you"]
 g3:GS K "KINDS_THAT_HOLD" ["room", "box", "you"]
 g4:GS K "KINDS_WITH_MARK" ["box", "lamp"]
 g5:GC K "MOST_BESIDE" 7
 g6:GC K "MOST_BY_COMMAND" 3
 g7:GC K "MOST_DEEDS" 4
 g8:GC K "MOST_DEEP" 4
 g9:GC K "MOST_IN_NAME" 8
 g10:GC K "MOST_IN_WORD" 12
 g11:GC K "MOST_MARKS" 4
 g12:GC K "MOST_OF_MARK" 3
 g13:GC K "MOST_ROOMS" 5
 g14:GC K "MOST_RULES" 20
 g15:GC K "MOST_SIGNS" 60
 g16:GC K "MOST_TESTS" 5
 g17:GC K "MOST_VERBS" 6
 g18:GC K "MOST_WAYS" 10
 g19:GC K "MOST_WORDS" 4
 g20:GX K "NOTHING" "-"
 g21:GS K "NO_NAMES" ["it", "other", "here", "the", "a", "undo", "restart"]
 g22:GS K "NO_WORDS" ["the", "a"]
 g23:GS K "NO_WORDS_OF_ROWS" ["the", "a", "undo", "restart"]
 q24:GD K "is_small_letters" (top 6)
 q25:GD K "is_name" (top 7)
 q26:GD K "is_word" (top 8)
 q27:GD K "is_one_of" (top 10)
 q28:GD K "is_whole" (top 11)
 q29:GD K "is_list_up_to" (top 12)
 q30:GD K "own_list" (top 63)
 q31:GJ K C0 "Thing.__init__" (dd (top 53) 0) [V.E]
 q32:GM K C1 "__init__" "Mark.__init__" (dd (top 54) 0)
 q33:GJ K C2 "Verb.__init__" (dd (top 55) 0) [V.E,(V.str "one"),V.E]
 q34:GM K C3 "__init__" "At.__init__" (dd (top 28) 0)
 q35:GM K C4 "__init__" "Has.__init__" (dd (top 29) 0)
 q36:GM K C5 "__init__" "Seen.__init__" (dd (top 30) 0)
 q37:GM K C6 "__init__" "Marked.__init__" (dd (top 31) 0)
 q38:GM K C7 "__init__" "Kind.__init__" (dd (top 32) 0)
 q39:GM K C8 "__init__" "Word.__init__" (dd (top 33) 0)
 q40:GM K C9 "__init__" "Not.__init__" (dd (top 35) 0)
 q41:GM K C10 "__init__" "Both.__init__" (dd (top 36) 0)
 q42:GM K C11 "__init__" "Move.__init__" (dd (top 42) 0)
 q43:GM K C12 "__init__" "Put.__init__" (dd (top 43) 0)
 q44:GJ K C13 "Rule.__init__" (dd (top 62) 0) [(V.I δ)]
 q45:GM K C0 "can_hold" "Thing.can_hold" (dd (top 53) 1)
 q46:GM K C0 "has_mark" "Thing.has_mark" (dd (top 53) 2)
 q47:GM K C0 "is_plainly" "Thing.is_plainly" (dd (top 53) 3)
 q48:GD K "refuse_unless" (top 92)
 q49:GD K "count_of" (top 95)
 q50:GD K "plain_ones" (top 96)
 q51:GD K "is_mark" (top 98)
 q52:GD K "check_things" (top 94)
 q53:GD K "check_marks" (top 97)
 q54:GD K "are_unlike" (top 100)
 q55:GD K "check_names" (top 99)
 q56:GD K "mark_names" (top 101)
 q57:GD K "is_start" (top 103)
 q58:GD K "comes_to_room" (top 104)
 q59:GD K "check_starts" (top 102)
 q60:GD K "are_words" (top 106)
 q61:GD K "has_all" (top 108)
 q62:GD K "is_told_apart" (top 107)
 q63:GD K "check_words_of_things" (top 105)
 q64:GD K "check_dark" (top 109)
 q65:GD K "is_way" (top 111)
 q66:GD K "check_ways" (top 110)
 q67:GD K "is_verb" (top 113)
 q68:GD K "check_verbs" (top 112)
 q69:GD K "are_apart" (top 115)
 q70:GD K "check_vocabulary" (top 114)
 q71:GD K "check_parts" (top 93)
 q72:GD K "does" (top 119)
 q73:GD K "refuses" (top 120)
 q74:GD K "hand_rules" (top 121)
 q75:GD K "put_rules" (top 122)
 q76:GD K "lid_rules" (top 123)
 q77:GD K "flame_rules" (top 124)
 q78:GD K "way_tests" (top 126)
 q79:GD K "go_rules" (top 125)
 q80:GD K "wait_rules" (top 127)
 q81:GD K "common_rules" (top 118)
 q82:GD K "common_verbs" (top 117)
 q83:GD K "by_name" (top 131)
 q84:GD K "mosts_by_name" (top 132)
 q85:GD K "verbs_by_word" (top 133)
 q86:GD K "by_verb" (top 134)
 q87:GM K C14 "of_kind" "World.of_kind" (dd (top 130) 3)
 q88:GM K C14 "all_verbs" "World.all_verbs" (dd (top 130) 13)
 q89:GD K "is_same_text" (top 9)
 q90:GD K "copy_of" (top 64)
 q91:GM K C14 "thing_of" "World.thing_of" (dd (top 130) 2)
 q92:GM K C14 "most_of" "World.most_of" (dd (top 130) 6)
 q93:GM K C14 "verb_of" "World.verb_of" (dd (top 130) 14)
 q94:GM K C14 "you" "World.you" (dd (top 130) 4)
 q95:GD K "is_by_command" (top 75)
 q96:GD K "is_here" (top 76)
 q97:GD K "named" (top 77)
 q98:GD K "is_of_kind" (top 78)
 q99:GD K "is_term" (top 79)
 q100:GD K "is_place" (top 80)
 q101:GD K "is_moved" (top 81)
 q102:GD K "is_mark_value" (top 82)
 q103:GD K "is_move" (top 74)
 q104:GD K "is_said" (top 67)
 q105:GD K "is_verb_name" (top 66)
 q106:GD K "does_or_refuses" (top 68)
 q107:GD K "is_plain_test" (top 72)
 q108:GD K "is_test" (top 71)
 q109:GD K "is_deed" (top 73)
 q110:GD K "are_tests" (top 69)
 q111:GD K "are_deeds" (top 70)
 q112:GD K "is_rule" (top 65)
 q113:GM K C14 "__init__" "World.__init__" (dd (top 130) 0)
 q114:GM K C14 "names" "World.names" (dd (top 130) 1)
 q115:GM K C14 "own_marks" "World.own_marks" (dd (top 130) 7)
 q116:GM K C14 "own_ways" "World.own_ways" (dd (top 130) 8)
 q117:GM K C14 "own_verbs" "World.own_verbs" (dd (top 130) 9)
 q118:GM K C14 "own_rules" "World.own_rules" (dd (top 130) 10)
 q119:GM K C14 "dark_rooms" "World.dark_rooms" (dd (top 130) 11)
 q120:GM K C14 "rules_to_write" "World.rules_to_write" (dd (top 130) 17)
 q121:GM K C3 "told" "At.told" (dd (top 28) 3)
 q122:GM K C4 "told" "Has.told" (dd (top 29) 3)
 q123:GM K C5 "told" "Seen.told" (dd (top 30) 3)
 q124:GM K C6 "told" "Marked.told" (dd (top 31) 3)
 q125:GM K C7 "told" "Kind.told" (dd (top 32) 3)
 q126:GM K C8 "told" "Word.told" (dd (top 33) 3)
 q127:GM K C15 "told" "Lit.told" (dd (top 34) 2)
 q128:GM K C11 "told" "Move.told" (dd (top 42) 4)
 q129:GM K C12 "told" "Put.told" (dd (top 43) 4)
 q130:GM K C9 "told" "Not.told" (dd (top 35) 3)
 q131:GM K C10 "told" "Both.told" (dd (top 36) 3)
 q132:GD K "flat" (top 141)
 q133:GD K "row_of" (top 138)
 q134:GD K "thing_row" (top 139)
 q135:GD K "rule_rows" (top 140)
 q136:GD K "world_text" (top 137)
 q137:GD K "_law_cell_at" (top 143)
 q138:GD K "_law_draws" (top 144)
 q139:GD K "_law_names" (top 145)
 q140:GD K "_law_words" (top 146)
 q141:GD K "_law_things" (top 147)
 q142:GD K "_law_marks" (top 148)
 q143:GD K "_law_all_marks" (top 149)
 q144:GD K "_law_ways" (top 150)
 q145:GD K "_law_verbs" (top 151)
 q146:GD K "_law_common" (top 152)
 q147:GD K "_law_test" (top 153)
 q148:GD K "_law_deed" (top 154)
 q149:GD K "_law_rules" (top 155)
 q150:GD K "_law_parts" (top 156)
 q151:GD K "_law_asked" (top 157)
 q152:GD K "_law_done" (top 158)
 q153:GD K "_law_rule" (top 159)
 q154:GD K "_law_world" (top 160)
 q155:GD K "_law_dash" (top 161)
 q156:GD K "_law_spoken" (top 162)
 q157:GD K "_law_rows" (top 163)
 q158:GD K "law" (top 164)
class Yx(B:Bz):Prop where
 y:Yw B.P B.w B.mg B.b1 B.G
 z:B.G.hs=tupleKeyHash (rA B.P B.w)
 f:Fx B.G.K (B.G.ca 0) (B.G.ca 1) (B.G.ca 2) (B.G.ca 3) (B.G.ca 4) (B.G.ca 5) (B.G.ca 6) (B.G.ca 7) (B.G.ca 8) (B.G.ca 9) (B.G.ca 10) (B.G.ca 11) (B.G.ca 12) (B.G.ca 13) (B.G.ca 14) (B.G.ca 15)
section
variable{B:Bz}[Y:Yx B]
instance:Yb B:=⟨Y.y⟩
instance:Hz B:=⟨Y.z,Y.f.kn⟩
instance:Nb B "all" := ⟨Y.y.n Y.f.e 0 J⟩
instance:Nb B "any" := ⟨Y.y.n Y.f.e 1 J⟩
instance:Nb B "bool" := ⟨Y.y.n Y.f.e 2 J⟩
instance:Nb B "int" := ⟨Y.y.n Y.f.e 3 J⟩
instance:Nb B "isinstance" := ⟨Y.y.n Y.f.e 4 J⟩
instance:Nb B "len" := ⟨Y.y.n Y.f.e 5 J⟩
instance:Nb B "list" := ⟨Y.y.n Y.f.e 6 J⟩
instance:Nb B "range" := ⟨Y.y.n Y.f.e 7 J⟩
instance:Nb B "set" := ⟨Y.y.n Y.f.e 8 J⟩
instance:Nb B "str" := ⟨Y.y.n Y.f.e 9 J⟩
instance:Nb B "tuple" := ⟨Y.y.n Y.f.e 10 J⟩
instance:Co B "FORMS" Lw:=⟨Y.y.cs Y.f.g0⟩
instance:Co B "KINDS" AB:=⟨Y.y.cs Y.f.g1⟩
instance:Co B "KINDS_APART" AO:=⟨Y.y.cs Y.f.g2⟩
instance:Co B "KINDS_THAT_HOLD" xD:=⟨Y.y.cs Y.f.g3⟩
instance:Co B "KINDS_WITH_MARK" xE:=⟨Y.y.cs Y.f.g4⟩
instance:Co B "MOST_BESIDE" AQ:=⟨Y.y.ci Y.f.g5⟩
instance:Co B "MOST_BY_COMMAND" xF:=⟨Y.y.ci Y.f.g6⟩
instance:Co B "MOST_DEEDS" BX:=⟨Y.y.ci Y.f.g7⟩
instance:Co B "MOST_DEEP" DI:=⟨Y.y.ci Y.f.g8⟩
instance:Co B "MOST_IN_NAME" zU:=⟨Y.y.ci Y.f.g9⟩
instance:Co B "MOST_IN_WORD" zV:=⟨Y.y.ci Y.f.g10⟩
instance:Co B "MOST_MARKS" yW:=⟨Y.y.ci Y.f.g11⟩
instance:Co B "MOST_OF_MARK" zW:=⟨Y.y.ci Y.f.g12⟩
instance:Co B "MOST_ROOMS" BZ:=⟨Y.y.ci Y.f.g13⟩
instance:Co B "MOST_RULES" B3:=⟨Y.y.ci Y.f.g14⟩
instance:Co B "MOST_SIGNS" BY:=⟨Y.y.ci Y.f.g15⟩
instance:Co B "MOST_TESTS" BW:=⟨Y.y.ci Y.f.g16⟩
instance:Co B "MOST_VERBS" B2:=⟨Y.y.ci Y.f.g17⟩
instance:Co B "MOST_WAYS" DJ:=⟨Y.y.ci Y.f.g18⟩
instance:Co B "MOST_WORDS" yX:=⟨Y.y.ci Y.f.g19⟩
instance:Co B "NOTHING" CO:=⟨Y.y.cx Y.f.g20⟩
instance:Co B "NO_NAMES" Ft:=⟨Y.y.cs Y.f.g21⟩
instance:Co B "NO_WORDS" Fu:=⟨Y.y.cs Y.f.g22⟩
instance:Co B "NO_WORDS_OF_ROWS" w9:=⟨Y.y.cs Y.f.g23⟩
instance:Ff B vz "copied_rules" := ⟨uD (Y.f.j?.at 0 J)⟩
instance:Ff B wM "deeds" := ⟨uD (Y.f.u?.at 0 J)⟩
instance:Ff B zT "form" := ⟨uD (Y.f.k2.at 0 J)⟩
instance:Ff B CL "inner" := ⟨uD (Y.f.k9.at 0 J)⟩
instance:Ff B uz "joining" := ⟨uD (Y.f.k2.at 1 J)⟩
instance:Ff B xU "kept_dark" := ⟨uD (Y.f.j?.at 1 J)⟩
instance:Ff B wY "kept_marks" := ⟨uD (Y.f.j?.at 2 J)⟩
instance:Ff B wZ "kept_rules" := ⟨uD (Y.f.j?.at 3 J)⟩
instance:Ff B v8 "kept_things" := ⟨uD (Y.f.j?.at 4 J)⟩
instance:Ff B u7 "kept_verbs" := ⟨uD (Y.f.j?.at 5 J)⟩
instance:Ff B xV "kept_ways" := ⟨uD (Y.f.j?.at 6 J)⟩
instance:Ff B sr "kind" := ⟨ι (uD (Y.f.k0.at 0 J)) (Y.f.k7.at 0 J)⟩
instance:Ff B w5 "most" := ⟨uD (Y.f.k1.at 0 J)⟩
instance:Ff B xB "mosts_by_name" := ⟨uD (Y.f.j?.at 7 J)⟩
instance:Ff B rD "name" := ⟨ι (ι (uD (Y.f.k0.at 1 J)) (Y.f.k1.at 1 J)) (Y.f.k2.at 2 J)⟩
instance:Ff B HU "one" := ⟨uD (Y.f.y'.at 0 J)⟩
instance:Ff B CM "other" := ⟨uD (Y.f.y'.at 1 J)⟩
instance:Ff B t7 "others" := ⟨uD (Y.f.k2.at 3 J)⟩
instance:Ff B AA "place" := ⟨ι (uD (Y.f.k3.at 0 J)) (Y.f.Dv.at 0 J)⟩
instance:Ff B vP "refuses" := ⟨uD (Y.f.u?.at 1 J)⟩
instance:Ff B yn "shared_rules" := ⟨uD (Y.f.j?.at 8 J)⟩
instance:Ff B yp "shared_verbs" := ⟨uD (Y.f.j?.at 9 J)⟩
instance:Ff B sU "start" := ⟨ι (uD (Y.f.k0.at 2 J)) (Y.f.k1.at 2 J)⟩
instance:Ff B u9 "term" := ⟨ι (ι (ι (ι (ι (ι (uD (Y.f.k3.at 1 J)) (Y.f.k4.at 0 J)) (Y.f.k5.at 0 J)) (Y.f.k6.at 0 J)) (Y.f.k7.at 1 J)) (Y.f.Dv.at 1 J)) (Y.f.z?.at 0 J)⟩
instance:Ff B yq "tests" := ⟨uD (Y.f.u?.at 2 J)⟩
instance:Ff B BV "text" := ⟨uD (Y.f.u?.at 3 J)⟩
instance:Ff B w6 "things_by_name" := ⟨uD (Y.f.j?.at 10 J)⟩
instance:Ff B CN "value" := ⟨ι (uD (Y.f.k6.at 1 J)) (Y.f.z?.at 1 J)⟩
instance:Ff B uI "verb" := ⟨uD (Y.f.u?.at 4 J)⟩
instance:Ff B xC "verbs_by_word" := ⟨uD (Y.f.j?.at 11 J)⟩
instance:Ff B Fs "word" := ⟨uD (Y.f.k8.at 0 J)⟩
instance:Ff B tJ "words" := ⟨uD (Y.f.k0.at 3 J)⟩
instance:Ff B xW "your_name" := ⟨uD (Y.f.j?.at 12 J)⟩
instance:Af B 0 ["kind", "name", "start", "words"]:=⟨Y.f.k0⟩
instance:Af B 1 ["most", "name", "start"]:=⟨Y.f.k1⟩
instance:Af B 2 ["form", "joining", "name", "others"]:=⟨Y.f.k2⟩
instance:Af B 3 ["place", "term"]:=⟨Y.f.k3⟩
instance:Af B 4 ["term"]:=⟨Y.f.k4⟩
instance:Af B 5 ["term"]:=⟨Y.f.k5⟩
instance:Af B 6 ["term", "value"]:=⟨Y.f.k6⟩
instance:Af B 7 ["kind", "term"]:=⟨Y.f.k7⟩
instance:Af B 8 ["word"]:=⟨Y.f.k8⟩
instance:Af B 9 ["inner"]:=⟨Y.f.k9⟩
instance:Af B 10 ["one", "other"]:=⟨Y.f.y'⟩
instance:Af B 11 ["place", "term"]:=⟨Y.f.Dv⟩
instance:Af B 12 ["term", "value"]:=⟨Y.f.z?⟩
instance:Af B 13 ["deeds", "refuses", "tests", "text", "verb"]:=⟨Y.f.u?⟩
instance:Af B 14 ["copied_rules", "kept_dark", "kept_marks", "kept_rules", "kept_things", "kept_verbs", "kept_ways", "mosts_by_name", "shared_rules", "shared_verbs", "things_by_name", "verbs_by_word", "your_name", "rules_by_verb"]:=⟨Y.f.j?⟩
instance:Ic B "At" YU:=⟨3,sH Y.f.i_At J (zS 16 _) (yV.at ⟨Y.f.k0.ci,Y.f.k1.ci,Y.f.k2.ci,Y.f.k3.ci,Y.f.k4.ci,Y.f.k5.ci,Y.f.k6.ci,Y.f.k7.ci,Y.f.k8.ci,Y.f.k9.ci,Y.f.y'.ci,Y.f.Dv.ci,Y.f.z?.ci,Y.f.u?.ci,Y.f.j?.ci,Y.f.G'.ci,trivial⟩),Y.y.g Y.f.a3⟩
instance:Ic B "Both" Kt:=⟨10,sH Y.f.i_Both J (zS 16 _) (yV.at ⟨Y.f.k0.ci,Y.f.k1.ci,Y.f.k2.ci,Y.f.k3.ci,Y.f.k4.ci,Y.f.k5.ci,Y.f.k6.ci,Y.f.k7.ci,Y.f.k8.ci,Y.f.k9.ci,Y.f.y'.ci,Y.f.Dv.ci,Y.f.z?.ci,Y.f.u?.ci,Y.f.j?.ci,Y.f.G'.ci,trivial⟩),Y.y.g Y.f.a10⟩
instance:Ic B "Has" Tg:=⟨4,sH Y.f.i_Has J (zS 16 _) (yV.at ⟨Y.f.k0.ci,Y.f.k1.ci,Y.f.k2.ci,Y.f.k3.ci,Y.f.k4.ci,Y.f.k5.ci,Y.f.k6.ci,Y.f.k7.ci,Y.f.k8.ci,Y.f.k9.ci,Y.f.y'.ci,Y.f.Dv.ci,Y.f.z?.ci,Y.f.u?.ci,Y.f.j?.ci,Y.f.G'.ci,trivial⟩),Y.y.g Y.f.a4⟩
instance:Ic B "Kind" O5:=⟨7,sH Y.f.i_Kind J (zS 16 _) (yV.at ⟨Y.f.k0.ci,Y.f.k1.ci,Y.f.k2.ci,Y.f.k3.ci,Y.f.k4.ci,Y.f.k5.ci,Y.f.k6.ci,Y.f.k7.ci,Y.f.k8.ci,Y.f.k9.ci,Y.f.y'.ci,Y.f.Dv.ci,Y.f.z?.ci,Y.f.u?.ci,Y.f.j?.ci,Y.f.G'.ci,trivial⟩),Y.y.g Y.f.a7⟩
instance:Ic B "Lit" Ti:=⟨15,sH Y.f.i_Lit J (zS 16 _) (yV.at ⟨Y.f.k0.ci,Y.f.k1.ci,Y.f.k2.ci,Y.f.k3.ci,Y.f.k4.ci,Y.f.k5.ci,Y.f.k6.ci,Y.f.k7.ci,Y.f.k8.ci,Y.f.k9.ci,Y.f.y'.ci,Y.f.Dv.ci,Y.f.z?.ci,Y.f.u?.ci,Y.f.j?.ci,Y.f.G'.ci,trivial⟩),Y.y.g Y.f.a15⟩
instance:Ic B "Mark" O6:=⟨1,sH Y.f.i_Mark J (zS 16 _) (yV.at ⟨Y.f.k0.ci,Y.f.k1.ci,Y.f.k2.ci,Y.f.k3.ci,Y.f.k4.ci,Y.f.k5.ci,Y.f.k6.ci,Y.f.k7.ci,Y.f.k8.ci,Y.f.k9.ci,Y.f.y'.ci,Y.f.Dv.ci,Y.f.z?.ci,Y.f.u?.ci,Y.f.j?.ci,Y.f.G'.ci,trivial⟩),Y.y.g Y.f.a1⟩
instance:Ic B "Marked" Ju:=⟨6,sH Y.f.i_Marked J (zS 16 _) (yV.at ⟨Y.f.k0.ci,Y.f.k1.ci,Y.f.k2.ci,Y.f.k3.ci,Y.f.k4.ci,Y.f.k5.ci,Y.f.k6.ci,Y.f.k7.ci,Y.f.k8.ci,Y.f.k9.ci,Y.f.y'.ci,Y.f.Dv.ci,Y.f.z?.ci,Y.f.u?.ci,Y.f.j?.ci,Y.f.G'.ci,trivial⟩),Y.y.g Y.f.a6⟩
instance:Ic B "Move" O7:=⟨11,sH Y.f.i_Move J (zS 16 _) (yV.at ⟨Y.f.k0.ci,Y.f.k1.ci,Y.f.k2.ci,Y.f.k3.ci,Y.f.k4.ci,Y.f.k5.ci,Y.f.k6.ci,Y.f.k7.ci,Y.f.k8.ci,Y.f.k9.ci,Y.f.y'.ci,Y.f.Dv.ci,Y.f.z?.ci,Y.f.u?.ci,Y.f.j?.ci,Y.f.G'.ci,trivial⟩),Y.y.g Y.f.a11⟩
instance:Ic B "Not" O8:=⟨9,sH Y.f.i_Not J (zS 16 _) (yV.at ⟨Y.f.k0.ci,Y.f.k1.ci,Y.f.k2.ci,Y.f.k3.ci,Y.f.k4.ci,Y.f.k5.ci,Y.f.k6.ci,Y.f.k7.ci,Y.f.k8.ci,Y.f.k9.ci,Y.f.y'.ci,Y.f.Dv.ci,Y.f.z?.ci,Y.f.u?.ci,Y.f.j?.ci,Y.f.G'.ci,trivial⟩),Y.y.g Y.f.a9⟩
instance:Ic B "Put" Tj:=⟨12,sH Y.f.i_Put J (zS 16 _) (yV.at ⟨Y.f.k0.ci,Y.f.k1.ci,Y.f.k2.ci,Y.f.k3.ci,Y.f.k4.ci,Y.f.k5.ci,Y.f.k6.ci,Y.f.k7.ci,Y.f.k8.ci,Y.f.k9.ci,Y.f.y'.ci,Y.f.Dv.ci,Y.f.z?.ci,Y.f.u?.ci,Y.f.j?.ci,Y.f.G'.ci,trivial⟩),Y.y.g Y.f.a12⟩
instance:Ic B "Rule" O9:=⟨13,sH Y.f.i_Rule J (zS 16 _) (yV.at ⟨Y.f.k0.ci,Y.f.k1.ci,Y.f.k2.ci,Y.f.k3.ci,Y.f.k4.ci,Y.f.k5.ci,Y.f.k6.ci,Y.f.k7.ci,Y.f.k8.ci,Y.f.k9.ci,Y.f.y'.ci,Y.f.Dv.ci,Y.f.z?.ci,Y.f.u?.ci,Y.f.j?.ci,Y.f.G'.ci,trivial⟩),Y.y.g Y.f.a13⟩
instance:Ic B "Seen" Pa:=⟨5,sH Y.f.i_Seen J (zS 16 _) (yV.at ⟨Y.f.k0.ci,Y.f.k1.ci,Y.f.k2.ci,Y.f.k3.ci,Y.f.k4.ci,Y.f.k5.ci,Y.f.k6.ci,Y.f.k7.ci,Y.f.k8.ci,Y.f.k9.ci,Y.f.y'.ci,Y.f.Dv.ci,Y.f.z?.ci,Y.f.u?.ci,Y.f.j?.ci,Y.f.G'.ci,trivial⟩),Y.y.g Y.f.a5⟩
instance:Ic B "Thing" Lv:=⟨0,sH Y.f.i_Thing J (zS 16 _) (yV.at ⟨Y.f.k0.ci,Y.f.k1.ci,Y.f.k2.ci,Y.f.k3.ci,Y.f.k4.ci,Y.f.k5.ci,Y.f.k6.ci,Y.f.k7.ci,Y.f.k8.ci,Y.f.k9.ci,Y.f.y'.ci,Y.f.Dv.ci,Y.f.z?.ci,Y.f.u?.ci,Y.f.j?.ci,Y.f.G'.ci,trivial⟩),Y.y.g Y.f.a0⟩
instance:Ic B "Verb" Pb:=⟨2,sH Y.f.i_Verb J (zS 16 _) (yV.at ⟨Y.f.k0.ci,Y.f.k1.ci,Y.f.k2.ci,Y.f.k3.ci,Y.f.k4.ci,Y.f.k5.ci,Y.f.k6.ci,Y.f.k7.ci,Y.f.k8.ci,Y.f.k9.ci,Y.f.y'.ci,Y.f.Dv.ci,Y.f.z?.ci,Y.f.u?.ci,Y.f.j?.ci,Y.f.G'.ci,trivial⟩),Y.y.g Y.f.a2⟩
instance:Ic B "Word" Pc:=⟨8,sH Y.f.i_Word J (zS 16 _) (yV.at ⟨Y.f.k0.ci,Y.f.k1.ci,Y.f.k2.ci,Y.f.k3.ci,Y.f.k4.ci,Y.f.k5.ci,Y.f.k6.ci,Y.f.k7.ci,Y.f.k8.ci,Y.f.k9.ci,Y.f.y'.ci,Y.f.Dv.ci,Y.f.z?.ci,Y.f.u?.ci,Y.f.j?.ci,Y.f.G'.ci,trivial⟩),Y.y.g Y.f.a8⟩
instance:K0f B "Lit" 15:=⟨⟨Y.f.G'.mks,Y.f.n_Lit,Y.f.G'.kp⟩,Y.y.g Y.f.a15⟩
instance:Ij B 16:=⟨ZD Y.f.nd⟩
local macro_rules|`(tactic|trivial)=>do let x:=("zr_qF zr_q1 zr_q0 zr_jnI zr_sxI zr_insI YR YD YC YE YF Jp YJ VP Wl YG VN Wq Vw Vx Wm Wo Wi VR Wd VU Wr VE VF VG VH VA Wp YK Wt VB Wv Wx Wn WM VQ VO VM Vv zr_i2I VZ V0 YH WB VJ VL VI YL YM V4 Vy Vz V5 VC WJ WK WL Ww WA WC YI VS VT WE WG V6 VW VX WR Wa Wb Wc WH WI Sd Sb Se We Wf Wg VY V1 zr_xeI V2 W3 V3 V9 V8 V7 WZ Wu WY WW WN WO WQ Sa".splitOn " ").toArray.map fun s=>Lean.mkIdent (.mkSimple s);`(tactic|repeat' first|(with_reducible apply eqI);(first|rfl|kernel_rfl)|((with_reducible first|apply Wj|apply Wk);rotate_left 7;rfl)|(with_reducible first $[|apply $x]*)|(with_reducible intro _)|exact nv)
instance:Df B 1 "is_small_letters" (e? B.G uQ):=fm J Y.f.q24 J (by unfold xa;trivial)
instance:Df B 2 "is_name" (e? B.G uE):=fm J Y.f.q25 J (by unfold GT;trivial)
instance:Df B 2 "is_word" (e? B.G tK):=fm J Y.f.q26 J (by unfold GU;trivial)
instance:Df B 1 "is_one_of" (e? B.G rX):=fm J Y.f.q27 J (by unfold DK;trivial)
instance:Df B 1 "is_whole" (e? B.G xb):=fm J Y.f.q28 J (by unfold Fv;trivial)
instance:Df B 1 "is_list_up_to" (e? B.G sh):=fm J Y.f.q29 J (by unfold zw;trivial)
instance:Df B 1 "own_list" (e? B.G Bj):=fm J Y.f.q30 J (by unfold Fw;trivial)
def A7:Z7 B (H? (dd (top 53) 0)) "Thing.__init__" (dd (top 53) 0) (rZ (dd (top 53) 0)) 0 yY:=by
 unfold yY;refine Jp ?_ ?_
 all_goals trivial
instance:Kf B 1 "Thing" 0 tu [D.E]:=gJ4 (dds:=[D.E]) Y.f.k0 Y.f.a0 J Y.f.q31 J J A7 0
instance:Kf B 1 "Thing" 0 tu []:=gJ4 (dds:=[D.E]) Y.f.k0 Y.f.a0 J Y.f.q31 J J A7 1
instance:Kf B 1 "Mark" 1 DM []:=π Y.f.k1 Y.f.a1 J Y.f.q32 J J (by unfold DL;trivial)
def zt:Z7 B (H? (dd (top 55) 0)) "Verb.__init__" (dd (top 55) 0) (rZ (dd (top 55) 0)) 0 zX:=by
 unfold zX;refine Jp ?_ ?_
 all_goals trivial
instance:Kf B 1 "Verb" 2 tU [D.E,(D.str "one"),D.E]:=gJ4 (dds:=[D.E,(D.str "one"),D.E]) Y.f.k2 Y.f.a2 J Y.f.q33 J J zt 0
instance:Kf B 1 "Verb" 2 tU [D.E]:=gJ4 (dds:=[D.E,(D.str "one"),D.E]) Y.f.k2 Y.f.a2 J Y.f.q33 J J zt 2
instance:Kf B 1 "Verb" 2 tU []:=gJ4 (dds:=[D.E,(D.str "one"),D.E]) Y.f.k2 Y.f.a2 J Y.f.q33 J J zt 3
instance:Kf B 1 "At" 3 AC []:=π Y.f.k3 Y.f.a3 J Y.f.q34 J J (by unfold GV;trivial)
instance:Kf B 1 "Has" 4 yZ []:=π Y.f.k4 Y.f.a4 J Y.f.q35 J J (by unfold Fy;trivial)
instance:Kf B 1 "Seen" 5 DO []:=π Y.f.k5 Y.f.a5 J Y.f.q36 J J (by unfold DN;trivial)
instance:Kf B 1 "Marked" 6 sS []:=π Y.f.k6 Y.f.a6 J Y.f.q37 J J (by unfold AR;trivial)
instance:Kf B 1 "Kind" 7 tV []:=π Y.f.k7 Y.f.a7 J Y.f.q38 J J (by unfold DP;trivial)
instance:Kf B 1 "Word" 8 zY []:=π Y.f.k8 Y.f.a8 J Y.f.q39 J J (by unfold DQ;trivial)
instance:Kf B 1 "Not" 9 t8 []:=π Y.f.k9 Y.f.a9 J Y.f.q40 J J (by unfold FB;trivial)
instance:Kf B 1 "Both" 10 DS []:=π Y.f.y' Y.f.a10 J Y.f.q41 J J (by unfold DR;trivial)
instance:Kf B 1 "Move" 11 uV []:=π Y.f.Dv Y.f.a11 J Y.f.q42 J J (by unfold DT;trivial)
instance:Kf B 1 "Put" 12 vA []:=π Y.f.z? Y.f.a12 J Y.f.q43 J J (by unfold FC;trivial)
def Cs:Z7 B (H? (dd (top 62) 0)) "Rule.__init__" (dd (top 62) 0) (rZ (dd (top 62) 0)) 1 zZ:=by
 unfold zZ;refine Jp ?_ ?_
 all_goals trivial
instance:Kf B 2 "Rule" 13 tW [(D.I δ)]:=gJ4 (dds:=[(D.I δ)]) Y.f.u? Y.f.a13 J Y.f.q44 J J Cs 0
instance:Kf B 2 "Rule" 13 tW []:=gJ4 (dds:=[(D.I δ)]) Y.f.u? Y.f.a13 J Y.f.q44 J J Cs 1
instance:Mf B 9 "can_hold" sM:=⟨λc h e=>by
 unfold sM at e;split at e
 .cases e;exact p? (k:=8) Y.f.k0 J Y.f.q45 J (by unfold yt;trivial)
 .cases e⟩
instance:Mf B 9 "has_mark" tL:=⟨λc h e=>by
 unfold tL at e;split at e
 .cases e;exact p? (k:=8) Y.f.k0 J Y.f.q46 J (by unfold yw;trivial)
 .cases e⟩
instance:Mf B 9 "is_plainly" vC:=⟨λc h e=>by
 unfold vC at e;split at e
 .cases e;exact p? (k:=8) Y.f.k0 J Y.f.q47 J (by unfold xc;trivial)
 .cases e⟩
instance:Df B 1 "refuse_unless" (e? B.G ri):=fm J Y.f.q48 J (by unfold zx;trivial)
instance:Df B 1 "count_of" (e? B.G y3):=fm J Y.f.q49 J (by unfold FD;trivial)
instance:Df B 10 "plain_ones" (q0 B.G va):=S' J Y.f.q50 J (by unfold B4;trivial)
instance:Df B 2 "is_mark" (e? B.G CQ):=fm J Y.f.q51 J (by unfold CP;trivial)
instance:Df B 11 "check_things" (e? B.G xh):=fm J Y.f.q52 J (by unfold xg;trivial)
instance:Df B 3 "check_marks" (e? B.G xY):=fm J Y.f.q53 J (by unfold xX;trivial)
instance:Df B 1 "are_unlike" (e? B.G tw):=fm J Y.f.q54 J (by unfold B5;trivial)
instance:Df B 3 "check_names" (e? B.G x3):=fm J Y.f.q55 J (by unfold xZ;trivial)
instance:Df B 10 "mark_names" (q0 B.G y4):=S' J Y.f.q56 J (by unfold B6;trivial)
instance:Df B 10 "is_start" (e? B.G Bl):=fm J Y.f.q57 J (by unfold Bk;trivial)
instance:Df B 1 "comes_to_room" (e? B.G wb):=fm J Y.f.q58 J (by unfold zy;trivial)
instance:Df B 11 "check_starts" (e? B.G xj):=gF5 ["things", "starts", "thing"] J Y.f.q59 J (by unfold xi;trivial)
instance:Df B 3 "are_words" (e? B.G vQ):=fm J Y.f.q60 J (by unfold z4;trivial)
instance:Df B 1 "has_all" (e? B.G wN):=fm J Y.f.q61 J (by unfold GW;trivial)
instance:Df B 2 "is_told_apart" (e? B.G we):=fm J Y.f.q62 J (by unfold wc;trivial)
instance:Df B 11 "check_words_of_things" (e? B.G tP):=fm J Y.f.q63 J (by unfold tN;trivial)
instance:Df B 2 "check_dark" (e? B.G y7):=fm J Y.f.q64 J (by unfold y6;trivial)
instance:Df B 3 "is_way" (e? B.G FI):=fm J Y.f.q65 J (by unfold FH;trivial)
instance:Df B 4 "check_ways" (e? B.G y9):=fm J Y.f.q66 J (by unfold y8;trivial)
instance:Df B 3 "is_verb" (e? B.G GZ):=fm J Y.f.q67 J (by unfold GY;trivial)
instance:Df B 4 "check_verbs" (e? B.G vH):=fm J Y.f.q68 J (by unfold AS;trivial)
instance:Df B 1 "are_apart" (e? B.G vR):=fm J Y.f.q69 J (by unfold DU;trivial)
instance:Df B 11 "check_vocabulary" (e? B.G uS):=fm J Y.f.q70 J (by unfold uR;trivial)
instance:Df B 12 "check_parts" (e? B.G x8):=fm J Y.f.q71 J (by unfold x4;trivial)
instance:Df B 4 "does" (e? B.G xk):=fm J Y.f.q72 J (by unfold Pd;trivial)
instance:Df B 4 "refuses" (e? B.G sA):=fm J Y.f.q73 J (by unfold G0;trivial)
instance:Df B 5 "hand_rules" (q0 B.G za):=S' J Y.f.q74 J (by unfold B7;trivial)
instance:Df B 5 "put_rules" (q0 B.G z5):=S' J Y.f.q75 J (by unfold DV;trivial)
instance:Df B 5 "lid_rules" (q0 B.G z6):=S' J Y.f.q76 J (by unfold DW;trivial)
instance:Df B 5 "flame_rules" (q0 B.G x9):=S' J Y.f.q77 J (by unfold AU;trivial)
instance:Df B 3 "way_tests" (q0 B.G z7):=S' J Y.f.q78 J (by unfold DX;trivial)
instance:Df B 5 "go_rules" (q0 B.G Bn):=S' J Y.f.q79 J (by unfold Bm;trivial)
instance:Df B 5 "wait_rules" (q0 B.G B9):=S' J Y.f.q80 J (by unfold B8;trivial)
instance:Df B 6 "common_rules" (q0 B.G xl):=S' J Y.f.q81 J (by unfold z8;trivial)
instance:Df B 3 "common_verbs" (q0 B.G vb):=S' J Y.f.q82 J (by unfold z9;trivial)
instance:Df B 1 "by_name" (e? B.G CT):=fm J Y.f.q83 J (by unfold CS;trivial)
instance:Df B 10 "mosts_by_name" (e? B.G wj):=fm J Y.f.q84 J (by unfold wg;trivial)
instance:Df B 1 "verbs_by_word" (e? B.G uJ):=fm J Y.f.q85 J (by unfold zz;trivial)
instance:Df B 1 "by_verb" (e? B.G G2):=fm J Y.f.q86 J (by unfold G1;refine⟨MQ (stW (by kernel_rfl) II J) (JO nv J (IY (EX B.G.K (J7 (M' (by kernel_rfl))))) (pgI (by kernel_rfl)) (Er (Ho (J6 B.G.K fD jJ mE Cw (OJ (M' (by kernel_rfl)) (N3 (J7 (M' (by kernel_rfl))) (Ff.p (B:=B))) (JX wU) ⟨J,J,J,J⟩) (uh (M' (by kernel_rfl)) wU))))) (JL (PE.ghost (M' (by kernel_rfl))))⟩)
instance:Mf B 9 "of_kind" ya:=⟨λc h e=>by
 unfold ya at e;split at e
 .cases e;exact p? (k:=8) Y.f.j? J Y.f.q87 J (by unfold zA;trivial)
 .cases e⟩
instance:Mf B 9 "all_verbs" wm:=⟨λc h e=>by
 unfold wm at e;split at e
 .cases e;exact p? (k:=8) Y.f.j? J Y.f.q88 J (by unfold xG;trivial)
 .cases e⟩
instance:Df B 1 "is_same_text" (e? B.G vc):=fm J Y.f.q89 J (by unfold Aa;trivial)
instance:Df B 4 "copy_of" (e? B.G CU):=fm J Y.f.q90 J (by unfold G3;trivial)
instance:Mf B 9 "thing_of" vd:=⟨λc h e=>by
 unfold vd at e;split at e
 .cases e;exact p? (k:=8) Y.f.j? J Y.f.q91 J (by unfold yy;trivial)
 .cases e⟩
instance:Mf B 9 "most_of" vI:=⟨λc h e=>by
 unfold vI at e;split at e
 .cases e;exact p? (k:=8) Y.f.j? J Y.f.q92 J (by unfold zC;trivial)
 .cases e⟩
instance:Mf B 9 "verb_of" uf:=⟨λc h e=>by
 unfold uf at e;split at e
 .cases e;exact p? (k:=8) Y.f.j? J Y.f.q93 J (by unfold zD;trivial)
 .cases e⟩
instance:Mf B 9 "you" AD:=⟨λc h e=>by
 unfold AD at e;split at e
 .cases e;exact p? (k:=8) Y.f.j? J Y.f.q94 J (by unfold DY;trivial)
 .cases e⟩
instance:Df B 2 "is_by_command" (e? B.G su):=fm J Y.f.q95 J (by unfold zF;trivial)
instance:Df B 2 "is_here" (e? B.G vE):=fm J Y.f.q96 J (by unfold G4;trivial)
instance:Df B 10 "named" (e? B.G xI):=fm J Y.f.q97 J (by unfold Lx;trivial)
instance:Df B 11 "is_of_kind" (e? B.G wD):=fm J Y.f.q98 J (by unfold Ca;trivial)
instance:Df B 11 "is_term" (e? B.G yz):=fm J Y.f.q99 J (by unfold G5;trivial)
instance:Df B 11 "is_place" (e? B.G zb):=fm J Y.f.q100 J (by unfold Bo;trivial)
instance:Df B 12 "is_moved" (e? B.G Bq):=fm J Y.f.q101 J (by unfold Bp;trivial)
instance:Df B 10 "is_mark_value" (e? B.G uL):=fm J Y.f.q102 J (by unfold uK;trivial)
instance:Df B 13 "is_move" (e? B.G CW):=fm J Y.f.q103 J (by unfold CV;trivial)
instance:Df B 1 "is_said" (e? B.G yA):=fm J Y.f.q104 J (by unfold G6;trivial)
instance:Df B 10 "is_verb_name" (e? B.G xm):=fm J Y.f.q105 J (by unfold Ab;trivial)
instance:Df B 1 "does_or_refuses" (e? B.G ve):=fm J Y.f.q106 J (by unfold xJ;trivial)
instance:Df B 12 "is_plain_test" (e? B.G wu):=fm J Y.f.q107 J (by unfold sE;trivial)
instance:Df B 1 "is_test" (e? B.G (uX 0)):=fm (k:=0) J Y.f.q108 J (by trivial)
instance:Df B 13 "is_test" (e? B.G (uX 1)):=fm (k:=12) J Y.f.q108 J (by unfold uW;trivial)
instance:Df B 14 "is_test" (e? B.G (uX 2)):=fm (k:=13) J Y.f.q108 J (by unfold uW;trivial)
instance:Df B 15 "is_test" (e? B.G (uX 3)):=fm (k:=14) J Y.f.q108 J (by unfold uW;trivial)
instance:Df B 16 "is_test" (e? B.G (uX 4)):=fm (k:=15) J Y.f.q108 J (by unfold uW;trivial)
instance:Df B 14 "is_deed" (e? B.G CY):=fm J Y.f.q109 J (by unfold AE;trivial)
instance:Df B 18 "are_tests" (e? B.G Ac):=fm J Y.f.q110 J (by unfold DZ;trivial)
instance:Df B 15 "are_deeds" (e? B.G Ad):=fm J Y.f.q111 J (by unfold D1;trivial)
instance:Df B 19 "is_rule" (e? B.G Da):=fm J Y.f.q112 J (by unfold CZ;trivial)
instance:Kf B 20 "World" 14 sJ []:=π Y.f.j? Y.f.a14 J Y.f.q113 J J (by unfold vg;trivial)
instance:Mf B 9 "names" xK:=⟨λc h e=>by
 unfold xK at e;split at e
 .cases e;exact p? (k:=8) Y.f.j? J Y.f.q114 J (by unfold AV;trivial)
 .cases e⟩
instance:Mn B 9 "own_marks" 14 xn:=hN4 (k:=8) Y.f.j? J Y.f.q115 J (by trivial)
instance:Mf B 9 "own_marks" uM:=⟨λc h e=>by
 unfold uM at e;split at e
 .cases e;exact p? (k:=8) Y.f.j? J Y.f.q115 J (by unfold xM;trivial)
 .cases e⟩
instance:Mn B 9 "own_ways" 14 xN:=hN4 (k:=8) Y.f.j? J Y.f.q116 J (by trivial)
instance:Mf B 9 "own_ways" vh:=⟨λc h e=>by
 unfold vh at e;split at e
 .cases e;exact p? (k:=8) Y.f.j? J Y.f.q116 J (by unfold yB;trivial)
 .cases e⟩
instance:Mn B 9 "own_verbs" 14 xp:=hN4 (k:=8) Y.f.j? J Y.f.q117 J (by trivial)
instance:Mf B 9 "own_verbs" uN:=⟨λc h e=>by
 unfold uN at e;split at e
 .cases e;exact p? (k:=8) Y.f.j? J Y.f.q117 J (by unfold xO;trivial)
 .cases e⟩
instance:Mn B 9 "own_rules" 14 xq:=hN4 (k:=8) Y.f.j? J Y.f.q118 J (by trivial)
instance:Mf B 9 "own_rules" zG:=⟨λc h e=>by
 unfold zG at e;split at e
 .cases e;exact p? (k:=8) Y.f.j? J Y.f.q118 J (by unfold xP;trivial)
 .cases e⟩
instance:Mn B 9 "dark_rooms" 14 wz:=hN4 (k:=8) Y.f.j? J Y.f.q119 J (by trivial)
instance:Mf B 9 "dark_rooms" uF:=⟨λc h e=>by
 unfold uF at e;split at e
 .cases e;exact p? (k:=8) Y.f.j? J Y.f.q119 J (by unfold xt;trivial)
 .cases e⟩
instance:Mf B 9 "rules_to_write" uA:=⟨λc h e=>by
 unfold uA at e;split at e
 .cases e;exact p? (k:=8) Y.f.j? J Y.f.q120 J (by unfold vm;trivial)
 .cases e⟩
instance:Mf B 10 "told" (sI 0):=⟨λc h e=>by
 unfold sI Ag at e;split at e
 .cases e;exact p? (k:=9) Y.f.k3 J Y.f.q121 J (by unfold G7;trivial)
 .cases e;exact p? (k:=9) Y.f.k4 J Y.f.q122 J (by unfold FJ;trivial)
 .cases e;exact p? (k:=9) Y.f.k5 J Y.f.q123 J (by unfold D2;trivial)
 .cases e;exact p? (k:=9) Y.f.k6 J Y.f.q124 J (by unfold AX;trivial)
 .cases e;exact p? (k:=9) Y.f.k7 J Y.f.q125 J (by unfold D5;trivial)
 .cases e;exact p? (k:=9) Y.f.k8 J Y.f.q126 J (by unfold D7;trivial)
 .cases e;exact p? (k:=9) Y.f.Dv J Y.f.q128 J (by unfold D9;trivial)
 .cases e;exact p? (k:=9) Y.f.z? J Y.f.q129 J (by unfold FN;trivial)
 .cases e;exact p? (k:=9) Y.f.G' J Y.f.q127 J (by unfold FL;trivial)
 .cases e⟩
instance:Mf B 11 "told" (sI 1):=⟨λc h e=>by
 unfold sI at e;split at e
 .cases e;exact p? (k:=10) Y.f.k9 J Y.f.q130 J (by unfold Bs;trivial)
 .cases e;exact p? (k:=10) Y.f.y' J Y.f.q131 J (by unfold Ae;trivial)
 .exact(Mf.p (B:=B) (g:=sI 0) c h e).mono J⟩
instance:Mf B 12 "told" (sI 2):=⟨λc h e=>by
 unfold sI at e;split at e
 .cases e;exact p? (k:=11) Y.f.k9 J Y.f.q130 J (by unfold Bs;trivial)
 .cases e;exact p? (k:=11) Y.f.y' J Y.f.q131 J (by unfold Ae;trivial)
 .exact(Mf.p (B:=B) (g:=sI 0) c h e).mono J⟩
instance:Df B 1 "flat" (e? B.G (wx 0)):=fm (k:=0) J Y.f.q132 J (by trivial)
instance:Df B 2 "flat" (e? B.G (wx 1)):=fm (k:=1) J Y.f.q132 J (by unfold HV;trivial)
instance:Df B 3 "flat" (e? B.G (wx 2)):=fm (k:=2) J Y.f.q132 J (by unfold HV;trivial)
instance:Df B 4 "flat" (e? B.G (wx 3)):=fm (k:=3) J Y.f.q132 J (by unfold HV;trivial)
instance:Df B 1 "row_of" (e? B.G sN):=fm J Y.f.q133 J (by unfold Jw;trivial)
instance:Df B 2 "thing_row" (e? B.G xQ):=fm J Y.f.q134 J (by unfold Eb;trivial)
instance:Df B 13 "rule_rows" (q0 B.G Ah):=S' J Y.f.q135 J (by unfold Ec;trivial)
instance:Df B 14 "world_text" (e? B.G tD):=fm J Y.f.q136 J (by unfold Ce;trivial)
instance:Df B 1 "_law_cell_at" (e? B.G vn):=fm J Y.f.q137 J (by unfold Ai;trivial)
instance:Df B 1 "_law_draws" (q0 B.G vo):=S' J Y.f.q138 J (by unfold zd;trivial)
instance:Df B 1 "_law_names" (e? B.G zf):=fm J Y.f.q139 J (by unfold ze;trivial)
instance:Df B 1 "_law_words" (e? B.G zg):=fm J Y.f.q140 J (by unfold Cf;trivial)
instance:Df B 2 "_law_things" (e? B.G vJ):=fm J Y.f.q141 J (by unfold AZ;trivial)
instance:Df B 1 "_law_marks" (e? B.G wF):=fm J Y.f.q142 J (by unfold Cg;trivial)
instance:Df B 1 "_law_all_marks" (e? B.G vF):=fm J Y.f.q143 J (by unfold yC;trivial)
instance:Df B 1 "_law_ways" (e? B.G xR):=fm J Y.f.q144 J (by unfold Ed;trivial)
instance:Df B 1 "_law_verbs" (e? B.G zh):=fm J Y.f.q145 J (by unfold Ci;trivial)
instance:Df B 1 "_law_common" (q0 B.G yb):=S' J Y.f.q146 J (by unfold A0;trivial)
instance:Df B 1 "_law_test" (e? B.G (sO 0)):=fm (k:=0) J Y.f.q147 J (by trivial)
instance:Df B 2 "_law_test" (e? B.G (sO 1)):=fm (k:=1) J Y.f.q147 J (by unfold vS;trivial)
instance:Df B 3 "_law_test" (e? B.G (sO 2)):=fm (k:=2) J Y.f.q147 J (by unfold vS;trivial)
instance:Df B 4 "_law_test" (e? B.G (sO 3)):=fm (k:=3) J Y.f.q147 J (by unfold vS;trivial)
instance:Df B 1 "_law_deed" (e? B.G vT):=fm J Y.f.q148 J (by unfold Aj;trivial)
instance:Df B 5 "_law_rules" (e? B.G wG):=fm J Y.f.q149 J (by unfold zi;trivial)
instance:Df B 6 "_law_parts" (e? B.G zk):=fm J Y.f.q150 J (by unfold zj;trivial)
instance:Df B 1 "_law_asked" (e? B.G (ua 0)):=fm (k:=0) J Y.f.q151 J (by trivial)
instance:Df B 3 "_law_asked" (e? B.G (ua 1)):=fm (k:=2) J Y.f.q151 J (by unfold wH;trivial)
instance:Df B 4 "_law_asked" (e? B.G (ua 2)):=fm (k:=3) J Y.f.q151 J (by unfold wH;trivial)
instance:Df B 5 "_law_asked" (e? B.G (ua 3)):=fm (k:=4) J Y.f.q151 J (by unfold wH;trivial)
instance:Df B 3 "_law_done" (e? B.G Ak):=fm J Y.f.q152 J (by unfold Ee;trivial)
instance:Df B 7 "_law_rule" (e? B.G Am):=fm J Y.f.q153 J (by unfold Al;trivial)
instance:Df B 22 "_law_world" (e? B.G zm):=fm J Y.f.q154 J (by unfold zl;trivial)
instance:Df B 1 "_law_dash" (e? B.G vU):=fm J Y.f.q155 J (by unfold Ef;trivial)
instance:Df B 1 "_law_spoken" (e? B.G (sj 0)):=fm (k:=0) J Y.f.q156 J (by trivial)
instance:Df B 2 "_law_spoken" (e? B.G (sj 1)):=fm (k:=1) J Y.f.q156 J (by unfold vK;trivial)
instance:Df B 3 "_law_spoken" (e? B.G (sj 2)):=fm (k:=2) J Y.f.q156 J (by unfold vK;trivial)
instance:Df B 4 "_law_spoken" (e? B.G (sj 3)):=fm (k:=3) J Y.f.q156 J (by unfold vK;trivial)
instance:Df B 5 "_law_rows" (e? B.G An):=fm J Y.f.q157 J (by unfold Eg;trivial)
def Qh:Z7 B (H? (top 164)) "law" (top 164) (rZ (top 164)) 22 Ly:=by
 unfold Ly;refine Jp ?_ ?_
 all_goals trivial
end
end K84x
namespace K84x
open PySem L2 L3 L4
def LY(K:ao):Sp:=λd H Q z=>∃(a:Addr) (b:List Int),d=[.ref a]/\fx K H a (b.map V.int)/\b.length<=63/\∀c,Q (.I γ) c
theorem Hl{G:Bg}{H:Hp}:∀a:List Int,b? G H (a.map D.int) (a.map V.int)
 |[]=>rW
 |n::a=>sd (ui n) (Hl a)
def SW{G:Bg}:∀c H Q E,LY G.K c H Q E->e? G Tn c H Q E:=λc H Q E h=>by obtain⟨a,b,rfl,i,f,k⟩:=h;refine⟨H,[.O (b.map D.int)],.I γ,ro.refl _,sd (by unfold L4.ef;exact⟨a,_,J,i,Hl b⟩) rW,Xx b f,λv e d z z z z r=>?_⟩;unfold L4.ef at r;subst r;exact k d
section
variable{K:ao}{x m q:Str}{st:Stmt}{f C:Addr}{oc:ab}{od:Option Addr}{kV doc pm:ab}{an:Option Addr}{cdv ct:ab}{osl:Array (Option ab)}
def Qi(d:K.lookup f=Z ⟨oc,od,.func (dD x q (uZ st) (rZ st) (rF st) .none kV doc pm an cdv ct),osl⟩)(b:fR K cdv q=γ)(c:de K (.ref f)=γ):∃a,ζ K x q st f a:=⟨_,⟨_,_,_,_,_,_,_,_,_,J,d,b⟩,c⟩
def gd_mk(h:gO K aQ x=Z (Z (.ref f)))(c:K.lookup f=Z ⟨oc,od,.func (dD x x (uZ st) (rZ st) (rF st) .none kV doc pm an cdv ct),osl⟩)(a:fR K cdv x=γ)(b:de K (.ref f)=γ):GD K x st:=⟨f,(Qi c a b).imp λz F=>⟨h,F⟩⟩
def gm_mk(h:cH K (.ref C) m=Z (Z (.ref f)))(b:i9 K (.ref f)=γ)(d:K.lookup f=Z ⟨oc,od,.func (dD m q (uZ st) (rZ st) (rF st) .none kV doc pm an cdv ct),osl⟩)(a:fR K cdv q=γ)(c:de K (.ref f)=γ):GM K C m q st:=⟨f,(Qi d a c).imp λz F=>⟨h,b,F⟩⟩
end
theorem all_mk{l:fS}{w:ay}{K:ao}{h:Heap}{p:Str->Option ab}{M:Addr}(X:K.In h)(I:h.Ns aQ p)(hfa:p "law" = Z (.ref M)){q r t u x y z A C E b d i j m o:Addr}(F:Fx K q r t u x y z A C E b d i j m o):
  ∃H:bP,(∀(s:af) (v:ab),fT s H ⟨[v],[]⟩ [("_law_script", v)])/\∀b1:Heap,K.In b1->b1.Ns aQ p->vv l.prog w K p b1 Dk 23 M H ["_law_script"] (LY K):=by
 have q?:∃B:Bg,B.K=K/\B.ca 0=q/\B.ca 1=r/\B.ca 2=t/\B.ca 3=u/\B.ca 4=x/\B.ca 5=y/\B.ca 6=z/\B.ca 7=A/\B.ca 8=C/\B.ca 9=E/\B.ca 10=b/\B.ca 11=d/\B.ca 12=i/\B.ca 13=j/\B.ca 14=m/\B.ca 15=o/\B.hs=tupleKeyHash (rA l.prog w):=⟨⟨K,λc=>[q,r,t,u,x,y,z,A,C,E,b,d,i,j,m,o].getD c 0,_⟩,J,J,J,J,J,J,J,J,J,J,J,J,J,J,J,J,J,J⟩;obtain⟨B,rfl,rfl,rfl,rfl,rfl,rfl,rfl,rfl,rfl,rfl,rfl,rfl,rfl,rfl,rfl,rfl,rfl,O⟩:=q?;have AT:∀b1,Yx ⟨l.prog,w,p,b1,B⟩:=λb1=>⟨⟨h,X,I⟩,O,F⟩;obtain⟨f,H,a,FF⟩:=F.q158;have e:=hfa.symm.t (gM X I a);cases e;obtain⟨T,W,kV,doc,pm,P,cdv,Q,osl,rfl,R,hcd⟩:=FF.ex;exact⟨_,λs v=>.of_eq J,λb1 k k=>(On J J J FF (v3 (N:=H? (top 164)) (ps:=["_law_script"]) (np:=1) (n:=7) (by kernel_rfl)).1 ((@Qh _ (AT b1)).ok J _)).imp (SW (G:=B))⟩
def walk{l:fS}{q:aI}{loose:aE}{XP:(Str->Option ab)->Heap->Prop}{YP:ay->Heap->Prop}{d:DefRec}{K:Params->ao}(j:l.most=Z 63)(hdf:d.params.defaults=[])
  (hY:∀(w:ay) (h:Heap),YP w h->(K w.params).In h)
  (F:∀(w:ay) (b:Str->Option ab) (c:Addr) (h:Heap),(K w.params).In h->h.Ns aQ b->b d.name=Z (.ref c)->
   ∃e:bP,(∀(s:af) (u:ab),fT s e ⟨[u],[]⟩ [("_law_script", u)])/\∀b1:Heap,(K w.params).In b1->b1.Ns aQ b->vv l.prog w (K w.params) b b1 Dk 23 c e ["_law_script"] (LY (K w.params))):
  W.WalkO q loose XP YP l.row.toRowW d [] (λf o=>kC f o):=
 L2.QO (n:=63) (k:=23) (x:="_law_script") (CX:=λt=>Dk) (sp:=λw=>LY (K w.params)) j (by decide) hdf ⟨J,by decide,by decide⟩ hY F (λt t a m i t hS=>⟨a,m,J,hS,i,λt=>J⟩) λt t t t t z=>z
end K84x
set_option maxHeartbeats 0
open PySem PySem.W PyProof.Rows
set_option tactic.hygienic true
theorem PySem.Challenge.cw_tellworld_k84_worlds_written_holds : PySem.Challenge.rw_tellworld_k84_worlds_written.Holds := by
 refine hd ?_
 k_fill
 refine K84x.walk (l:=PySem.Challenge.rw_tellworld_k84_worlds_written) rfl rfl (λw h Y=>Y) ?F
 case F=>
  intro w mg fa h KX G hmg;refine' K84x.all_mk KX G hmg ?Q
  case Q=>
   constructor
   all_goals as_aux_lemma=>first
   |k_is
   |kernel_rfl
   |exact⟨⟨⟨by k_is,by k_is,by k_is,by k_is⟩,by k_is,by k_is,by k_is,by k_is⟩,by k_is,by k_is,by kernel_rfl⟩
   |exact⟨_,by k_is⟩
   |exact K84x.gd_mk (by k_is) (by k_is) (by k_is) (by k_is)
   |exact K84x.gm_mk (by k_is) (by k_is) (by k_is) (by k_is) (by k_is)
   |exact⟨_,_,_,_,by k_is,by k_is,by rfl,by rfl,by simp,by repeat' first|exact .nil|exact .cons rfl .nil|refine .cons rfl ?_⟩
   |exact⟨_,_,_,_,[_],_,by k_is,by k_is,⟨⟨_,_,_,_,_,_,_,_,_,rfl,by k_is,by k_is⟩,by k_is⟩,by k_is,by rfl,.cons (by first|rfl|exact⟨_,rfl⟩) .nil⟩
   |exact⟨_,_,_,_,[_,_,_],_,by k_is,by k_is,⟨⟨_,_,_,_,_,_,_,_,_,rfl,by k_is,by k_is⟩,by k_is⟩,by k_is,by rfl,.cons (by first|rfl|exact⟨_,rfl⟩) (.cons (by first|rfl|exact⟨_,rfl⟩) (.cons (by first|rfl|exact⟨_,rfl⟩) .nil))⟩
end
