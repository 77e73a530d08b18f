import PyProof.Rows.All
import Wide.All
import OpenK.AllK
import Wide.FinOn
import Lean
import PyProof.EqAt
import PyProof.EqKinds
import PyProof.TupleCall
import PyProof.DictRoadsH
import PyProof.DictKinds
import PyProof.DictIter
import PyProof.DictRoads
import PyProof.DictList
import PyProof.ListMulAny
import PyProof.StrWalks
import KE.KIntText
import KE.KSortTup
import KE.KLam
import PyProof.ExcInit
import PyProof.ExcClass3
import PyProof.InstStoreFacts
import PyProof.ExcBaseAll.ValueError
import PyProof.ExcArgsOwn
import PyProof.ExcAttrAll.ValueError
import PyProof.Rows.RuleN_isinstance
import PyProof.StrLawsTight
import PyProof.Rows.StrItems
import PyProof.AutoSeq1
import PyProof.DictTruth
import PyProof.DictWalks
import KE.KRevIter
import PyProof.Rows.FactsT2
import PyProof.ListRange
import PyProof.CollectWalk
import KE.KItemsList
import PyProof.ZipIter
import PyProof.StrLaws
import PySem.Challenge.RW_windround_k37_desks
set_option compiler.extract_closed false
set_option bootstrap.genMatcherCode false
local macro_rules|`(!0)=>`(by omega)|`(!1)=>`(by simp)|`(!2)=>`(by decide)|`(!3)=>`(by decide +kernel)|`(!4)=>`(by show List.Nodup (_::_);decide +kernel)
local macro_rules|`(tactic|omega)=>`(tactic|lia)|`(tactic|lia)=>`(tactic|first|assumption|lia -verbose)
set_option Elab.async false
set_option linter.all false
set_option maxRecDepth 100000
set_option tactic.hygienic false
noncomputable section
open PySem.Value renaming ref->di,none->dr,int->ir,type->nN,builtin->pa,bool->r4,str->F2,isStrOf_shape->NG,isStrOf->Oo,isInt->OB,float->OC,bytes->OD
open List renaming range->dm,lookup->gu,Nodup->ic,map->i1,filter->mo,toArray->mu,length->nn,zip->p7,sum_cons->rj,flatMap_eq_nil_iff->r0,nil_append->sT,pairwise_append->t0,mem_of_mem_take->t7,getLast?_concat->vb,forIn_nil->vk,dropLast_concat->vl,filterMap_cons->vu,lookup_append->B2,map_nil->FB,ext_getElem?->F0,eraseIdxIfInBounds_toArray->L2,take_length->ML,nodup_range->MM,cons_ne_nil->MN,cons_append->MO,any_eq_true->MP,forIn_cons->MY,drop_zero->M3,sublist_append_right->M6,mem_or_eq_of_mem_set->M7,getLast?_eq_getElem?->M8,getElem?_zip_eq_some->M9,length_eq_zero_iff->Ni,zipWith->Nl,sum_replicate_nat->Nm,filter_eq_nil_iff->Nn,take_append_drop->Nt,mem_iff_getElem?->Nu,getElem?_zipWith->Nv,getElem?_eq_none->Nx,eq_nil_or_concat->Ny,dropLast_eq_take->Nz,contains_iff_mem->NA,cons_lt_cons_iff->NB,concat_eq_append->NC,length_zipWith->NM,length_flatten->NO,length_flatMap->NP,flatMap_append->NQ,zip_map_right->NY,zip_cons_cons->NZ,mem_filterMap->N2,getElem?_take->N3,getElem_take->N6,getElem?_inj->N7,flatMap_cons->N8,filter_congr->N9,reverse_inj->Oe,mem_flatten->Of,mem_flatMap->Og,map_snd_zip->Oh,length_drop->Oi,map_const'->Ol,length_nil->Om,filter_map->On,all_cons->Ox,map_set->OE
open PySem.Obj renaming mapSeq->dt,data_mapFields->i2,mapFields->lx,isFreed_of_fields->pu,data_mapDictKeys->NL,isFreed_of_dict->NW,cls_mapFields->Oc,data_mapDict->Oj
open Option.some renaming inj->du
open PySem.Str renaming ofString->dD,length_append->oL,join->p8,empty->vr
open PySem.Heap.SameBut renaming update->dV
open PySem.NameKind renaming free->eb,cell->mn
open PySem.W renaming findIn->ed,keepIn->eE,mg_of->gt,kitOne->hG,hasDictIn->hI,emptyDict->hP,fnOf->hX,instObj->i3,kia_one->me,codeIn->nf,plainGet->o0,callWith_K->pC,cellsFrom_some->ro,makesIn->rr,OpenLaw->ry,lookIn->sN,plainGet_of->s0,plainOver->xi,methodObj->xl,isFn->xD,takerIn->H7,Ground->MQ,methodCall_KW->Nf,callWith_K0->Nj,mg_none_of->Np,mc_isType->NH,kitx_none->NI,handedIn->NK,WalkO->Ob
open PySem.F renaming plainAttrs_list->ef,type_list_append->hY,slot_list_append->h5,type_list_pop->oy,slot_list_pop->oG,slot_dict_pop->sj,slot_gs_get->tf,typeOf_object_class->MJ,slot_dict_getitem->MX,plainAttrs_dict->M1,type_dict_pop->Ng
open PySem.PyData renaming list->eg,canLay0->eN,str->fx,int->fy,eqv->fI,canLayAll0->lc,eqvAll->ny,depth->su,depthAll->MK,tuple->Op,none->Ou,dict->Ov
open List.cons renaming injEq->el
open Array renaming getElem?_eq_some_iff->em,length_toList->ge,getD_eq_getD_getElem?->gf,forIn_toList->oo,getElem_toList->tD,getElem?_eq_getElem->M5,getElem?_toList->No,mem_toList_iff->NF,toList_append->NJ,toList_inj->Oa,toList->OA
open Or renaming inr->eC,inl->px
open List.Perm renaming append_left->fo,append_right->M0,eq_nil->NE,cons->NR
open PySem.Builtin.Tuple renaming tupleHashOf->gs
open PySem.Builtin.SmallTypes renaming nextOf->gV
open PySem renaming mem_of_lookup->hV,call->wi,Within->Nh
open PyProof.Rows renaming boot_isinstance->h7,boot_list->ls,callWith_type1->lA,boot_tuple->pE,boot_sum->p9,boot_str->MR,boot_int->MS
open Prod.mk renaming inj->ip,injEq->ms
open PySem.Heap renaming SameBut->lp,get?_push_ne->ri,ExtBut->MV,get?_update_ne->NT,MadeExcOf->Oq
open PySem.PyData.dict renaming injEq->lC
open List.Sublist renaming append_left->nl,refl->Na
open PySem.SeqAt renaming canLay_of_shaped->oq,shaped->pB
open PySem.Builtin.List renaming listExtendWith->o3,listTooLong->pA,listLengthHint->A2,listSameRef->F1
open PySem.PyData.int renaming injEq->p0
open Nat renaming le_add_right->sk,lt_trans->Iv,le_of_lt_succ->I7,min_eq_right->MT,min_eq_left->MZ,pow_succ->Nq,lt_or_ge->Nr,pow_le_pow_left->NX,not_lt->N4,mod_lt->N5,lt_trichotomy->Od,mul_le_mul->Ow
open PySem.Builtin.Dict_items renaming ownsTuple->sH
open Sum renaming inr->sK,inl->Hh
open PySem.Builtin.Builtins renaming bindParams->tx
open Bool renaming or_eq_true_iff->v6,not_false->Os,or_false->Oy,false_or->Oz
open Sum.inr renaming inj->D0
open Int.ofNat renaming inj->MU
open PySem.Builtin.Dict renaming showsAll->MW
open Nat.succ renaming inj->M2
open List.Pairwise renaming nil->M4
open Int renaming fdiv_eq_ediv_of_nonneg->Nb,le_refl->NS
open PySem.SeqAt.EqAt renaming str_int->Nc,int_str->Nd
open Option renaming none->Nk,getD_some->NU,getD_none->NV
open PySem.Challenge renaming pw_windround_k37_desks->Ot
open PySem.Heap.IsSliceOf renaming new->OF
open PySem renaming PyData->av,Addr->aG,Value->ba,Shared->bb,Expr->bi,Heap->cc,Str->ck
open PySem.W renaming Frag->cp,nsIn->cv
open PySem renaming wpAny_bind->jj,wpAny_pure->kf,starEach->kh,wpAny->kn,model->kq,mainGlobals->kw,FuncData->kx,Program->ky,World->kD,backTo->qr,wpAny_loadPart_at->qs,wpAny_mono->qD,sizeLine_eq->qE,wpAny_holding->qT,foldedSetIterable->q4,compareOp->q5,attributeBase->zp,cellsFrom->zs,wpAny_call_entry->zv,keywordEach->zz,excClassObj->z5,wpAny_newObj_type->KP,wpAny_isSubtype_exc->Qa,wpAny_Call_Name_kw->Qb,Scope->Qc,wpAny_truthy_bool->Qd,holding->Qf,assignEach->Qg,bindArgs->Qh,sysModules->Qi,cLine->Qj,rawInt->Qk,bootBuiltins->Ql,plainId_quiet->Qm,standAt->Qn,codeAny->Qo,wpAny_callSpecial?_slot->Qp,backToKw->Qq,wpAny_typeNameOfWhole_keyiter->Qr,wpAny_specialOf->Qs,wpAny_passesOwn->Qt,codeAny_builtin->Qu,swapsWith->Qv,behindInMarks->Qw,Keyword->Qx,wpAny_setField->Qy,closureFor->QB,builtinsNs->QC,wpAny_typeNameOf_keyiter->QD,wpAny_standAt->QE,intKind->QG,wpAny_field->QH,wpAny_seqItems->QI,codeAny_mono->QJ,binaryOp->QK,wpAny_rule->QL,wpAny_isInstance->QM,wpAny_call->QN,Arguments->QO,sliceBounds->QQ,codeAny_call_builtin->QR,wpAny_updateSeq->QS,wpAny_execs_nil->QT,assign->QV,getMethod->QX,typeLookup->QY,wpAny_pyIter_list->QZ,wpAny_newList->Q2,swapsWithSole->Q3,swappedStores->Q4,wpAny_forIn_list->Q5,wpAny_execs_cons->Q6,pushCells->Q7,defaultsOf->Za,pushCells_keeps->Zb,letOwnedTupleGo->Zc,isSubtype_tuple_tuple->Zd,wpAny_letGo->Ze,isTrue->Zg,firstArgMember->Zh,Operator->Zi,valueAt->Zj,codeAmong->Zk,BindsTo->Zl,wpAny_tupleItemsOf->Zo,pyNext->Zp,isInstance->Zq,call_meets->Zr,wpAny_dictEntries->Zt,hashInt->Zu,callerA->Zv,callWith->Zw,atKey->Zx,wpAny_eqBool_int->Zy,typeOf->Zz,checkBuiltinCall->ZB,Result->ZC,wpAny_of_eq->ZD,subscripted->ZE,Model->ZF,wpAny_ite_split->ZG,wpAny_dictEpoch->ZH,setItem->ZJ,wpAny_tryCatch->ZK,wpAny_newFunctionEnv_cells->ZL,truthy->ZM,reduceHash->ZO,newFunctionEnv->ZP,PlainAttrs->ZQ,GenState->ZR,wpAny_comprehension_free->ZS,wpAny_attempt->ZT,updateSeq->ZU,seqItems?->ZV,seqIndex?->ZW,noteFrame->ZX,eqIsQuiet->ZZ,bindL->Z0,bindC->Z1,tupleKeyHash->Z2,pyIter->Z4,leaving->Z7
open PyProof.Rows renaming seqObj->qb,envOfC->QA,listUpdate_at->QF,get?_update_seq->QU,AllBare->Q1,seqEpoch_at->Zf,subscriptTail->Zm,call_isinstance_of->Zs,entry_list_sort->ZI,slot_list_sort->ZN,subscriptTail_builtinR->Z3,plain_sorted->Z5,listItems_at->Z6,entry_sorted->Z9,IntsAre->Ya
open PySem.W renaming kas_sort->Qz,kas_rev->QP,kas_place->QW,kas_asc->Q0,kas_desc->Q8,kla_obj->Q9,kla_fn->ZA,kas_tail3->ZY,kas_descPart->Z8
open PySem.MeetsSeq3 renaming plain_eq_loop->Zn
open List renaming mem_append_right->K0,mem_append_left->K1,mem_append->K2,mem_cons_self->K3,length_map->K4,mem_cons_of_mem->K5,nodup_append->K6,mem_singleton->K7,getElem?_eq_getElem->K8,mem_cons->K9,getD_eq_getElem?_getD->Lb,getElem?_eq_some_iff->Lc,map_cons->Le,size_toArray->Li,getElem?_set_ne->Lj,nodup_cons->Ll,mem_map->Lo,getElem?_set_self->Lp,append_nil->Ls,length_cons->Lu,not_mem_nil->Lv,map_append->Lw,mem_filter->Ly,map_map->LA,length_append->LB,getElem_of_mem->LC,getElem?_map->LD,getElem_mem->cE,mem_of_getElem?->LF,length_range->LH,nodup_nil->LI,lookup_cons->LJ,length_set->LL,replicate->LM,all_eq_true->LN,mem_range->LP,append_assoc->LQ,length_filter_le->LS,filter_cons_of_pos->LU,take_of_length_le->LY,eq_nil_iff_forall_not_mem->LZ,getElem?_append_left->L1,length_zip->L4,map_congr_left->L6,getElem?_append_right->L8,getElem_zip->Ma,getElem_map->Mb,drop_eq_getElem_cons->Mc,filter_append->Md,reverse_cons->Mf,filter_cons_of_neg->Mg,ext_getElem->Mh,drop_of_length_le->Mi,length_singleton->Mj,perm_append_comm->Ml,range_succ->Mm,find?_cons->Mn,getElem_set->Ms,filter_cons->Mt,getElem?_set_self'->Mu,mem_replicate->Mw,any_cons->Mx,take_add_one->Mz,mem_iff_getElem->MB,length_take->MC,mem_reverse->MD,of_mem_zip->MF,contains_cons->MG
open Nat renaming le_trans->Ld,le_refl->Lf,lt_of_lt_of_le->Lg,zero_le->Ln,ne_of_lt->Lr,lt_succ_self->LR,lt_of_le_of_lt->LW,lt_irrefl->L0,le_succ->L3,lt_succ_of_lt->L5,lt_of_succ_lt_succ->L7,ne_of_gt->L9,pow_le_pow_right->Mq,not_lt_zero->My,le_of_lt->MH,le_of_eq->MI
open Int renaming emod_lt_of_pos->LO,emod_nonneg->LV,toNat_natCast->Mo
open Option renaming isSome_iff_exists->Me
open Bool renaming false_ne_true->Lq,false_eq_true->Lz,and_eq_true_iff->LK,and_eq_true->LX,not_true->Mp,or_true->Mv,eq_iff_iff->ME
open PySem.Heap renaming get?_push_of_some->La,lt_size->Lh,get?_push_size->Lm,get?_update_other->Lx,get?_update_self->LG,size_push->da,size_update->Mr,get?_none_of_le->MA
theorem cA{α:Type _}{a:α}{b:Prop}:a=a\/b:=.inl rfl
theorem OG{c:Prop}{h:Decidable c}(hc:c){α}{t e:α}:ite c t e=t:=if_pos hc
theorem OH{c:Prop}{h:Decidable c}(hc:¬c){α}{t e:α}:ite c t e=e:=if_neg hc
abbrev OJ:=List (List (List Int))
abbrev OK:=List (Int×List Int)
abbrev OL:=List (ck×PySem.NameKind)
abbrev OM:=List (Option Nat)
abbrev ON:=Array (Option ba)
abbrev OO:=Option (List Int)
abbrev OP:=Option (List av)
abbrev OQ:=List (List Int)
abbrev OU:=List (aG×PySem.Obj)
abbrev OW:=List (ck×av)
abbrev OY:=List (ck×aG)
abbrev OZ:=List (ck×ba)
abbrev O2:=Option Int
abbrev O3:=Option ba
abbrev O4:=Option aG
abbrev O5:=Array Nat
abbrev O6:=List PySem.Stmt
abbrev O7:=List Int
abbrev O8:=Array ba
abbrev Pa:=List PySem.Env
abbrev Pd:=List Nat
abbrev Pe:=List av
abbrev Pg:=List aG
abbrev Ph:=List ba
abbrev Pi:=List ck
abbrev Pj:=List bi
abbrev Pk:=List Qx
open Prod renaming mk->Pm
local macro_rules|`(tactic|walk_at"v0")=>`(tactic|first|exact px rfl|exact eC cA|exact eC (eC rfl))
local macro_rules|`(tactic|walk_at"v1")=>`(tactic|first|exact .inl rfl|exact .inr rfl|assumption)
section
local macro_rules|`(($a,$b,*))=>`(⟨$a,$b,*⟩)
theorem zzq0(h:True:=by rfl):True:=h
def Pt:Lean.Syntax:=zzq0._auto_1
theorem zzq1(h:True:=by decide):True:=h
def Pu:Lean.Syntax:=zzq1._auto_1
theorem zzq2(h:True:=by intro _;rfl):True:=h
def Pv:Lean.Syntax:=zzq2._auto_1
theorem zzq3(h:True:=by walk_at"v0"):True:=h
def Pw:Lean.Syntax:=zzq3._auto_1
theorem zzq4(h:True:=by walk_at"v1"):True:=h
def Px:Lean.Syntax:=zzq4._auto_1
theorem zzq5(h:True:=by exactλY Y=>rfl):True:=h
def Py:Lean.Syntax:=zzq5._auto_1
theorem zzq6(h:True:=by intro _ _;rfl):True:=h
def Pz:Lean.Syntax:=zzq6._auto_1
theorem zzq7(h:True:=by intros;unfold BdA;intros;rfl):True:=h
def PB:Lean.Syntax:=zzq7._auto_1
theorem zzq8(h:True:=by decide +kernel):True:=h
def PC:Lean.Syntax:=zzq8._auto_1
theorem zzq9(h:True:=by first|exact ia _|with_unfolding_all rfl):True:=h
def PD:Lean.Syntax:=zzq9._auto_1
theorem zzq10(h:True:=by first|exact .inl rfl|exact .inr rfl):True:=h
def PF:Lean.Syntax:=zzq10._auto_1
theorem zzq11(h:True:=by exactλY Y Y Y=>lf):True:=h
def PH:Lean.Syntax:=zzq11._auto_1
theorem zzq12(h:True:=by size_fits):True:=h
def PJ:Lean.Syntax:=zzq12._auto_1
theorem zzq13(h:True:=by with_unfolding_all rfl):True:=h
def PL:Lean.Syntax:=zzq13._auto_1
local macro_rules|`($t⊕'$x)=>`(autoParam $t $x)
open Option renaming some->Po,none->Pp
open Bool renaming true->Pq,false->Pr
open Lean in
def Ps:Nat->Syntax->Syntax
|n+1,x@(.node i k a)=>if k==`Lean.Parser.Term.hole then .node i `Lean.Parser.Tactic.rcasesPat.ignore a else .node i `Lean.Parser.Tactic.rcasesPat.tuple #[.atom i "⟨",.node i `null ((if k==`Lean.Parser.Term.tuple then #[x[1][0],.atom i ","]++x[1][2].getArgs else x[1].getArgs).map fun x=>if x.isAtom then x else .node i `Lean.Parser.Tactic.rcasesPatLo #[.node i `Lean.Parser.Tactic.rcasesPatMed #[.node i `null #[Ps n x]],.node i `null #[]]),.atom i "⟩"]
|_,x=>.node .none `Lean.Parser.Tactic.rcasesPat.one #[x]
local macro_rules|`(tactic|cbv)=>do let h:=Lean.mkIdent `hQq;`(tactic|refine Classical.byContradiction fun $h=>?_)|`(tactic|w_up)=>do let h:=Lean.mkIdent `hQq;`(tactic|(refine $h ?_;clear $h))
local macro_rules|`(tactic|let $p:term:=$t:term)=>do let r<-`(tactic|rcases $t:term with $(⟨Ps 9 p⟩):rcasesPat);`(tactic|first|(guard_target=~False;$r)|(cbv;$r<;>w_up))|`(tactic|let $d:letDecl)=>`(tactic|have $d:letDecl)
local macro_rules|`(tactic|show $t)=>`(tactic|first|refine $t|change $t)
local macro_rules|`(tactic|lk)=>`(tactic|walk_at"dx")
local macro_rules|`(-$x:ident)=>`(($x).length)|`(~~~$x:ident)=>`(($x).heap.objs.size)
namespace _L
open PySem PySem.Spec PyProof.Rows
abbrev Key:=Sum Int ck
abbrev OV:=List (Key×ba)
noncomputable def Am:Key->ba->Bool
 |.inl k,v=>OB k v
 |.inr x,v=>Oo x v
def KC(w:kD):Key->Int
 |.inl k=>Zu k
 |.inr x=>hashStr w x
theorem bj:∀{k:Key}{v:ba},Am k v=Pq->(∃i t,k=Hh i/\v=ir i t)\/(∃x t,k=sK x/\v=F2 x t)
 |.inl i,v,h=>by
  let(t,e):=Value.isInt_shape (k:=i) (v:=v) h;show .inl (i,t,rfl,e)
 |.inr x,v,h=>by
  let(t,e):=NG (x:=x) (v:=v) h;show .inr (x,t,rfl,e)
theorem xp(x:ck)(t:Tok):Am (.inr x) (.str x t)=Pq:=by simp[Am,Oo]
theorem GR(a b:Int):decide ((Hh a:Key)=Hh b)=(a==b):=by by_cases e:a=b;subst e;simp;let h:¬(Hh a:Key)=Hh b:=λq=>e (Sum.inl.inj q);rw[decide_eq_false h];show(beq_eq_false_iff_ne.mpr e).symm
theorem GO(a b:ck):decide ((sK a:Key)=sK b)=decide (a=b):=by by_cases e:a=b;subst e;simp;let h:¬(sK a:Key)=sK b:=λq=>e (D0 q);rw[decide_eq_false h,decide_eq_false e]
theorem GQ(a:Int)(b:ck):decide ((Hh a:Key)=sK b)=Pr:=decide_eq_false (λq=>nomatch q)
theorem GP(a:ck)(b:Int):decide ((sK a:Key)=Hh b)=Pr:=decide_eq_false (λq=>nomatch q)
def cq(prog:ky)(w:kD):PySem.KeyKind prog w Key where
 is := Am
 hash:=KC w
 inj := λv a b d c=>by
  rcases bj d with⟨i,t,rfl,rfl⟩|⟨x,t,rfl,rfl⟩
  rcases bj c with⟨j,u,rfl,e⟩|⟨y,u,rfl,e⟩
  injection e with e1 _;rw[e1];exact nomatch e;rcases bj c with⟨j,u,rfl,e⟩|⟨y,u,rfl,e⟩
  exact nomatch e;injection e with e1 _;rw[e1]
 byValue:=λk v h=>by
  rcases bj h with⟨i,t,rfl,rfl⟩|⟨x,t,rfl,rfl⟩ <;> rfl
 pyHash:=λhv h=>by
  rcases bj hv with⟨i,t,rfl,rfl⟩|⟨x,t,rfl,rfl⟩
  exact wpAny_pyHash_int h;exact wpAny_pyHash_str h
 eqBool:=λf hv h=>by
  rcases bj f with⟨i,t,rfl,rfl⟩|⟨x,t,rfl,rfl⟩
  rcases bj hv with⟨j,u,rfl,rfl⟩|⟨y,u,rfl,rfl⟩
  rw[GR]at h;exact Zy h;rw[GQ]at h;exact Nd i t y u _ _ _ _ h;rcases bj hv with⟨j,u,rfl,rfl⟩|⟨y,u,rfl,rfl⟩
  rw[GP]at h;exact Nc x t j u _ _ _ _ h;rw[GO]at h;exact wpAny_eqBool_str h
 «strs»:=λk x t v h=>by
  rcases bj h with⟨i,u,rfl,e⟩|⟨y,u,rfl,e⟩
  exact nomatch e;injection e with e1 _;subst e1;cases v <;> rfl
theorem cM(prog:ky)(w:kD)(x:ck)(t:Tok):(cq prog w).is (.inr x) (.str x t)=Pq:=xp x t
inductive V where
 |non|bl (b:Bool)|int (i:Int)|str (x:ck)|byt (b:Array UInt8)|flt (b:UInt64)|ref (a:aG)|ty (n:String)
 deriving DecidableEq
abbrev O1:=List (ck×V)
abbrev Pb:=Option V
abbrev Pl:=List V
def br:V->ba->Prop
 |.non,u=>u=dr
 |.bl b,u=>u=r4 b
 |.int i,u=>∃t,u=ir i t
 |.str x,u=>∃t,u=F2 x t
 |.byt b,u=>∃t,u=OD b t
 |.flt b,u=>∃t,u=OC b t
 |.ref a,u=>u=di a
 |.ty n,u=>u=nN n
abbrev aU:Pl->Ph->Prop:=Paired br
theorem aU.length{xs:Pl}{us:Ph}(r:aU xs us):-xs=-us:=Paired.length r
theorem aU.get:∀{xs:Pl}{us:Ph}{i:Nat}{x:V},aU xs us->xs[i]?=Po x->∃u,us[i]?=Po u/\br x u
 |_,_,_,_,.nil,e=>by simp at e
 |_,_,0,_,.cons r _,e=>by simp at e;subst e;show(_,rfl,r)
 |_,_,i+1,x,.cons _ t,e=>by
  let(u,h1,h2):=aU.get (i:=i) (x:=x) t (by simpa using e);show(u,by simpa using h1,h2)
theorem aU.set{x:V}{u:ba}(r:br x u):∀{xs:Pl}{us:Ph} (i:Nat),aU xs us->aU (xs.set i x) (us.set i u)
 |_,_,_,.nil=>.nil
 |_,_,0,.cons _ t=>.cons r t
 |_,_,i+1,.cons q t=>.cons q (aU.set r i t)
theorem aU.append:∀{xs ys:Pl}{us a:Ph},aU xs us->aU ys a->aU (xs++ys) (us++a)
 |_,_,_,_,.nil,s=>s
 |_,_,_,_,.cons r t,s=>.cons r (aU.append t s)
theorem aU.take:∀{xs:Pl}{us:Ph} (n:Nat),aU xs us->aU (xs.take n) (us.take n)
 |_,_,0,_=>.nil
 |_,_,_+1,.nil=>.nil
 |_,_,n+1,.cons r t=>.cons r (aU.take n t)
theorem aU.drop:∀{xs:Pl}{us:Ph} (n:Nat),aU xs us->aU (xs.drop n) (us.drop n)
 |_,_,0,r=>r
 |_,_,_+1,.nil=>.nil
 |_,_,n+1,.cons _ t=>aU.drop n t
def yz:Pb->O3->Prop
 |some v,Po u=>br v u
 |none,Pp=>True
 |_,_=>False
def KV{κ:Type}:List (κ×V)->List (κ×ba)->Prop:=Paired λ(p:κ×V) (q:κ×ba)=>p.1=q.1/\br p.2 q.2
def kV:Key->V
 |.inl i=>.int i
 |.inr x=>.str x
inductive HO where
 |lst (xs:Pl)
 |tup (xs:Pl)
 |dK (kvs:List (Key×V))|dT (kvs:List (List Key×V))
 |set (S:Int->Bool) (n:Nat)
 |ins (C dx:aG) (fs:O1)
 |own (x:aG)
 |xd (fs:O1)
 |met (f x:aG)
 |rng (lo hi:Int)
 |frz (o:Obj) (u:HO)
 |tbl (q:ck)
 |ext (φ:cc->Prop)
abbrev Hp:=aG->Option HO
def Fix:HO->Prop
 |.tup _=>True
 |.frz _ _=>True
 |_=>False
def E4(H:Hp)(h:cc)(a:aG)(q:ck):Prop:=∃ps:O8,h.get? a=Po { cls:=.none,data:=.fields ps }/\TriplesOk ps.toList /\
 ∀pos b,Zk pos ps.toList=Po b->∃c oc u vs t,b=.ref c/\H c=Po (.frz oc u)/\oc.data=.fields vs/\vs[1]?=Po (.str q t)
def upd(H:Hp)(a:aG)(o:HO):Hp:=λb=>if b=a then Po o else H b
theorem aq{H:Hp}{a:aG}{o:HO}:upd H a o a=Po o:=by unfold upd;rw[OG rfl]
theorem ao{H:Hp}{a b:aG}{o:HO}(h:b≠a):upd H a o b=H b:=by unfold upd;rw[OH h]
theorem ay{H:Hp}{a b:aG}{o:HO}(h:H a=Po o)(h':H b=Pp):a≠b:=by intro e;subst e;rw[h]at h';cases h'
def AU(h:cc)(a:aG)(b:O8):Prop:=∃o,h.get? a=Po o/\o.cls=.type "tuple" /\ (∃n,o.data=.seq b n)/\o.dict=Pp
theorem AU.is{h:cc}{a:aG}{b:O8}(p:AU h a b):IsTup h a b:=let ⟨o,e,c,n,_⟩:=p;(o,e,c,n)
theorem AU.lt{h:cc}{a:aG}{b:O8}(p:AU h a b):a<h.objs.size:=p.is.lt
theorem AU.new(h:cc)(items:O8):AU (h.push { cls:=.type "tuple",data:=.seq items }) h.objs.size items:=(_,Lm _ rfl,rfl,(_,rfl),rfl)
section
variable(P:ky) (w:kD)
def cO(H:Hp)(h:cc)(a:aG):HO->Prop
 |.lst xs=>-xs<=sizeLine/\∃(b:Ph) (n:Nat),aU xs b/\h.get? a=Po { cls:=.type "list",data:=.seq b.toArray n }
 |.tup xs=>-xs<=sizeLine/\∃b:Ph,aU xs b/\AU h a b.toArray
 |.dK kvs=>-kvs<=sizeLine/\(a==Qi)=Pr/\∃vs,KV kvs vs/\h.DictOf (cq P w) a vs
 |.dT kvs=>-kvs<=sizeLine/\(a==Qi)=Pr/\∃xs:List (List Key×aG×ba),
   Paired (λ(p:List Key×V) (q:List Key×aG×ba)=>p.1=q.1/\H q.2.1=Po (.tup (p.1.map kV))/\br p.2 q.2.2) kvs xs /\
   ∃o es ep,h.get? a=Po o/\o.ExactDict/\o.data=.dict es ep/\es.toList=xs.map (entryOfKey (tupleKind (cq P w)))/\(xs.map (·.1)).Nodup
 |.set S n=>h.SetOf (QG P w) a S n
 |.ins C dx fs=>H dx=Po (.own a)/\fs.length<=1000/\dx≠a/\h.get? a=Po (i3 C dx) /\
   ∃mA,h.Ns1 dx mA/\(∀f,yz (fs.lookup f) (mA f))/\Nh mA (fs.map (·.1))
 |.own _=>∃o,h.get? a=Po o
 |.xd fs=>∃mA,h.Ns1 a mA/\∀f,yz (fs.lookup f) (mA f)
 |.rng lo hi=>∃t u v,h.get? a=Po { cls:=.type "range",data:=.fields #[.int lo t,.int hi u,.int 1 v] }
 |.frz o u=>h.get? a=Po o/\cO H h a u
 |.tbl q=>E4 H h a q
 |.met f x=>h.get? a=Po (xl (.ref f) (.ref x))
 |.ext φ=>φ h/\(∃o,h.get? a=Po o)/\∀h1 h2:cc,φ h1->(∀o,h1.get? a=Po o->h2.get? a=Po o)->φ h2
def HOk(H:Hp)(h:cc):Prop:=∀a o,H a=Po o->cO P w H h a o
end
section
variable{P:ky}{w:kD}{H H':Hp}{h h':cc}{a:aG}{o:HO}
theorem cO.lt(x:cO P w H h a o):a<h.objs.size:=by
 cases o with
 |lst xs=>let(_,_,_,_,e):=x;show Lh e
 |tup xs=>let(_,_,_,p):=x;show p.lt
 |dK kvs=>let(_,_,_,_,o,_,_,e,_):=x;show Lh e
 |dT kvs=>let(_,_,_,_,o,_,_,e,_):=x;show Lh e
 |set S n=>let(o,_,_,_,e,_):=x;show Lh e
 |ins C dx fs=>let(_,_,_,e,_):=x;show Lh e
 |own y=>let(_,e):=x;show Lh e
 |xd fs=>let(_,(_,_,_,e,_),_):=x;show Lh e
 |rng lo hi=>let(_,_,_,e):=x;show Lh e
 |frz ob u=>let(e,_):=x;show Lh e
 |tbl q=>let(_,e,_):=x;show Lh e
 |met f y=>show Lh (show h.get? a=Po _ from x)
 |ext φ=>let(_,(_,e),_):=x;show Lh e
theorem Paired.mapP{α β:Type}{F G:α->β->Prop}:∀{l₁:List α}{l₂:List β},Paired F l₁ l₂->(∀a b,F a b->G a b)->Paired G l₁ l₂
 |_,_,.nil,_=>.nil
 |_,_,.cons r t,f=>.cons (f _ _ r) (Paired.mapP t f)
theorem cO.stay(x:cO P w H h a o)(k:∀b u,(b=a\/H b=Po (.own a))->h.get? b=Po u->h'.get? b=Po u)
  (ho:∀b,H b=Po (.own a)->H' b=Po (.own a)) (j:∀b o,Fix o->H b=Po o->H' b=Po o):cO P w H' h' a o:=by
 induction o with
 |lst xs=>let(z,g,n,r,e):=x;show(z,g,n,r,k _ _ (.inl rfl) e)
 |tup xs=>let(z,g,r,ob,e,c):=x;show(z,g,r,ob,k _ _ (.inl rfl) e,c)
 |dK kvs=>let(z,y,vs,r,ob,es,ep,e,c):=x;show(z,y,vs,r,ob,es,ep,k _ _ (.inl rfl) e,c)
 |dT kvs =>
  let(z,y,xs,r,ob,es,ep,e,c):=x;show(z,y,xs,Paired.mapP r λp q z=>(z.1,j _ _ trivial z.2.1,z.2.2),ob,es,ep,k _ _ (.inl rfl) e,c)
 |set S n=>let(ob,es,ep,t,e,c):=x;show(ob,es,ep,t,k _ _ (.inl rfl) e,c)
 |ins C dx fs =>
  let(d,z,ne,e,mA,(od,es,ep,e2,c),r):=x;show(ho _ d,z,ne,k _ _ (.inl rfl) e,mA,(od,es,ep,k _ _ (.inr d) e2,c),r)
 |own y=>let(ob,e):=x;show(ob,k _ _ (.inl rfl) e)
 |xd fs=>let(mA,(od,es,ep,e,c),r):=x;show(mA,(od,es,ep,k _ _ (.inl rfl) e,c),r)
 |rng lo hi=>let(t,u,v,e):=x;show(t,u,v,k _ _ (.inl rfl) e)
 |frz ob u ih=>let(e,q):=x;show(k _ _ (.inl rfl) e,ih q)
 |tbl q =>
  let(ps,e,t,c):=x;show(ps,k a _ (.inl rfl) e,t,λpos l i=>let ⟨b,oc,u,vs,t,e1,e2,e3⟩:=c pos l i;(b,oc,u,vs,t,e1,j _ _ trivial e2,e3))
 |met f y =>
  let e:h.get? a=Po (xl (.ref f) (.ref y)):=x;show h'.get? a=Po (xl (.ref f) (.ref y));show k a _ (.inl rfl) e
 |ext φ=>let(p,(o,e),st):=x;show(st _ _ p λo q=>k _ _ (.inl rfl) q,(o,k _ _ (.inl rfl) e),st)
theorem HOk.lt(x:HOk P w H h)(e:H a=Po o):a<h.objs.size:=(x a o e).lt
theorem HOk.fresh(x:HOk P w H h)(e:h.objs.size<=a):H a=Pp:=by
 cases q:H a with
 |none=>rfl
 |some u=>show absurd (Lg (x.lt q) e) (L0 _)
theorem HOk.kept(x:HOk P w H h)(k:∀b u,h.get? b=Po u->h'.get? b=Po u):HOk P w H h':=λa o e =>
 (x a o e).stay (λb u Y q=>k b u q) (λY q=>q) λY Y Y q=>q
theorem HOk.laid(x:HOk P w H h)(k:∀b u,h.get? b=Po u->h'.get? b=Po u)(f:h.objs.size<=a)(new:cO P w (upd H a o) h' a o):HOk P w (upd H a o) h':=λb u e=>by
 let hn:=x.fresh f;by_cases d:b=a;subst d;rw[aq]at e;cases e;show new;rw[ao d]at e;show(x b u e).stay (λc v Y q=>k c v q) (λc q=>by rw[ao (ay q hn)];show q) λc xs Y q=>by rw[ao (ay q hn)];show q
end
def Rd(H:Hp)(a:aG)(u:HO):Prop:=H a=Po u\/∃o,H a=Po (.frz o u)
theorem Rd.ok{P:ky}{w:kD}{H:Hp}{h:cc}{a:aG}{u:HO}(r:Rd H a u)(x:HOk P w H h):cO P w H h a u:=by
 rcases r with r|⟨o,r⟩
 show x a u r;let(_,q):=x a _ r;show q
def Mut:Option HO->Prop
 |some (.lst _)=>True
 |some (.dK _)=>True
 |some (.dT _)=>True
 |some (.set _ _)=>True
 |some (.ins _ _ _)=>True
 |some (.ext _)=>True
 |_=>False
section
variable{P:ky}{w:kD}{H:Hp}{h h':cc}{x e:aG}{o':HO}
theorem HOk.write(ok:HOk P w H h)(i:Mut (H x))(m:e=x\/H e=Po (.own x))(k:∀b u,b≠e->h.get? b=Po u->h'.get? b=Po u)(l:∃u,h'.get? e=Po u)
  (new:cO P w (upd H x o') h' x o'):HOk P w (upd H x o') h':=λb u q=>by
 let d:∀c y,H c=Po (.own y)->c≠x:=λc y r z=>by subst z;rw[r]at i;show i
 let g:∀c o,Fix o->H c=Po o->c≠x:=λc o f r z=>by subst z;rw[r]at i;cases o <;> first|show i|show f
 by_cases j:b=x;subst j;rw[aq]at q;cases q;show new
 .rw[ao j]at q;by_cases a:b=e
  .let n:H b=Po (.own x):=by
    rcases m with z|z;show absurd (a.trans z) j;rw[a];show z
   cbv;rw[q]at n;cases n;let(v,hv):=l
   w_up;show(v,by rw[a];show hv)
  show(ok b u q).stay (λc v hc r=>k c v ?_ r) (λc r=>by rw[ao (d c b r)];show r) λc xs f r=>by rw[ao (g c xs f r)];show r
  rcases hc with rfl|hc;show a;rintro rfl;rcases m with z|z;show d c b hc z;rw[hc]at z;cases z;show j rfl
end
structure Un(fs ex:Pg)(H H':Hp)(h h':cc):Prop where
 keep:∀b o,h.get? b=some o->H b=none->b ∉ fs->b ∉ ex->h'.get? b=some o
 slot:∀b o,h.get? b=some o->H b=none->b∈fs->b ∉ ex->∃sl,h'.get? b=some { o with slots:=sl }
 free:∀b o,h.get? b=some o->H b=none->b ∉ ex->H' b=none
 there:∀b o,h.get? b=some o->b ∉ ex->∃o',h'.get? b=some o'
 tups:∀b xs,H b=some (.tup xs)->H' b=some (.tup xs)
 frzs:∀b o u,H b=some (.frz o u)->H' b=some (.frz o u)
 tbls:∀b q,H b=some (.tbl q)->H' b=some (.tbl q)
section
variable{fs ex:Pg}{H H1:Hp}{h h1 h':cc}{a x e:aG}{o:HO}
theorem Un.any(u:Un fs ex H H1 h h1){b:aG}{ob:Obj}(q:h.get? b=some ob)(n:H b=none)(hx:b ∉ ex):∃sl,h1.get? b=some { ob with slots:=sl }:=by by_cases a:b∈fs;show u.slot b ob q n a hx;show(ob.slots,u.keep b ob q n a hx)
theorem Un.kept(k:∀b u,h.get? b=Po u->h'.get? b=Po u):Un fs ex H H h h' :=
 (λb ob q Y Y Y=>k b ob q,λb ob q Y Y Y=>(ob.slots,k b ob q),λY Y Y n Y=>n,λb ob q Y=>(ob,k b ob q),λY Y q=>q,λY Y Y q=>q,λY Y q=>q)
theorem Un.refl:Un fs ex H H h h:=Un.kept λY Y q=>q
theorem Un.laid(k:∀b u,h.get? b=Po u->h'.get? b=Po u)(c:h.objs.size<=a)(hn:H a=Pp):Un fs ex H (upd H a o) h h' where
 keep:=λb u q Y Y Y=>k b u q
 slot:=λb u q Y Y Y=>(u.slots,k b u q)
 free:=λb u q n Y=>by rw[ao (Lr (Lg (Lh q) c))];show n
 there:=λb u q Y=>(u,k b u q)
 tups:=λb xs q=>by rw[ao (ay q hn)];show q
 frzs:=λb u xs q=>by rw[ao (ay q hn)];show q
 tbls:=λb ps q=>by rw[ao (ay q hn)];show q
theorem Un.write(c:Mut (H x))(i:e=x\/H e=Po (.own x))(k:∀b u,b≠e->h.get? b=Po u->h'.get? b=Po u)(d:∃u,h'.get? e=Po u):Un fs ex H (upd H x o) h h':=by
 let hx:∀b,H b=Pp->b≠x:=λb n z=>by subst z;rw[n]at c;show c
 let g:∀b,H b=Pp->b≠e:=λb n z=>by
  subst z;rcases i with r|r;show hx b n r;rw[n]at r;cases r
 let f:∀b u,H b=Po u->¬Mut (Po u)->b≠x:=λb u q nm z=>by subst z;rw[q]at c;show nm c
 show(λb u q n Y Y=>k b u (g b n) q,λb u q n Y Y=>(u.slots,k b u (g b n) q),λb u q n Y=>by rw[ao (hx b n)];show n,λb u q Y=>?_,
  λb xs q=>by rw[ao (f b _ q λz=>z)];show q,λb u xs q=>by rw[ao (f b _ q λz=>z)];show q,λb ps q=>by rw[ao (f b _ q λz=>z)];show q)
 by_cases a:b=e;subst a;show d;show(u,k b u a q)
end
noncomputable def trk(h:cc)(H:Hp):Pg:=(dm h.objs.size).filter λa=>(H a).isSome
def yJ(h:cc)(H:Hp):cc:=PySem.W.hideAll h (trk h H)
theorem xz(h:cc)(H:Hp):(yJ h H).objs.size=h.objs.size:=PySem.W.hideAll_size _ _
theorem Ar{h:cc}{H:Hp}{b:aG}{o:Obj}(e:h.get? b=Po o)(n:H b=Pp):(yJ h H).get? b=Po o :=
 PySem.W.hideAll_get _ e λa=>by
  let q:(H b).isSome=Pq:=(Ly.mp a).2;rw[n]at q;simp at q
theorem Dw{h:cc}{H:Hp}{b:aG}{o:Obj}(e:(yJ h H).get? b=Po o):h.get? b=Po o/\H b=Pp:=by
 let e':h.get? b=Po o:=PySem.W.of_hideAll (trk h H) e;show(e',?_);cases q:H b with
 |none=>rfl
 |some x =>
  let a:b∈trk h H:=Ly.mpr (LP.mpr (Lh e'),by simp[q]);let z:(yJ h H).get? b=Pp:=PySem.W.hideAll_none (trk h H) a;rw[z]at e;cases e
structure Mod(K:cp)(mg:ck->O3)(base:cc):Prop where
 kin:K.In base
 glob:base.Ns kw mg
 blt:∃mb,base.Ns QC mb/\∀x:ck,x ≠ "__name__" -> mb x=Ql x
 nolimit:base.NoLimit
 bmain:∃bm ob,mg "__builtins__" = some (.ref bm)/\bm≠QC/\base.get? bm=some ob/\ob.cls=.type "module" /\ ob.dict=some QC/\ob.data=.plain
def fq:Pi:=["choices","full_rows","chain_plan","least_ranks"]
def jC(K:cp)(T:aG)(q:ck):Prop:=∃x∈fq,∃f o fd c oc vs,cv K kw x=Po (Po (.ref f))/\K.lookup f=Po o/\o.data=.func fd/\fd.code=.ref c /\
 K.lookup c=Po oc/\oc.data=.fields vs/\vs[11]?=Po (.ref T)/\q=x ++ ".<locals>.<lambda>"
def Cc(K:cp)(H:Hp):Prop:=∀T q,jC K T q->H T=Po (.tbl q)
structure Cx where
 prog:ky
 w : kD
 K : cp
 mg : ck->O3
 base:cc
 A : Around
 N : Pi
 s₀ : bb
 H₀ : Hp
 env:Env
 outer:Pa
 stack:Pa
 ex : Pg
 fn : ck->Bool
 calm:Bool
 pn : OU
 xe : ba->bb->Prop
def frs(l:Pa):Pg:=l.filterMap (·.frame)
abbrev Cx.fs(X:Cx):Pg:=frs X.outer
def Vis(sc:Qc)(x:ck):Prop:=sc.names.lookup x=Po .local\/sc.names.lookup x=Po .cell\/sc.names.lookup x=Po .free
def Loc(sc:Qc)(x:ck):Prop:=sc.names.lookup x=Po .local\/sc.names.lookup x=Po .cell
def KY(env:Env)(h:cc)(m:ck->O3)(x:ck)(u:ba):Prop :=
 (env.kindOf x=Po .local/\m x=Po u)\/((env.kindOf x=Po .cell\/env.kindOf x=Po .free)/\∃c,env.cells.lookup x=Po c/\h.IsCell c (Po u))
structure Cx.Ok(X:Cx):Prop where
 mod:Mod X.K X.mg X.base
 kind:X.env.scope.kind=.function
 glob:X.env.globals=kw
 blt:X.env.builtins=QC
 above:X.s₀.heap.objs.size<=X.env.locals
 inj:∀x y c,X.env.cells.lookup x=some c->X.env.cells.lookup y=some c->x=y
 has:∀x,(X.env.kindOf x=some .cell\/X.env.kindOf x=some .free)->∃c,X.env.cells.lookup x=some c
 cab:∀x c,X.fn x=true->X.env.cells.lookup x=some c->X.s₀.heap.objs.size<=c
 hd : X.calm=true->X.A.handled=none
 frames:X.A.frames=some X.stack
 stk:X.stack=X.outer\/(X.stack=X.env::X.outer/\X.env.frame=some X.env.locals)
 exf:∀b∈X.ex,b≠X.env.locals/\∀x c,X.env.cells.lookup x=some c->c≠b
 bs : ∀b o,X.base.get? b=some o->X.s₀.heap.get? b=some o/\X.H₀ b=none
 bsz:X.base.objs.size<=X.s₀.heap.objs.size
 noex:∀b o,X.base.get? b=some o->b ∉ X.ex
 exfs:∀b∈X.ex,b ∉ X.fs
 funs:X.s₀.heap.FunFrames X.base X.outer
 frf:∀b∈X.fs,X.H₀ b=none
 tab:Cc X.K X.H₀
structure Inv(X:Cx)(pins:OU)(σ:List Pb)(H:Hp)(s:bb):Prop where
 ok : X.Ok
 os : s.os=X.s₀.os
 bare:Q1 s.gens
 base:Un X.fs X.ex X.H₀ H X.s₀.heap s.heap
 loc:∃m,s.heap.Ns X.env.locals m/\∀(i:Nat) (x:ck) (v:V),X.N[i]?=some x->σ[i]?=some (some v)->Vis X.env.scope x->∃u,br v u/\KY X.env s.heap m x u
 cell:∀x c,X.env.cells.lookup x=some c->∃v,s.heap.IsCell c v
 free:H X.env.locals=none
 freeC:∀x c,X.env.cells.lookup x=some c->H c=none
 pin:∀p∈X.pn++pins,s.heap.get? p.1=some p.2/\H p.1=none/\p.1≠X.env.locals/\p.1 ∉ X.fs/\∀v,p.2.data≠.cell v
 hok:HOk X.prog X.w H s.heap
 len:σ.length=X.N.length
section
variable{X:Cx}{pins:OU}{σ:List Pb}{H H':Hp}{s:bb}{h':cc}
theorem Cx.Ok.nofr(ok:X.Ok){b:aG}{o:Obj}(e:X.base.get? b=Po o):b ∉ X.fs:=λa=>by
 let:=(ok.funs.mem a).1;rw[e]at this;cases this
theorem Inv.bs(I:Inv X pins σ H s):∀b o,X.base.get? b=Po o->s.heap.get? b=Po o/\H b=Pp:=λb o e =>
 (I.base.keep b o (I.ok.bs b o e).1 (I.ok.bs b o e).2 (I.ok.nofr e) (I.ok.noex b o e),I.base.free b o (I.ok.bs b o e).1 (I.ok.bs b o e).2 (I.ok.noex b o e))
theorem Inv.bk(I:Inv X pins σ H s):∀b o,X.base.get? b=Po o->s.heap.get? b=Po o:=λb o e=>(I.bs b o e).1
theorem Inv.mod(I:Inv X pins σ H s):Mod X.K X.mg X.base:=I.ok.mod
theorem Inv.kIn(I:Inv X pins σ H s):X.K.In s.heap:=I.ok.mod.kin.keeps I.bk
theorem Inv.lt(I:Inv X pins σ H s):X.env.locals<(~~~s):=let ⟨_,hn,_⟩:=I.loc;hn.lt
theorem Inv.sz(I:Inv X pins σ H s):X.s₀.heap.objs.size<=(~~~s):=Ld I.ok.above (MH I.lt)
theorem Inv.nofs(I:Inv X pins σ H s){a:aG}(h:(~~~s)<=a):a ∉ X.fs:=λb=>by
 let(_,o,ho,_):=I.ok.funs.mem b;show absurd (Lg (Lh ho) (Ld I.sz h)) (L0 _)
theorem Inv.cne(I:Inv X pins σ H s):∀x c,X.env.cells.lookup x=Po c->c≠X.env.locals:=λx c e z=>by
 let(v,o,ho,hd):=I.cell x c e;let(m,(o',es,ep,a,b,_),_):=I.loc;rw[z,a]at ho;cases ho;rw[b]at hd;cases hd
theorem Inv.funs(I:Inv X pins σ H s):s.heap.FunFrames X.base X.outer:=by
 let all:∀(l:Pa),(∀b∈frs l,b∈X.fs)->X.s₀.heap.FunFrames X.base l->s.heap.FunFrames X.base l:=by
  intro l
  induction l with
  |nil=>intro _ _;trivial
  |cons env r ih =>
   intro hs hl;let(hk,(L,o,a,hn,ho,hd),d):=hl;let hL:L∈X.fs:=hs L (by unfold frs;rw[vu,a];show K3);let(sl,e):=I.base.slot L o ho (I.ok.frf L hL) hL λz=>I.ok.exfs L z hL;show(hk,(L,_,a,hn,e,hd),ih (λb c=>hs b (by unfold frs;rw[vu,a];show K5 _ c)) d)
 show all X.outer (λY c=>c) I.ok.funs
theorem Inv.stack(I:Inv X pins σ H s):s.heap.FunFrames X.base X.stack:=by
 rcases I.ok.stk with e|⟨e,a⟩
 rw[e];show I.funs;rw[e];let(m,hn,_):=I.loc;show .cons (by rw[I.ok.kind];decide) a hn ?_ I.funs;show MA (Ld I.ok.bsz I.ok.above)
theorem Inv.stkSub(I:Inv X pins σ H s):∀b∈frs X.stack,b∈X.env.locals::X.fs:=λb a=>by
 rcases I.ok.stk with e|⟨e,c⟩
 rw[e]at a;show K5 _ a;rw[e]at a;unfold frs at a;rw[vu,c]at a;show a
theorem Inv.stkFree(I:Inv X pins σ H s):∀b∈frs X.stack,H b=Pp:=λb a=>by
 rcases K9.mp (I.stkSub b a) with e|a;rw[e];show I.free;let(_,o,ho,_):=I.ok.funs.mem a;show I.base.free b o ho (I.ok.frf b a) λz=>I.ok.exfs b z a
theorem Inv.step{g':Array ZR}{t':Nat}{d':Drawn}{ch:Pg}(I:Inv X pins σ H s)
  (a:∀b∈ch,(b∈X.ex\/X.s₀.heap.objs.size<=b)/\b≠X.env.locals/\(∀x c,X.env.cells.lookup x=some c->c≠b)/\∀p∈X.pn++pins,p.1≠b)
  (keep:∀b o,b≠X.env.locals->b ∉ X.fs->b ∉ ch->s.heap.get? b=some o->H b=none->h'.get? b=some o)
  (slot:∀b o,b≠X.env.locals->b∈X.fs->b ∉ ch->s.heap.get? b=some o->H b=none->∃sl,h'.get? b=some { o with slots:=sl }) (free:∀b o,b ∉ ch->s.heap.get? b=some o->H b=none->H' b=none)
  (there:∀b o,b ∉ ch->s.heap.get? b=some o->∃o',h'.get? b=some o')
  (tups:∀b xs,H b=some (.tup xs)->H' b=some (.tup xs)) (frzs:∀b o u,H b=some (.frz o u)->H' b=some (.frz o u)) (tbls:∀b ps,H b=some (.tbl ps)->H' b=some (.tbl ps))
  (ns:∀m,s.heap.Ns X.env.locals m->h'.Ns X.env.locals m) (hok:HOk X.prog X.w H' h') (C:Q1 g') :
  Inv X pins σ H' { s with heap:=h',gens:=g',drawn:=d',toks:=t' }:=by
 let t:∀b o,X.s₀.heap.get? b=Po o->b≠X.env.locals:=λb o e=>Lr (Lg (Lh e) I.ok.above);let h:∀b o,X.s₀.heap.get? b=Po o->b ∉ X.ex->b ∉ ch:=λb o e hx j=>by
  rcases(a b j).1 with z|z;show hx z;show absurd (Lg (Lh e) z) (L0 _)
 let f:∀x c,X.env.cells.lookup x=Po c->∀v,s.heap.IsCell c v->h'.IsCell c v:=λx c e v ⟨o,ho,hd⟩=>by
  let g:c ∉ ch:=λz=>(a c z).2.2.1 x c e rfl;by_cases hc:c∈X.fs;let(sl,q):=slot c o (I.cne x c e) hc g ho (I.freeC x c e);show(_,q,hd);show(o,keep c o (I.cne x c e) hc g ho (I.freeC x c e),hd)
 show(I.ok,I.os,C,(λb o e n j hx=>?_,λb o e n j hx=>?_,λb o e n hx=>?_,λb o e hx=>?_,λb xs e=>tups b xs (I.base.tups b xs e),λb o xs e=>frzs b o xs (I.base.frzs b o xs e),λb ps e=>?_),?_,λx c e=>?_,?_,λx c e=>?_,λp A=>?_,hok,I.len);show keep b o (t b o e) j (h b o e hx) (I.base.keep b o e n j hx) (I.base.free b o e n hx);let(sl,e1):=I.base.slot b o e n j hx;let(y,e2):=slot b _ (t b o e) j (h b o e hx) e1 (I.base.free b o e n hx);show(y,e2);let(o',e1):=I.base.there b o e hx;show free b o' (h b o e hx) e1 (I.base.free b o e n hx);let(o',e1):=I.base.there b o e hx;show there b o' (h b o e hx) e1;show tbls b ps (I.base.tbls b ps e);let(m,hn,hl):=I.loc;show(m,ns m hn,λi x v e1 e2 e3=>?_);let(u,r,l):=hl i x v e1 e2 e3;show(u,r,?_);rcases l with l|⟨k,c,e,z⟩
 show .inl l;show .inr (k,c,e,f x c e _ z);let(v,z):=I.cell x c e;show(v,f x c e v z);let(m,(o,_,_,ho,_),_):=I.loc;show free _ o (λz=>(a _ z).2.1 rfl) ho I.free;let(v,o,ho,hd):=I.cell x c e;show free c o (λz=>(a c z).2.2.1 x c e rfl) ho (I.freeC x c e);let(e,n,ne,B,d):=I.pin p A;let g:p.1 ∉ ch:=λz=>(a p.1 z).2.2.2 p A rfl;show(keep p.1 p.2 ne B g e n,free p.1 p.2 g e n,ne,B,d)
theorem Inv.un{t':Nat}(I:Inv X pins σ H s)(u:Un X.fs [] H H' s.heap h')(hok:HOk X.prog X.w H' h'):Inv X pins σ H' { s with heap:=h',toks:=t' }:=by
 let(m,(o,es,ep,ho,r),_):=id I.loc;let(sl,hL):=u.any ho I.free (!1);show I.step (g':=s.gens) (d':=s.drawn) (ch:=[]) (λY z=>nomatch z) (λb o Y c Y e n=>u.keep b o e n c (!1)) (λb o Y c Y e n=>u.slot b o e n c (!1)) (λb o Y e n=>u.free b o e n (!1)) (λb o Y e=>u.there b o e (!1)) u.tups u.frzs u.tbls (λi g=>by
  cbv;let(o',d,f,a,h):=g;rw[ho]at a;cases a
  w_up;show(_,d,f,hL,h)) hok I.bare
theorem Inv.call{g':Array ZR}{t':Nat}{d':Drawn}{ch:Pg}(I:Inv X pins σ H s)(u:Un (frs X.stack) ch H H' s.heap h')(hok:HOk X.prog X.w H' h')(h:Q1 g')
  (a:∀b∈ch,(b∈X.ex\/X.s₀.heap.objs.size<=b)/\b≠X.env.locals/\(∀x c,X.env.cells.lookup x=some c->c≠b)/\∀p∈X.pn++pins,p.1≠b) :
  Inv X pins σ H' { s with heap:=h',gens:=g',drawn:=d',toks:=t' }:=by
 let(m,(o,es,ep,ho,r),_):=id I.loc;let(sl,hL):=u.any ho I.free λz=>(a _ z).2.1 rfl;show I.step (ch:=ch) a (λb o hL i hc e n=>u.keep b o e n (λz=>(K9.mp (I.stkSub b z)).elim hL i) hc) (λb o Y Y hc e n=>u.any e n hc) (λb o hc e n=>u.free b o e n hc) (λb o hc e=>u.there b o e hc) u.tups u.frzs u.tbls (λl j=>by
  cbv;let(o',f,g,d,k):=j;rw[ho]at d;cases d
  w_up;show(_,f,g,hL,k)) hok h
theorem Inv.turned{t':Nat}{it:aG}(I:Inv X pins σ H s)(k:∀b o,b≠it->s.heap.get? b=some o->h'.get? b=some o)(hn:H it=none)(hL:it≠X.env.locals)
  (h1:it∈X.ex\/X.s₀.heap.objs.size<=it) (h2:∀x c,X.env.cells.lookup x=some c->c≠it) (d:∀p∈X.pn++pins,p.1≠it):Inv X pins σ H { s with heap:=h',toks:=t' }:=by
 let a:∀b u,H b=Po u->b≠it:=λb u e z=>by rw[z,hn]at e;cases e
 show I.step (g':=s.gens) (d':=s.drawn) (ch:=[it]) (λb f=>?_) (λb o Y Y hc e Y=>k b o (λz=>hc (by simp[z])) e) (λb o Y Y hc e Y=>(o.slots,k b o (λz=>hc (by simp[z])) e)) (λY Y Y Y n=>n)
  (λb o hc e=>(o,k b o (λz=>hc (by simp[z])) e)) (λY Y e=>e) (λY Y Y e=>e) (λY Y e=>e) (λm g=>?_) (λb u e=>?_) I.bare
 let e:b=it:=by simpa using f
 subst e;show(h1,hL,h2,d);let(o,es,ep,ho,r):=g;show(o,es,ep,k _ o (Ne.symm hL) ho,r);show(I.hok b u e).stay (λc v hc q=>k c v ?_ q) (λY q=>q) λY Y Y q=>q;rcases hc with z|z;rw[z];show a b u e;show a c _ z
theorem Inv.tok(I:Inv X pins σ H s)(t:Nat):Inv X pins σ H { s with toks:=t }:=I.un (h':=s.heap) (t':=t) Un.refl I.hok
theorem Inv.kept{t':Nat}(I:Inv X pins σ H s)(k:∀b u,s.heap.get? b=some u->h'.get? b=some u):Inv X pins σ H { s with heap:=h',toks:=t' }:=I.un (Un.kept k) (I.hok.kept k)
theorem Inv.laid{a:aG}{o:HO}{t':Nat}(I:Inv X pins σ H s)(k:∀b u,s.heap.get? b=some u->h'.get? b=some u)(c:s.heap.objs.size<=a)(new:cO X.prog X.w (upd H a o) h' a o) :
  Inv X pins σ (upd H a o) { s with heap:=h',toks:=t' }:=I.un (Un.laid k c (I.hok.fresh c)) (I.hok.laid k c new)
theorem Inv.write{x e:aG}{o:HO}{t':Nat}(I:Inv X pins σ H s)(c:Mut (H x))(d:e=x\/H e=some (.own x))(k:∀b u,b≠e->s.heap.get? b=some u->h'.get? b=some u)(a:∃u,h'.get? e=some u)
  (new:cO X.prog X.w (upd H x o) h' x o):Inv X pins σ (upd H x o) { s with heap:=h',toks:=t' }:=I.un (Un.write c d k a) (I.hok.write c d k a new)
theorem Inv.pins_of{pins':OU}(I:Inv X pins σ H s)(h:∀p∈pins',s.heap.get? p.1=Po p.2/\H p.1=Pp/\p.1≠X.env.locals/\p.1 ∉ X.fs/\∀v,p.2.data≠.cell v):Inv X pins' σ H s :=
 (I.ok,I.os,I.bare,I.base,I.loc,I.cell,I.free,I.freeC,λp a=>(K2.mp a).elim (λz=>I.pin p (K1 _ z)) (h p),I.hok,I.len)
theorem lL{N:Pi}(hN:N.Nodup){i j:Nat}{x:ck}(a:N[i]?=Po x)(b:N[j]?=Po x):i=j:=by let(h1,e1):=Lc.mp a;let(h2,e2):=Lc.mp b;show(List.getElem_inj hN).mp (e1.trans e2.symm)
theorem mD{M:ZF}{A:Around}{E:ba->bb->Prop}{i:Nat}{x:ck}{v:V}{u:ba}{Q:Unit->bb->Prop}(I:Inv X pins σ H s)(hN:X.N.Nodup)(hi:X.N[i]?=some x)(hx:Loc X.env.scope x)(r:br v u)
  (h : ∀s',Inv X pins (σ.set i (some v)) H s'->(∃a,lp a s.heap s'.heap/\(a=X.env.locals\/X.env.cells.lookup x=some a))->Q () s') (T:(X.fn x=true\/X.env.scope.names.lookup x=some .local)⊕'Px):kn M A (storeName X.env x u) Q E s:=by
 let(m,hn,hl):=id I.loc;let C:(X.env.scope.kind==.class ||(X.env.scope.kind==.module&&X.env.locals != X.env.globals))=Pr:=by rw[I.ok.kind];rfl
 let l:i< -σ:=by rw[I.len];show(Lc.mp hi).1
 let cne:=I.cne;let f:∀{a:aG}{h':cc},(∃o,s.heap.get? a=Po o/\H a=Pp)->lp a s.heap h'->HOk X.prog X.w H h':=λ{a h'} U hs b ob e=>by
  let(_,_,g):=U;show(I.hok b ob e).stay (λc w' hc q=>(hs.2 c ?_).trans q) (λ_ q=>q) λ_ _ _ q=>q;rintro rfl;rcases hc with rfl|hc;rw[g]at e;cases e;rw[g]at hc;cases hc
 rcases hx with hk|hk
 .show wpAny_storeName_local hk hn (λh' K hs=>?_) C;let(W,_,_,L,_):=id hn;show h _ (I.ok,I.os,I.bare,(λb o e n t hx=>?_,λb o e n t hx=>?_,I.base.free,λb o e hx=>?_,I.base.tups,I.base.frzs,I.base.tbls),(_,K,λj y v' e1 e2 e3=>?_),λy c e=>?_,I.free,I.freeC,λp O=>?_,f (W,L,I.free) hs,by simpa using I.len) (_,hs,.inl rfl);show(hs.2 b (Lr (Lg (Lh e) I.ok.above))).trans (I.base.keep b o e n t hx);let(sl,e1):=I.base.slot b o e n t hx;show(sl,(hs.2 b (Lr (Lg (Lh e) I.ok.above))).trans e1);let(o',e1):=I.base.there b o e hx;show(o',(hs.2 b (Lr (Lg (Lh e) I.ok.above))).trans e1)
  .by_cases hj:j=i
   .cbv;subst hj;rw[hi]at e1;cases e1;rw[Lp l]at e2;cases e2
    w_up;show(u,r,.inl (hk,!1))
   rw[Lj (Ne.symm hj)]at e2;let(P,R,q):=hl j y v' e1 e2 e3;show(P,R,?_);rcases q with⟨k,e⟩|⟨k,c,e,z⟩
   show .inl (k,?_);let:y≠x:=λe=>hj (lL hN e1 (e▸hi));simp[this,e];show .inr (k,c,e,z.sameBut hs (cne y c e))
  let(w',z):=I.cell y c e;show(w',z.sameBut hs (cne y c e));let(e,n,ne,S,d):=I.pin p O;show((hs.2 p.1 ne).trans e,n,ne,S,d)
 .let B:X.fn x=Pq:=by
   rcases T with z|z;show z;rw[z]at hk;cases hk
  let(c,hc):=I.ok.has x (.inl hk);let(w',z):=I.cell x c hc;show wpAny_storeName_cell I.ok.kind hk hc z (λh' D hs=>?_);let(oc,F,G):=id z;show h { s with heap:=h' } (I.ok,I.os,I.bare,(λb o e n t hx=>?_,λb o e n t hx=>?_,I.base.free,λb o e hx=>?_,I.base.tups,I.base.frzs,I.base.tbls),(m,hn.sameBut hs (Ne.symm (cne x c hc)),λj y v' e1 e2 e3=>?_),λy c' e=>?_,I.free,I.freeC,λp O=>?_,f (oc,F,I.freeC x c hc) hs,by simpa using I.len) (c,hs,.inr hc);show(hs.2 b (Lr (Lg (Lh e) (I.ok.cab x c B hc)))).trans (I.base.keep b o e n t hx);let(sl,e1):=I.base.slot b o e n t hx;show(sl,(hs.2 b (Lr (Lg (Lh e) (I.ok.cab x c B hc)))).trans e1);let(o',e1):=I.base.there b o e hx;show(o',(hs.2 b (Lr (Lg (Lh e) (I.ok.cab x c B hc)))).trans e1)
  .by_cases hj:j=i
   .cbv;subst hj;rw[hi]at e1;cases e1;rw[Lp l]at e2;cases e2
    w_up;show(u,r,.inr (.inl hk,c,hc,D))
   rw[Lj (Ne.symm hj)]at e2;let(P,R,q):=hl j y v' e1 e2 e3;show(P,R,?_);rcases q with q|⟨k,c',e,Y⟩
   show .inl q;show .inr (k,c',e,Y.sameBut hs ?_);rintro rfl;show hj (lL hN e1 (I.ok.inj _ _ _ e hc▸hi))
  by_cases J:c'=c;subst J;show(_,D);let(Z,z2):=I.cell y c' e;show(Z,z2.sameBut hs J);let(e,n,ne,S,d):=I.pin p O;show((hs.2 p.1 ?_).trans e,n,ne,S,d);intro q;rw[q,F]at e;let q':oc=p.2:=du e;show d w' (by rw[<-q'];show G)
theorem iH{M:ZF}{A:Around}{E:ba->bb->Prop}{i:Nat}{x:ck}{v:V}{u:ba}{Q:Unit->bb->Prop}(I:Inv X pins σ H s)(hN:X.N.Nodup)(hi:X.N[i]?=some x)(hx:Loc X.env.scope x)(r:br v u)
  (h : ∀s',Inv X pins (σ.set i (some v)) H s'->Q () s') (a:(X.fn x=true\/X.env.scope.names.lookup x=some .local)⊕'Px):kn M A (storeName X.env x u) Q E s :=
 mD I hN hi hx r (λs' b Y=>h s' b) a
theorem Inv.call'{s':bb}{ch:Pg}(I:Inv X pins σ H s)(ho:s'.os=s.os)(u:Un (frs X.stack) ch H H' s.heap s'.heap)(hok:HOk X.prog X.w H' s'.heap)(d:Q1 s'.gens)
  (a:∀b∈ch,(b∈X.ex\/X.s₀.heap.objs.size<=b)/\b≠X.env.locals/\(∀x c,X.env.cells.lookup x=Po c->c≠b)/\∀p∈X.pn++pins,p.1≠b):Inv X pins σ H' s':=by let(h',g',d',t',o'):=s';let e:o'=s.os:=ho;subst e;show I.call (g':=g') (t':=t') (d':=d') u hok d a
end
abbrev XK:=ba->O4->Hp->Prop
abbrev St:=List Pb
abbrev VK:=V->Hp->Prop
abbrev TE:=St->Hp->VK->Prop
abbrev TT:=St->Hp->(Bool->Hp->Prop)->Prop
abbrev TA:=St->Hp->(Pl->Hp->Prop)->Prop
structure oW where
 nx : St->Hp->Prop
 rt : VK
 bk : St->Hp->Prop:=λ_ _=>False
 ct : St->Hp->Prop:=λ_ _=>False
abbrev TS:=oW->St->Hp->Prop
def EP(X:Cx)(pins:OU)(σ:St)(Q:VK)(u:ba)(s':bb):Prop:=∃v H',Inv X pins σ H' s'/\br v u/\Q v H'
def TP(X:Cx)(pins:OU)(σ:St)(Q:Bool->Hp->Prop)(b:Bool)(s':bb):Prop:=∃H',Inv X pins σ H' s'/\Q b H'
def AP(X:Cx)(pins:OU)(σ:St)(Q:Pl->Hp->Prop)(us:Ph)(s':bb):Prop:=∃vs H',Inv X pins σ H' s'/\aU vs us/\Q vs H'
def SP(X:Cx)(pins:OU)(D:oW)(f:Flow)(s':bb):Prop :=
 match f with
 |.next=>∃σ' H',Inv X pins σ' H' s'/\D.nx σ' H'
 |.brk=>∃σ' H',Inv X pins σ' H' s'/\D.bk σ' H'
 |.cont=>∃σ' H',Inv X pins σ' H' s'/\D.ct σ' H'
 |.ret u=>∃v σ' H',Inv X pins σ' H' s'/\br v u/\D.rt v H'
def PE(X:Cx)(e:bi)(t:TE):Prop :=
 ∀(pins:OU) (s:bb) (σ:St) (H:Hp) (Q:VK),Inv X pins σ H s->t σ H Q->kn (kq X.prog X.w) X.A (eval e X.env) (EP X pins σ Q) X.xe s
def PT(X:Cx)(e:bi)(t:TT):Prop :=
 ∀(pins:OU) (s:bb) (σ:St) (H:Hp) (Q:Bool->Hp->Prop),Inv X pins σ H s->t σ H Q->kn (kq X.prog X.w) X.A (Zg e X.env (eval e X.env)) (TP X pins σ Q) X.xe s
def PW(X:Cx)(e:bi)(t:TT):Prop :=
 ∀(a:Sem ba) (pins:OU) (s:bb) (σ:St) (H:Hp) (Q:Bool->Hp->Prop),Inv X pins σ H s->t σ H Q->kn (kq X.prog X.w) X.A (Zg e X.env a) (TP X pins σ Q) X.xe s
theorem PW.pt{X:Cx}{e:bi}{t:TT}(h:PW X e t):PT X e t:=h _
def PA(X:Cx)(es:Pj)(t:TA):Prop :=
 ∀(pos:Pos) (pins:OU) (s:bb) (σ:St) (H:Hp) (Q:Pl->Hp->Prop),Inv X pins σ H s->t σ H Q->kn (kq X.prog X.w) X.A (spliced (qr pos (kh es X.env))) (AP X pins σ Q) X.xe s
def PS(X:Cx)(st:Stmt)(t:TS):Prop :=
 ∀(pins:OU) (s:bb) (σ:St) (H:Hp) (D:oW),Inv X pins σ H s->t D σ H->kn (kq X.prog X.w) X.A (exec st X.env) (SP X pins D) X.xe s
def PSs(X:Cx)(st:O6)(t:TS):Prop :=
 ∀(pins:OU) (s:bb) (σ:St) (H:Hp) (D:oW),Inv X pins σ H s->t D σ H->kn (kq X.prog X.w) X.A (execs st X.env) (SP X pins D) X.xe s
theorem thn{α:Type}{t:Sem α}{Q b:α->bb->Prop}{M:ZF}{A:Around}{E:ba->bb->Prop}{s:bb}(h:kn M A t Q E s)(c:∀a s,Q a s->b a s):kn M A t b E s:=qD h c λY Y x=>x
section
variable{X:Cx}
def d5(i:Nat):TE:=λσ H Q=>∃v,σ[i]?=Po (Po v)/\Q v H
def tC(v:V):TE:=λY H Q=>Q v H
theorem ah{i:Nat}{x:ck}{pos:Pos}(hN:X.N[i]?=some x)(hv:Vis X.env.scope x)(hd:(x==("__debug__" : ck))=false⊕'Pu)(b:(x==("__classdict__" : ck))=false⊕'Pu):PE X (.Name x pos) (d5 i):=by
 intro pins s σ H Q I h
 cbv;let(v,e,h):=h;let(m,hn,hl):=I.loc;let(u,r,l):=hl i x v hN e hv
 w_up;let fin:EP X pins σ Q u s:=(v,H,I,r,h)
 rcases l with⟨hk,d⟩|⟨hk,c,hc,a⟩
 show wpAny_Name (wpAny_loadName_local I.ok.kind hk hn d fin) hd;rcases hk with hk|hk;show wpAny_Name (wpAny_loadName_cell I.ok.kind hk hc a fin) hd;show wpAny_Name (wpAny_loadName_free I.ok.kind hk hc a fin b) hd
theorem ci{i j pos}:PE X (.Constant (.int i) j pos) (tC (.int i)):=λY Y Y H Y I h=>wpAny_Constant_int (.int i,H,I.tok _,(_,rfl),h)
theorem IN{b j pos}:PE X (.Constant (.bool b) j pos) (tC (.bl b)):=λY Y Y H Y I h=>Constant_bool (.bl b,H,I,rfl,h)
theorem j7{j pos}:PE X (.Constant .none j pos) (tC .non):=λY Y Y H Y I h=>Constant_none (.non,H,I,rfl,h)
theorem Gp{x j pos}:PE X (.Constant (.str x) j pos) (tC (.str x)):=λY Y Y H Y I h=>Calls.Constant_str (.str x,H,I.tok _,(_,rfl),h)
def Gl(X:Cx)(x:ck):Prop:=X.env.kindOf x=Po .globalImplicit
theorem gS{E:ba->bb->Prop}{pins:OU}{s:bb}{σ:St}{H:Hp}{x:ck}{u:ba}{pos:Pos}{Q:ba->bb->Prop}(I:Inv X pins σ H s)(a:Gl X x)(b:X.mg x=some u)(h:Q u s)
  (hd:(x==("__debug__" : ck))=false⊕'Pu):kn (kq X.prog X.w) X.A (eval (.Name x pos) X.env) Q E s :=
 Calls.Name_function_global I.ok.kind a (Calls.loadGlobal_global (by rw[I.ok.glob];show I.mod.glob.keeps I.bk) b h) hd
theorem ie{E:ba->bb->Prop}{pins:OU}{s:bb}{σ:St}{H:Hp}{x:ck}{u:ba}{pos:Pos}{Q:ba->bb->Prop}(I:Inv X pins σ H s)(a:Gl X x)(b:X.mg x=none)(hv:Ql x=some u)(h:Q u s)
  (hn:x ≠ "__name__"⊕'Pu) (hd:(x==("__debug__" : ck))=false⊕'Pu):kn (kq X.prog X.w) X.A (eval (.Name x pos) X.env) Q E s:=by let(mb,h1,h2):=I.mod.blt;show Calls.Name_function_global I.ok.kind a (Calls.loadGlobal_builtin (by rw[I.ok.glob];show I.mod.glob.keeps I.bk) b (by rw[I.ok.blt];show h1.keeps I.bk) ((h2 x hn).trans hv) h) hd
theorem lz{x:ck}{v:V}{u:ba}{pos:Pos}(a:Gl X x)(b:X.mg x=none)(hv:Ql x=some u)(r:br v u)(hn:x ≠ "__name__"⊕'Pu)(hd:(x==("__debug__" : ck))=false⊕'Pu):PE X (.Name x pos) (tC v) :=
 λY Y Y H Y I h=>ie I a b hv (v,H,I,r,h) hn hd
variable{a b:bi}{ta tb:TE}{pos:Pos}
def tB(t:TE):TT:=λσ H Q=>t σ H λx H1=>∃c,x=.bl c/\Q c H1
theorem sh{e:bi}{t:TE}(h:PE X e t)(c:(∀a,Zg e X.env a=(do let v <-a;Qn e.pos;Qf [v] (ZM v)))⊕'Pv):PT X e (tB t):=by
 intro pins s σ H Q I hw;show isTrue_plain (thn (h pins s σ H _ I hw) λv s1 b=>?_) (c _)
 cbv;let(x,H1,f,g,q1):=b;let(d,rfl,q):=q1;cases g
 w_up;show Qd (H1,f,q)
variable{tA tB':TT}{rest:Pj}
def Kt(t u:TT):TT:=λσ H Q=>t σ H λc H1=>if c=Pq then u σ H1 Q else Q Pr H1
def tOr(t u:TT):TT:=λσ H Q=>t σ H λc H1=>if c=Pq then Q Pq H1 else u σ H1 Q
def Kn(t:TT):TT:=λσ H Q=>t σ H λc H1=>Q (!c) H1
theorem wn(b:PT X a tA):PW X (.BoolOp .And [a] pos) tA:=by
 intro wh pins s σ H Q I h;show isTrue_and (thn (b pins s σ H Q I h) λc s1 e=>?_);cases c with
 |true=>show isTrue_and_nil e
 |false=>show e
theorem Gg(b:PT X a tA):PW X (.BoolOp .Or [a] pos) tA:=by
 intro wh pins s σ H Q I h;show isTrue_or (thn (b pins s σ H Q I h) λc s1 e=>?_);cases c with
 |false=>show isTrue_or_nil e
 |true=>show e
theorem Bi(f:PT X a tA)(g:PW X (.BoolOp .And (b::rest) pos) tB'):PW X (.BoolOp .And (a::b::rest) pos) (Kt tA tB'):=by
 intro wh pins s σ H Q I h;show isTrue_and (thn (f pins s σ H _ I h) λc s1 d=>?_);let(H1,e,q1):=d;cases c with
 |true=>show g wh pins s1 σ H1 Q e q1
 |false=>show(H1,e,q1)
theorem IL(f:PT X a tA)(g:PW X (.BoolOp .Or (b::rest) pos) tB'):PW X (.BoolOp .Or (a::b::rest) pos) (tOr tA tB'):=by
 intro wh pins s σ H Q I h;show isTrue_or (thn (f pins s σ H _ I h) λc s1 d=>?_);let(H1,e,q1):=d;cases c with
 |true=>show(H1,e,q1)
 |false=>show g wh pins s1 σ H1 Q e q1
theorem Gh(b:PT X a tA):PT X (.UnaryOp .Not a pos) (Kn tA):=by intro pins s σ H Q I h;show isTrue_not (b pins s σ H (λc H1=>Q (!c) H1) I h)
def Iq(ta tb:TE):TE:=λσ H Q=>ta σ H λx H1=>∃c,x=.bl c/\if c=Pq then tb σ H1 Q else Q (.bl Pr) H1
def Ij(ta:TE):TE:=λσ H Q=>ta σ H λx H1=>∃c,x=.bl c/\Q (.bl (!c)) H1
theorem Gq{op}{t:TE}(h:PE X a t):PE X (.BoolOp op [a] pos) t:=λpins s σ H Q I hw=>BoolOp_one (h pins s σ H Q I hw)
theorem Gv(f:PE X a ta)(g:PE X (.BoolOp .And (b::rest) pos) tb):PE X (.BoolOp .And (a::b::rest) pos) (Iq ta tb):=by
 intro pins s σ H Q I h;show BoolOp_and (thn (f pins s σ H _ I h) λv s1 d=>?_)
 cbv;let(x,H1,e,i,q1):=d;let(c,rfl,q1):=q1;cases i
 w_up;show Qd ?_;cases c with
 |true=>show g pins s1 σ H1 Q e q1
 |false=>show(.bl Pr,H1,e,rfl,q1)
theorem Gr(d:PE X a ta):PE X (.UnaryOp .Not a pos) (Ij ta):=by
 intro pins s σ H Q I h;show UnaryOp_ (thn (d pins s σ H _ I h) λv s1 b=>?_)
 cbv;let(x,H1,e,f,q1):=b;let(c,rfl,q1):=q1;cases f
 w_up;show not_of (Qd (.bl (!c),H1,e,rfl,q1))
def tIf(t:TT)(ta tb:TE):TE:=λσ H Q=>t σ H λc H1=>if c=Pq then ta σ H1 Q else tb σ H1 Q
theorem zt{c:bi}(hc:PT X c tA)(g:PE X a ta)(i:PE X b tb):PE X (.IfExp c a b pos) (tIf tA ta tb):=by
 intro pins s σ H Q I h;show wpAny_IfExp (thn (hc pins s σ H _ I h) λd s1 e=>?_);let(H1,f,q1):=e;cases d with
 |true=>show g pins s1 σ H1 Q f q1
 |false=>show i pins s1 σ H1 Q f q1
end
def SqL(K:cp)(H:Hp)(a:aG)(xs:Pl):Prop :=
 Rd H a (.lst xs) \/
  ∃(o:Obj) (b:O8) (n:Nat),K.lookup a=Po o/\o.cls=.type "list" /\ o.dict=Pp/\o.data=.seq b n/\b.size<=sizeLine/\aU xs b.toList
def SqT(K:cp)(H:Hp)(a:aG)(xs:Pl):Prop :=
 Rd H a (.tup xs) \/
  ∃(o:Obj) (b:O8) (n:Nat),K.lookup a=Po o/\(o.cls=.type "tuple" /\ o.dict=Pp)/\o.data=.seq b n/\b.size<=sizeLine/\aU xs b.toList
noncomputable def KT:ba->Pb
 |.none=>Po .non
 |.bool b=>Po (.bl b)
 |.int i _=>Po (.int i)
 |.str x _=>Po (.str x)
 |.bytes b _=>Po (.byt b)
 |.float b _=>Po (.flt b)
 |.ref a=>Po (.ref a)
 |.type n=>Po (.ty n)
 |_=>Pp
theorem br.abs{x:V}{u:ba}(r:br x u):KT u=Po x:=by
 cases x with
 |non=>cases r;rfl
 |bl _=>cases r;rfl
 |int _=>let(t,rfl):=r;rfl
 |str _=>let(t,rfl):=r;rfl
 |byt _=>let(t,rfl):=r;rfl
 |flt _=>let(t,rfl):=r;rfl
 |ref _=>cases r;rfl
 |ty _=>cases r;rfl
theorem br.inj{x y:V}{u:ba}(r:br x u)(q:br y u):x=y:=du (r.abs.symm.trans q.abs)
theorem aU.inj{xs ys:Pl}{us:Ph}(h:aU xs us):aU ys us->xs=ys:=by
 induction h generalizing ys with
 |nil =>
  intro q;cases q;rfl
 |cons r t ih =>
  intro q;cases q with
  |cons a t'=>rw[r.inj a,ih t']
section
variable{X:Cx}{pins:OU}{σ:St}{H:Hp}{s:bb}{a:aG}{xs ys:Pl}
theorem SqL.of{K:cp}(h:H a=Po (.lst xs)):SqL K H a xs:=.inl (.inl h)
theorem Inv.list(I:Inv X pins σ H s)(h:SqL X.K H a xs):∃b:Ph,aU xs b/\PlainL s.heap a b.toArray/\xs.length<=sizeLine:=by
 rcases h with h|⟨o,b,n,hk,hc,hd,hs,hz,r⟩
 let(z,b,n,r,e):=h.ok I.hok;show(b,r,(_,n,e,rfl,rfl,rfl),z);show(b.toList,r,(o,n,I.kIn a o hk,hc,hd,by simpa using hs),?_);let e:=-r;simp only[ge]at e;lia
theorem Inv.tuple(I:Inv X pins σ H s)(h:SqT X.K H a xs):∃b:Ph,aU xs b/\IsTup s.heap a b.toArray/\xs.length<=sizeLine:=by
 rcases h with h|⟨o,b,n,hk,hc,hs,hz,r⟩
 let(z,b,r,p):=h.ok I.hok;show(b,r,p.is,z);show(b.toList,r,(o,I.kIn a o hk,hc.1,n,by simpa using hs),?_);let e:=-r;simp only[ge]at e;lia
theorem Inv.tupleN(I:Inv X pins σ H s)(h:SqT X.K H a xs):∃b:Ph,aU xs b/\AU s.heap a b.toArray:=by
 rcases h with h|⟨o,b,n,hk,hc,hs,hz,r⟩
 let(z,b,r,p):=h.ok I.hok;show(b,r,p);show(b.toList,r,(o,I.kIn a o hk,hc.1,(n,by simpa using hs),hc.2))
theorem Inv.list_inj(I:Inv X pins σ H s)(h:SqL X.K H a xs)(h':SqL X.K H a ys):xs=ys:=by
 cbv;let(b,r,(o,n,e,_,_,d),_):=I.list h;let(its',c,(o',f,e',_,_,d'),_):=I.list h';rw[e]at e';cases e';rw[d]at d';injection d' with d1 _;let:b=its':=by simpa using congrArg OA d1
 subst this
 w_up;show r.inj c
theorem Inv.tuple_inj(I:Inv X pins σ H s)(h:SqT X.K H a xs)(h':SqT X.K H a ys):xs=ys:=by
 cbv;let(b,r,(o,e,_,n,d),_):=I.tuple h;let(its',c,(o',e',_,f,d'),_):=I.tuple h';rw[e]at e';cases e';rw[d]at d';injection d' with d1 _;let:b=its':=by simpa using congrArg OA d1
 subst this
 w_up;show r.inj c
end
abbrev Cx.wish(X:Cx)(E:ba->bb->Prop):Cx:={ X with xe:=E }
abbrev Cx.nox(X:Cx):Cx:=X.wish λY Y=>False
theorem Cx.Ok.wish{X:Cx}(ok:X.Ok)(E:ba->bb->Prop):(X.wish E).Ok :=
 (ok.mod,ok.kind,ok.glob,ok.blt,ok.above,ok.inj,ok.has,ok.cab,ok.hd,ok.frames,ok.stk,ok.exf,ok.bs,ok.bsz,ok.noex,ok.exfs,ok.funs,ok.frf,ok.tab)
theorem Cx.Ok.unwish{X:Cx}{E:ba->bb->Prop}(ok:(X.wish E).Ok):X.Ok :=
 (ok.mod,ok.kind,ok.glob,ok.blt,ok.above,ok.inj,ok.has,ok.cab,ok.hd,ok.frames,ok.stk,ok.exf,ok.bs,ok.bsz,ok.noex,ok.exfs,ok.funs,ok.frf,ok.tab)
section
variable{X:Cx}{pins:OU}{σ:St}{H:Hp}{s:bb}{E:ba->bb->Prop}
theorem Inv.wish(I:Inv X pins σ H s)(E:ba->bb->Prop):Inv (X.wish E) pins σ H s:=(I.ok.wish E,I.os,I.bare,I.base,I.loc,I.cell,I.free,I.freeC,I.pin,I.hok,I.len)
theorem Inv.unwish(I:Inv (X.wish E) pins σ H s):Inv X pins σ H s:=(I.ok.unwish,I.os,I.bare,I.base,I.loc,I.cell,I.free,I.freeC,I.pin,I.hok,I.len)
theorem SP.unwish{D:oW}{f:Flow}{s':bb}(h:SP (X.wish E) pins D f s'):SP X pins D f s':=by
 cases f with
 |next=>let(σ',H',I,q):=h;show(σ',H',I.unwish,q)
 |brk=>let(σ',H',I,q):=h;show(σ',H',I.unwish,q)
 |cont=>let(σ',H',I,q):=h;show(σ',H',I.unwish,q)
 |ret u=>let(v,σ',H',I,r,q):=h;show(v,σ',H',I.unwish,r,q)
theorem PSs.nox{st:O6}{t:TS}(h:PSs X.nox st t):PSs X st t:=λpins s σ H D I hw =>
 qD (h pins s σ H D (I.wish _) hw) (λY Y q=>q.unwish) λY Y z=>False.elim z
end
section
variable{X:Cx}{st:Stmt}{rest:O6}{t u:TS}{e:bi}{te:TE}{pos:Pos}
def Fx:TS:=λD σ H=>D.nx σ H
def Ig(t u:TS):TS:=λD σ H=>t { D with nx:=u D } σ H
theorem cZ:PSs X [] Fx:=λY Y σ H Y I h=>QT (σ,H,I,h)
theorem a9(h1:PS X st t)(h2:PSs X rest u):PSs X (st::rest) (Ig t u):=by
 intro pins s σ H D I h;show Q6 (thn (h1 pins s σ H { D with nx:=u D } I h) λf s1 q=>?_);cases f with
 |next =>
  let(σ',H',a,q):=q;show h2 pins s1 σ' H' D a q
 |ret v=>show q
 |brk=>show q
 |cont=>show q
theorem aW(h1:PS X st t):PSs X [st] t:=by
 intro pins s σ H D I h;show Q6 (thn (h1 pins s σ H D I h) λf s1 q=>?_);cases f with
 |next=>show QT q
 |ret v=>show q
 |brk=>show q
 |cont=>show q
def Io:TS:=λD σ H=>D.ct σ H
theorem pF:PS X (.Continue pos) Io:=λY Y σ H Y I h=>wpAny_Continue (σ,H,I,h)
theorem Inv.quiet{pins:OU}{σ:St}{H:Hp}{s:bb}(I:Inv X pins σ H s):interactive X.env=Pr:=by simp[interactive,I.ok.kind]
def ub(te:TE):TS:=λD σ H=>te σ H λY H1=>D.nx σ H1
theorem bO(a:PE X e te)(hs:Qv e none pos.line X.env=pure false⊕'Pt):PS X (.Expr e pos) (ub te):=by intro pins s σ H D I h;show wpAny_Expr_any (thn (a pins s σ H _ I h) λv s1 ⟨x,H1,b,c,q1⟩=>(σ,H1,b,q1)) I.quiet hs
def Ih(te:TE):TS:=λD σ H=>te σ H D.rt
theorem gg(a:PE X e te):PS X (.Return (Po e) pos) (Ih te):=by intro pins s σ H D I h;show wpAny_Return_some (thn (a pins s σ H _ I h) λv s1 ⟨x,H1,b,c,q1⟩=>(x,σ,H1,b,c,q1))
def JZ(c:TT)(t u:TS):TS:=λD σ H=>c σ H λb H1=>if b=Pq then t D σ H1 else u D σ H1
theorem i5{c:bi}{a b:O6}{tc:TT}(hc:PT X c tc)(g:PSs X a t)(i:PSs X b u):PS X (.If c a b pos) (JZ tc t u):=by
 intro pins s σ H D I h;show wpAny_If (thn (hc pins s σ H _ I h) λd s1 e=>?_);let(H1,f,q1):=e;cases d with
 |true=>show g pins s1 σ H1 D f q1
 |false=>show i pins s1 σ H1 D f q1
def Fy:TS:=λY Y Y=>False
theorem ln:PS X st Fy:=λY Y Y Y Y Y h=>h.elim
end
abbrev TG:=V->St->Hp->(St->Hp->Prop)->Prop
abbrev TGs:=Pl->St->Hp->(St->Hp->Prop)->Prop
def PG(X:Cx)(a:bi)(t:TG):Prop :=
 ∀(pins:OU) (s:bb) (σ:St) (H:Hp) (v:V) (u:ba) (Q:St->Hp->Prop),Inv X pins σ H s->br v u->t v σ H Q ->
  kn (kq X.prog X.w) X.A (QV a X.env u) (λY s'=>∃σ' H',Inv X pins σ' H' s'/\Q σ' H') X.xe s
def PGs(X:Cx)(ts:Pj)(t:TGs):Prop :=
 ∀(pins:OU) (s:bb) (σ:St) (H:Hp) (vs:Pl) (us:Ph) (Q:St->Hp->Prop),Inv X pins σ H s->aU vs us->t vs σ H Q ->
  kn (kq X.prog X.w) X.A (assignInOrder ((Qg ts X.env).map (·.2)) us) (λY s'=>∃σ' H',Inv X pins σ' H' s'/\Q σ' H') X.xe s
abbrev HC:=V->V->V->Hp->(Hp->Prop)->Prop
def Ia(X:Cx)(t:HC):Prop :=
 ∀(pins:OU) (s:bb) (σ:St) (H:Hp) (o i v:V) (ov iv u:ba) (Q:Hp->Prop),Inv X pins σ H s->br o ov->br i iv->br v u->t o i v H Q ->
  kn (kq X.prog X.w) X.A (ZJ ov iv u) (λY s'=>∃H',Inv X pins σ H' s'/\Q H') X.xe s
abbrev TIp:=V->V->Hp->VK->Prop
def PIp(X:Cx)(op:Zi)(t:TIp):Prop :=
 ∀(pins:OU) (s:bb) (σ:St) (H:Hp) (x y:V) (v u:ba) (Q:VK),Inv X pins σ H s->br x v->br y u->t x y H Q ->
  kn (kq X.prog X.w) X.A (inplaceOp op v u) (EP X pins σ Q) X.xe s
section
variable{X:Cx}{pos:Pos}
def jo(i:Nat):TG:=λv σ H Q=>Q (σ.set i (Po v)) H
theorem fO{i:Nat}{x:ck}(hN:X.N.Nodup)(hi:X.N[i]?=some x)(hx:Loc X.env.scope x)(a:(X.fn x=true\/X.env.scope.names.lookup x=some .local)⊕'Px):PG X (.Name x pos) (jo i):=by intro pins s σ H v u Q I r h;show wpAny_assign_Name (iH I hN hi hx r (λs' b=>(_,H,b,h)) a)
def KL:TGs:=λvs σ H Q=>vs=[]/\Q σ H
def Jq(t:TG)(u:TGs):TGs:=λvs σ H Q=>∃v r,vs=v::r/\t v σ H λσ' H'=>u r σ' H' Q
theorem Dg:PGs X [] KL:=by
 intro pins s σ H vs us Q I r h
 cbv;let(e,h):=h;subst e;cases r
 w_up;show assignInOrder_nil (σ,H,I,h)
theorem zo{e:bi}{es:Pj}{t:TG}{u:TGs}(h1:PG X e t)(h2:PGs X es u)
  (hs:(Qg (e::es) X.env).map (·.2)=QV e X.env::(Qg es X.env).map (·.2)⊕'Pt):PGs X (e::es) (Jq t u):=by
 intro pins s σ H vs us Q I r h;let(v,f,e1,h):=h;subst e1;cases r with
 |cons r c =>
  rw[hs];show assignInOrder_cons (thn (h1 pins s σ H _ _ _ I r h) λY s1 a=>?_);let(b,H1,d,q1):=a;show h2 pins s1 b H1 _ _ Q d c q1
def Kd(K:cp)(n:Nat)(t:TGs):TG:=λv σ H Q=>∃a xs,v=.ref a/\SqT K H a xs/\xs.length=n/\t xs σ H Q
theorem Gn{es:Pj}{k:Nat}{t:TGs}{n:Nat}(hc:X.calm=true)(h:PGs X es t)
  (hn:(Qg es X.env).length=n⊕'Pt) (c:(Qg es X.env).findIdx? (·.1)=none⊕'Pt):PG X (.Tuple es k pos) (Kd X.K n t):=by
 intro pins s σ H v u Q I r hw
 cbv;let(a,xs,e1,f,hl,hw):=hw;subst e1;cases r;let(g,d,i,hz):=I.tuple f
 w_up;show assign_Tuple_tuple (I.ok.hd hc) i (by simp[hn,<-hl,(-d)]) c λh' hx=>?_;let j:Inv X pins σ H { s with heap:=h' }:=I.kept (t':=s.toks) λb o e=>hx b o (Lr (Lh e)) e;show h pins _ σ H xs _ Q j (by simpa using d) hw
def Ke(to ti:TE)(t:HC):TG:=λv σ H Q=>to σ H λo H1=>ti σ H1 λi H2=>t o i v H2 λH3=>Q σ H3
theorem mT{o i:bi}{to ti:TE}{t:HC}(ho:PE X o to)(hi:PE X i ti)(hs:Ia X t)
  (d:(∀v,QV (.Subscript o i pos) X.env v=(do
   let ov <-Qf [v] (eval o X.env)
   let iv <-Qf [v,ov] (eval i X.env)
   Qn pos
   Qf [v,ov,iv] (ZJ ov iv v)
   release [v,ov,iv] []))⊕'Pv):PG X (.Subscript o i pos) (Ke to ti t):=by intro pins s σ H v u Q I r h;rw[d];show jj (qT (thn (ho pins s σ H _ I h) λov s1 a=>?_));let(x,H1,e,f,q1):=a;show jj (qT (thn (hi pins s1 σ H1 _ e q1) λiv s2 b=>?_));let(y,H2,g,j,k):=b;show jj (QE (jj (qT (thn (hs pins s2 σ H2 x y v ov iv u _ g f j r k) λY n c=>?_))));let(H3,l,m):=c;show wpAny_release (σ,H3,l,m)
def E7(te:TE)(g:TG):TS:=λD σ H=>te σ H λx H1=>g x σ H1 D.nx
theorem mS{tg e:bi}{te:TE}{g:TG}(b:PE X e te)(c:PG X tg g)(hs:Q3 [tg] e pos.line X.env=pure false⊕'Pt)(hw:Q4 [tg] e X.env=pure none⊕'Pt)
  (h1:(Qg [tg] X.env).map (·.2)=[QV tg X.env]⊕'Pt):PS X (.Assign [tg] e pos) (E7 te g):=by intro pins s σ H D I h;show wpAny_Assign_stores (thn (b pins s σ H _ I h) λv s1 a=>?_) hs hw;let(x,H1,d,f,q1):=a;rw[h1];show thn (c pins s1 σ H1 x v _ d f q1) λY s2 q=>q
theorem mR{i:Nat}{x:ck}{e:bi}{te:TE}{pos':Pos}(hN:X.N.Nodup)(hi:X.N[i]?=some x)(hx:Loc X.env.scope x)(b:PE X e te)(hs:Qv e (some (.Name x pos')) pos.line X.env=pure false⊕'Pt)(c:(X.fn x=true\/X.env.scope.names.lookup x=some .local)⊕'Px) :
  PS X (.Assign [.Name x pos'] e pos) (E7 te (jo i)):=by intro pins s σ H D I h;show wpAny_Assign_Name (thn (b pins s σ H _ I h) λv s1 a=>?_) hs;let(y,H1,d,f,q1):=a;show iH d hN hi hx f (λs2 g=>(_,H1,g,q1)) c
def Ks(i:Nat)(te:TE)(ti:TIp):TS:=λD σ H=>∃x,σ[i]?=Po (Po x)/\te σ H λy H1=>ti x y H1 λz H2=>D.nx (σ.set i (Po z)) H2
theorem Gj{i:Nat}{x:ck}{e:bi}{te:TE}{op:Zi}{ti:TIp}{pos':Pos}(hN:X.N.Nodup)(hi:X.N[i]?=some x)(hx:Loc X.env.scope x)(n:PE X e te)(ho:PIp X op ti)(o:(X.fn x=true\/X.env.scope.names.lookup x=some .local)⊕'Px) :
  PS X (.AugAssign (.Name x pos') op e pos) (Ks i te ti):=by
 intro pins s σ H D I h;let(v,e1,h):=h;let(m,hn,hl):=I.loc;let f:Vis X.env.scope x:=by rcases hx with k|k;show .inl k;show .inr (.inl k)
 let(u,r,l):=hl i x v hi e1 f;show wpAny_AugAssign_Name ?_;let go:kn (kq X.prog X.w) X.A (eval e X.env) (λw b=>kn (kq X.prog X.w) X.A (inplaceOp op u w) (λr d=>kn (kq X.prog X.w) X.A (storeName X.env x r) (λY=>SP X pins D .next) X.xe d) X.xe b) X.xe s:=by show thn (n pins s σ H _ I h) λw s1 g=>?_;let(y,H1,p,q,q1):=g;show thn (ho pins s1 σ H1 v y u w _ p r q q1) λz s2 j=>?_;let(G,H2,t,B,C):=j;show iH t hN hi hx B (λJ E=>(_,H2,E,C)) o
 rcases l with⟨hk,F⟩|⟨hk,c,hc,a⟩
 show wpAny_loadName_local I.ok.kind hk hn F go;rcases hk with hk|hk;show wpAny_loadName_cell I.ok.kind hk hc a go;rcases hx with k|k;let:X.env.scope.names.lookup x=Po .free:=hk;rw[k]at this;cases this;let:X.env.scope.names.lookup x=Po .free:=hk;rw[k]at this;cases this
def ipI(f:Int->Int->Int):TIp:=λx y H Q=>∃i j,x=.int i/\y=.int j/\Q (.int (f i j)) H
theorem G0:PIp X .Add (ipI λi j=>i+j):=by
 intro pins s σ H x y v u Q I a b h
 cbv;let(i,j,e1,e2,q):=h;subst e1;subst e2;let(t,rfl):=a;let(t',rfl):=b
 w_up;show iadd_int (.int _,H,I.tok _,(_,rfl),q)
end
section
variable{X:Cx}{pos:Pos}
def Fw(c:TT)(tb:TS):TS:=λD σ H=>∃W:Nat->St->Hp->Prop,(∃m,W m σ H)/\∀m σ H,W m σ H ->
 c σ H λb H1=>if b=Pq then ∃N:St->Hp->Prop,(∀σ' H',N σ' H'->∃a,a<m/\W a σ' H')/\tb { D with nx:=N,ct:=N,bk:=D.nx } σ H1 else D.nx σ H1
theorem zk{c:bi}{body:O6}{tc:TT}{tb:TS}(q:PassesOwn (kq X.prog X.w) X.A X.env X.xe)(hc:PT X c tc)(t:PSs X body tb):PS X (.While c body [] pos) (Fw tc tb):=by
 intro pins s σ H D I h;let(W,(u,x),e):=h;show wpAny_While (codeAny_whileLoop (λn s'=>∃σ' H',Inv X pins σ' H' s'/\W n σ' H') ?_ u (σ,H,I,x));rintro n s1 ⟨d,H1,y,z⟩;show Qt q (thn (hc pins s1 d H1 _ y (e n d H1 z)) λb s2 j=>?_);let(H2,r,g):=j;cases b with
 |true =>
  let(N,hN,g):=g;rw[OG rfl];show Qt q (thn (t pins s2 d H2 _ r g) λf B i=>?_);cases f with
  |next =>
   let(a,H3,k,l):=i;let(m,o,p):=hN a H3 l;show(m,o,a,H3,k,p)
  |cont =>
   let(a,H3,k,l):=i;let(m,o,p):=hN a H3 l;show(m,o,a,H3,k,p)
  |brk=>show i
  |ret v=>show i
 |false =>
  rw[OH Lq];show QT (d,H2,r,g)
end
structure It where
 go : Nat->Hp->Prop
 yld:Nat->Hp->V->Hp->Prop
 stop:Nat->Hp->Prop
def jD(X:Cx)(pins:OU)(H:Hp)(b:aG):Prop :=
 H b=Pp/\b≠X.env.locals/\b ∉ X.fs/\(b∈X.ex\/X.s₀.heap.objs.size<=b)/\(∀x c,X.env.cells.lookup x=Po c->c≠b)/\∀p∈X.pn++pins,p.1≠b
theorem Inv.fpOk{X:Cx}{pins:OU}{σ:St}{H H':Hp}{s:bb}{b:aG}(I:Inv X pins σ H s)(a:(~~~s)<=b)(hn:H' b=Pp):jD X pins H' b:=by show(hn,L9 (Lg I.lt a),I.nofs a,.inr (Ld I.sz a),λx c e z=>?_,λp d z=>?_);let(v,q):=I.cell x c e;show absurd (Lg q.lt (by rw[z];show a)) (L0 _);show absurd (Lg (Lh (I.pin p d).1) (by rw[z];show a)) (L0 _)
structure Ff(P:ky)(w:kD)(K:cp)(tg:bi)(J:It)(fp:Pg)(it:aG)(tn:Nat->cc->Prop):Prop where
 mem:it∈fp
 obj:∀i h,tn i h->∀b∈fp,∃o,h.get? b=some o/\∀v,o.data≠.cell v
 keep:∀i h h',tn i h->(∀b∈fp,∀o,h.get? b=some o->h'.get? b=some o)->tn i h'
 item:∀(X:Cx),X.prog=P->X.w=w->X.K=K->X.calm=true->∀(i:Nat) (pins:OU) (s:bb) (σ:St) (H:Hp) (E:ba->bb->Prop),Inv X pins σ H s->(∀b∈fp,jD X pins H b)->tn i s.heap->J.go i H ->
  kn (kq P w) X.A (Zp (.ref it)) (λr s1=>∃u,r=some u /\
   kn (kq P w) X.A (Zc tg (.ref it) u) (λ_ s2=>∃x H',Inv X pins σ H' s2/\br x u/\J.yld i H x H'/\tn (i+1) s2.heap/\∀b∈fp,H' b=none) E s1) E s
 done:∀(X:Cx),X.prog=P->X.w=w->X.K=K->X.calm=true->∀(i:Nat) (pins:OU) (s:bb) (σ:St) (H:Hp) (E:ba->bb->Prop),Inv X pins σ H s->(∀b∈fp,jD X pins H b)->tn i s.heap->J.stop i H ->
  kn (kq P w) X.A (Zp (.ref it)) (λr s1=>r=none/\Inv X pins σ H s1) E s
 self:∀(A:Around) (i:Nat) (s:bb) (Q:ba->bb->Prop) (E:ba->bb->Prop),tn i s.heap->Q (.ref it) s->kn (kq P w) A (Z4 (.ref it)) Q E s
abbrev TI:=St->Hp->(It->Hp->Prop)->Prop
def PIE(X:Cx)(pins:OU)(σ:St)(tg:bi)(R:It->Hp->Prop)(a:ba)(s2:bb):Prop :=
 ∃(it:aG) (fp:Pg) (tn:Nat->cc->Prop) (J:It) (H':Hp),a=.ref it/\Inv X pins σ H' s2/\Ff X.prog X.w X.K tg J fp it tn/\tn 0 s2.heap/\(∀b∈fp,jD X pins H' b)/\R J H'
def PI(X:Cx)(tg iter:bi)(a:TI):Prop :=
 ∀(pins:OU) (s:bb) (σ:St) (H:Hp) (R:It->Hp->Prop),Inv X pins σ H s->a σ H R ->
  kn (kq X.prog X.w) X.A (eval iter X.env) (λv s1=>kn (kq X.prog X.w) X.A (Z4 v) (PIE X pins σ tg R) X.xe s1) X.xe s
theorem D7{M:ZF}{A:Around}{E:ba->bb->Prop}{s:bb}{tg:bi}{it:aG}{u:ba}{o:Obj}{n:String}{vs:O8}{Q:Unit->bb->Prop}(ho:s.heap.get? it=Po o)(hc:o.cls=.type n)(hd:o.data=.fields vs)
    (hn:["enumerate","zip","dict_itemiterator","dict_reverseitemiterator","odict_iterator","itertools.zip_longest","itertools.pairwise"].contains n=Pr) (a:Q () s):kn M A (Zc tg (.ref it) u) Q E s:=by
  unfold Zc;cases tg <;> first
    |show kf a
    | (cases u <;> first
        |show kf a
        | (show jj (wpAny_load ho ?_)
           rw[hc,hd];show kn M A (if (["enumerate","zip","dict_itemiterator","dict_reverseitemiterator","odict_iterator","itertools.zip_longest","itertools.pairwise"].contains n&&vs[0]?==Po (Qk _))=Pq then _ else _) Q E s;rw[OH (by intro h;rw[hn,Bool.false_and]at h;cases h)];show kf a))
def Itl(K:cp)(a:aG):It :=
 (λi H=>∃xs x,SqL K H a xs/\xs[i]?=Po x,λi H x H'=>H'=H/\∀xs,SqL K H a xs->xs[i]?=Po x,λi H=>∃xs,SqL K H a xs/\xs.length<=i)
def Itt(K:cp)(a:aG):It :=
 (λi H=>∃xs x,SqT K H a xs/\xs[i]?=Po x,λi H x H'=>H'=H/\∀xs,SqT K H a xs->xs[i]?=Po x,λi H=>∃xs,SqT K H a xs/\xs.length<=i)
def Itr(lo:Int)(n:Nat):It:=(λi Y=>i<n,λi H x H'=>H'=H/\x=.int (lo+i),λi Y=>n<=i)
theorem vc{P:ky}{w:kD}{K:cp}{tg:bi}(a it:aG):Ff P w K tg (Itl K a) [it] it (λi h=>h.IsListIter it a i) where
 mem:=!1
 obj:=λi h st b f=>by
  let e:b=it:=by simpa using f
  subst e;let(o,e,c,d):=st;show(o,e,λv z=>by rw[d]at z;cases z)
 keep:=λi h h' st k=>st.at λo e=>k it (!1) o e
 item:=by
  intro X m hw hK hc i pins s σ H E I j st n
  cbv;subst m hw hK;let(xs,x,l,hx):=n;let(q,r,p,hz):=I.list l;let(u,D,F):=r.get hx;let(t,y,G,A,B,C):=j it (!1)
  w_up;show wpAny_pyNext_list_item st p.isList (x:=u) (by simpa using D) λh' g J=>?_;let L:Inv X pins σ H { s with heap:=h' }:=I.turned (t':=s.toks) (λb o f e=>(J.2 b f).trans e) t y A B C;let(o,e,c,d):=id g;show(u,rfl,D7 (s:={ s with heap:=h' }) e c d (!2) (x,H,L,F,(rfl,λys M=>by rw[I.list_inj M l];show hx),g,λb f=>(j b f).1))
 done:=by
  intro X m hw hK hc i pins s σ H E I j st n
  cbv;subst m hw hK;let(xs,l,hx):=n;let(q,r,p,hz):=I.list l;let(t,y,G,A,B,C):=j it (!1)
  w_up;let hl:=-r;show wpAny_pyNext_list_end (I.ok.hd hc) st p.isList (by simp;lia) λh' N=>(rfl,I.turned (t':=s.toks) (λb o f e=>N b o f e) t y A B C)
 self:=λY Y Y Y Y st h=>wpAny_pyIter_listiter st h
theorem t9{P:ky}{w:kD}{K:cp}{tg:bi}(a it:aG):Ff P w K tg (Itt K a) [it] it (λi h=>h.IsTupleIter it a i) where
 mem:=!1
 obj:=λi h st b f=>by
  let e:b=it:=by simpa using f
  subst e;let(o,e,c,d):=st;show(o,e,λv z=>by rw[d]at z;cases z)
 keep:=λi h h' st k=>st.at λo e=>k it (!1) o e
 item:=by
  intro X n hw hK hc i pins s σ H E I l st q
  cbv;subst n hw hK;let(xs,x,m,hx):=q;let(g,r,p,hz):=I.tuple m;let(u,D,F):=r.get hx;let(t,y,G,A,B,C):=l it (!1)
  w_up;show wpAny_pyNext_tuple_item st (show s.heap.IsTuple a g.toArray from p) (x:=u) (by simpa using D) λh' j J=>?_;let L:Inv X pins σ H { s with heap:=h' }:=I.turned (t':=s.toks) (λb o f e=>(J.2 b f).trans e) t y A B C;let(o,e,c,d):=id j;show(u,rfl,D7 (s:={ s with heap:=h' }) e c d (!2) (x,H,L,F,(rfl,λys M=>by rw[I.tuple_inj M m];show hx),j,λb f=>(l b f).1))
 done:=by
  intro X n hw hK hc i pins s σ H E I l st q
  cbv;subst n hw hK;let(xs,m,hx):=q;let(g,r,p,hz):=I.tuple m;let(t,y,G,A,B,C):=l it (!1)
  w_up;let hl:=-r;show wpAny_pyNext_tuple_end (I.ok.hd hc) st (show s.heap.IsTuple a g.toArray from p) (by simp;lia) λh' N=>(rfl,I.turned (t':=s.toks) (λb o f e=>N b o f e) t y A B C)
 self:=λY Y Y Y Y st h=>wpAny_pyIter_tupleiter st h
theorem ua{P:ky}{w:kD}{K:cp}{tg:bi}(it:aG)(lo:Int)(n:Nat):Ff P w K tg (Itr lo n) [it] it (λi h=>IsRangeIter h it (lo+(i:Nat)*1) ((n:Int)-(i:Nat)) 1) where
 mem:=!1
 obj := λi h st b a=>by
  let e:b=it:=by simpa using a
  subst e;show(_,st,λv z=>by
   let r:Data.fields _=Data.cell v:=z;cases r)
 keep:=λi h h' st k=>k it (!1) _ st
 item:=by intro X f hw hK hc i pins s σ H E I d st g;subst f hw hK;let(j,l,u,m,p,q):=d it (!1);let W:=Walks.range (prog:=X.prog) (w:=X.w) (I.ok.hd hc) it lo 1 n;show W.item i s _ _ g st λv h' tk hv c x=>?_;let(t,rfl):=hv;let y:Inv X pins σ H { s with heap:=h',toks:=tk }:=I.turned (λb o a e=>x b o (by simpa using a) e) j l m p q;show(_,rfl,D7 (s:={ s with heap:=h',toks:=tk }) (n := "range_iterator") c rfl rfl (!2) (.int (lo+i),H,y,(t,?_),(rfl,rfl),c,λb a=>(d b a).1));rw[Int.mul_one]
 done:=by intro X f hw hK hc i pins s σ H E I d st g;subst f hw hK;let(j,l,u,m,p,q):=d it (!1);show wpAny_pyNext_range_end (I.ok.hd hc) st (by let:n<=i:=g;lia) λh' A=>(rfl,I.turned (t':=s.toks) (λb o a e=>A b o a e) j l m p q)
 self:=λY Y Y Y Y st h=>wpAny_pyIter_rangeiter st h
section
variable{X:Cx}{tg:bi}
def D5(K:cp)(tl:TE):TI:=λσ H R=>tl σ H λx H1=>∃a,x=.ref a/\(∃xs,SqL K H1 a xs)/\R (Itl K a) H1
def KK(K:cp)(tl:TE):TI:=λσ H R=>tl σ H λx H1=>∃a,x=.ref a/\(∃xs,SqT K H1 a xs)/\R (Itt K a) H1
theorem gM{l:bi}{tl:TE}(hl:PE X l tl):PI X tg l (D5 X.K tl):=by
 intro pins s σ H R I h;show thn (hl pins s σ H _ I h) λv s1 d=>?_
 cbv;let(x,H1,c,f,q1):=d;let(a,e,(xs,g),q):=q1;subst e;cases f;let(i,k,p,hz):=c.list g
 w_up;show QZ p.isList ?_;show((~~~s1),[(~~~s1)],_,_,H1,rfl,c.kept (t':=s1.toks) λb o e=>La _ e,vc a _,(_,Lm _ rfl,rfl,rfl),λb j=>?_,q);let e:b=(~~~s1):=by simpa using j
 subst e;show c.fpOk (Lf _) (c.hok.fresh (Lf _))
theorem Gm{l:bi}{tl:TE}(hl:PE X l tl):PI X tg l (KK X.K tl):=by
 intro pins s σ H R I h;show thn (hl pins s σ H _ I h) λv s1 d=>?_
 cbv;let(x,H1,c,g,q1):=d;let(a,e,(xs,i),q):=q1;subst e;cases g;let(f,k,p,hz):=c.tuple i
 w_up;show wpAny_pyIter_tuple (show s1.heap.IsTuple a f.toArray from p) ?_;show((~~~s1),[(~~~s1)],_,_,H1,rfl,c.kept (t':=s1.toks) λb o e=>La _ e,t9 a _,(_,Lm _ rfl,rfl,rfl),λb j=>?_,q);let e:b=(~~~s1):=by simpa using j
 subst e;show c.fpOk (Lf _) (c.hok.fresh (Lf _))
theorem r9{pins:OU}{σ:St}{H:Hp}{s:bb}{R:It->Hp->Prop}{E:ba->bb->Prop}{lo hi:Int}{t u v:Tok}{tk:Nat}(I:Inv X pins σ H s)(h1:-(2 ^ 62)<=lo)(h2:lo<2 ^ 62)(c:-(2 ^ 62)<=hi)(d:hi<2 ^ 62)
  (q : R (Itr lo (hi-lo).toNat) H):kn (kq X.prog X.w) X.A (Z4 (.ref s.heap.objs.size)) (PIE X pins σ tg R) E { s with heap:=s.heap.push { cls:=.type "range",data:=.fields #[.int lo t,.int hi u,.int 1 v] },toks:=tk }:=by
 show wpAny_pyIter_range (IsRange.new ..) (small_one h1 h2 c d) ?_;let a:Inv X pins σ H { s with heap:=s.heap.push { cls:=.type "range",data:=.fields #[.int lo t,.int hi u,.int 1 v] },toks:=tk }:=I.kept λb o e=>La _ e;show((s.heap.push { cls:=.type "range",data:=.fields #[.int lo t,.int hi u,.int 1 v] }).objs.size,[(s.heap.push { cls:=.type "range",data:=.fields #[.int lo t,.int hi u,.int 1 v] }).objs.size],_,_,H,rfl,
  a.kept (t':=tk) λb o e=>La _ e,ua _ lo (hi-lo).toNat,?_,λb f=>?_,q)
 let e1:lo+((0:Nat):Int)*1=lo:=!1
 let e2:(((hi-lo).toNat:Nat):Int)-((0:Nat):Int)=Builtin.Range.rangeSize lo hi 1:=by rw[rangeSize_one];split <;> lia
 show IsRangeIter _ _ (lo+((0:Nat):Int)*1) ((((hi-lo).toNat:Nat):Int)-((0:Nat):Int)) 1;rw[e1,e2];show Lm _ rfl;let e:b=(s.heap.push { cls:=.type "range",data:=.fields #[.int lo t,.int hi u,.int 1 v] }).objs.size:=by simpa using f
 subst e;show a.fpOk (Lf _) (a.hok.fresh (Lf _))
def Jm(ta:TA):TI:=λσ H R=>ta σ H λvs H1=>∃j:Int,vs=[.int j]/\-(2 ^ 62)<=j/\j<2 ^ 62/\R (Itr 0 j.toNat) H1
def Jl(ta:TA):TI:=λσ H R=>ta σ H λvs H1=>∃i j:Int,vs=[.int i,.int j]/\(-(2 ^ 62)<=i/\i<2 ^ 62/\-(2 ^ 62)<=j/\j<2 ^ 62)/\R (Itr i (j-i).toNat) H1
theorem wB{a:bi}{ta:TA}{p pos:Pos}(c:Gl X "range")(d:X.mg "range" = none)(f:PA X [a] ta)(hs:kh [a] X.env=[(false,eval a X.env)]⊕'Pt):PI X tg (.Call (.Name "range" p) [a] [] pos) (Jm ta):=by
 intro pins s σ H R I h;show Call_ (ie I c d boot_range (lA (thn (f pos pins s σ H _ I h) λus s1 b=>?_) hs rfl))
 cbv;let(vs,H1,g,i,q1):=b;let(j,e,q1,k,q):=q1;subst e
 w_up;cases i with
 |cons r l =>
  cbv;cases l;let(t,rfl):=r
  w_up;show call_range_1 (r9 g (!0) (!0) q1 k (by simpa using q))
theorem wA{a b:bi}{ta:TA}{p pos:Pos}(g:Gl X "range")(k:X.mg "range" = none)(l:PA X [a,b] ta)(hs:kh [a,b] X.env=[(false,eval a X.env),(false,eval b X.env)]⊕'Pt)(c:kh [b] X.env=[(false,eval b X.env)]⊕'Pt) :
  PI X tg (.Call (.Name "range" p) [a,b] [] pos) (Jl ta):=by
 intro pins s σ H R I h;show Call_ (ie I g k boot_range (lA (thn (l pos pins s σ H _ I h) λus s1 d=>?_) (by rw[hs,c]) (by rw[c];rfl)))
 cbv;let(vs,H1,m,n,q1):=d;let(i,j,e,(q1,o,u,v),q):=q1;subst e
 w_up;cases n with
 |cons r f =>
  cases f with
  |cons w f =>
   cbv;cases f;let(t,rfl):=r;let(t',rfl):=w
   w_up;show call_range_2 (r9 m q1 o u v q)
def J0(c:TI)(g:TG)(tb:TS):TS:=λD σ H=>c σ H λJ H1=>∃W:Nat->Nat->St->Hp->Prop,(∃m,W 0 m σ H1)/\∀i m σ H,W i m σ H ->
 (J.stop i H/\D.nx σ H)\/(J.go i H/\∃N:St->Hp->Prop,(∀σ' H',N σ' H'->∃b,b<m/\W (i+1) b σ' H')/\∀x H',J.yld i H x H'->g x σ H' λa H2=>tb { D with nx:=N,ct:=N,bk:=D.nx } a H2)
def gZ(fp:Pg)(h:cc):OU:=fp.filterMap λb=>(h.get? b).map λo=>(b,o)
theorem fm{fp:Pg}{h:cc}{b:aG}{o:Obj}(a:b∈fp)(e:h.get? b=Po o):(b,o)∈gZ fp h:=N2.mpr (b,a,by rw[e];rfl)
theorem mY{fp:Pg}{h:cc}{p:aG×Obj}(a:p∈gZ fp h):p.1∈fp/\h.get? p.1=Po p.2:=by
 let(b,c,e):=N2.mp a;cases q:h.get? b with
 |none=>rw[q]at e;cases e
 |some o =>
  rw[q]at e;let e':(b,o)=p:=du e;subst e';show(c,q)
theorem Inv.pinned{pins:OU}{σ:St}{H:Hp}{s:bb}{fp:Pg}(I:Inv X pins σ H s)(c:∀b∈fp,jD X pins H b)(ho:∀b∈fp,∃o,s.heap.get? b=Po o/\∀v,o.data≠.cell v):Inv X (pins++gZ fp s.heap) σ H s :=
 I.pins_of λp f=>(K2.mp f).elim (λz=>I.pin p (K0 _ z)) λz=>by
  cbv;let(a,e):=mY z;let(g,h,i,_):=c p.1 a;let(o,e',d):=ho p.1 a;rw[e]at e';cases e'
  w_up;show(e,g,h,i,d)
theorem Inv.unpinned{pins pl:OU}{σ:St}{H:Hp}{s:bb}(I:Inv X (pins++pl) σ H s):Inv X pins σ H s:=I.pins_of λp a=>I.pin p (K0 _ (K1 _ a))
theorem si{iter:bi}{body:O6}{U:TI}{g:TG}{tb:TS}{pos:Pos}(y:PassesOwn (kq X.prog X.w) X.A X.env X.xe)(hc:X.calm=true)(hi:PI X tg iter U)(hg:PG X tg g)(c:PSs X body tb)
  (hs:(∀x,q4 iter X.env x=pure x)⊕'Pv):PS X (.For tg iter body [] pos) (J0 U g tb):=by
 intro pins s σ H D I h;show wpAny_For (thn (hi pins s σ H _ I h) λv s1 h1=>thn h1 λa0 s2 h2=>?_) hs;let(it,fp,tn,J,H2,e,I2,T,F,V,W,(m0,w0),z):=h2;subst e;let j:∀{H':Hp},(∀b∈fp,H' b=Pp)->∀b∈fp,jD X pins H' b:=λhn b c=>(hn b c,(V b c).2)
 show codeAny_forLoop_any (λn s'=>∃i σ' H',Inv X pins σ' H' s'/\tn i s'.heap/\(∀b∈fp,H' b=Pp)/\W i n σ' H') ?_ m0 (0,σ,H2,I2,F,λb c=>(V b c).1,w0);rintro n Y ⟨i,k,H3,Z,B,C,w3⟩;rcases z i n k H3 w3 with⟨stop,qn⟩|⟨go,N,hN,step⟩
 .show Qt y (thn (T.done X rfl rfl rfl hc i pins Y k H3 X.xe Z (j C) B stop) λr s4 G=>?_);let(K,I4):=G;subst K;show QT (k,H3,I4,qn)
 .show Qt y (thn (T.item X rfl rfl rfl hc i pins Y k H3 X.xe Z (j C) B go) λr s4 L=>?_);let(u,K,h4):=L;subst K;show Qt y (thn h4 λ_ s5 M=>?_);let(x,H5,I5,r5,y5,t,O):=M;let P:=I5.pinned (j O) (T.obj _ _ t);show Qt y (thn (hg _ s5 k H5 x u _ P r5 (step x H5 y5)) λ_ s6 Q=>?_);let(R,H6,I6,q6):=Q;show Qt y (thn (c _ s6 R H6 _ I6 q6) λf S q=>?_);let again:∀{a:St}{l:Hp},Inv X (pins++gZ fp s5.heap) a l S->N a l->∃m,m<n/\∃i σ' H',Inv X pins σ' H' S/\tn i S.heap/\(∀b∈fp,H' b=Pp)/\W i m σ' H':=λ{a l} p E=>by
   let(m',hm,w7):=hN a l E;show(m',hm,i+1,a,l,p.unpinned,T.keep _ _ _ t λb c o e=>(p.pin (b,o) (K0 _ (K0 _ (fm c e)))).1,λb c=>?_,w7);let(o,e,d):=T.obj _ _ t b c;show(p.pin (b,o) (K0 _ (K0 _ (fm c e)))).2.1
  cases f with
  |next=>let(a,l,p,E):=q;show again p E
  |cont=>let(a,l,p,E):=q;show again p E
  |brk=>let(a,l,p,q):=q;show(a,l,p.unpinned,q)
  |ret v=>let(x7,a,l,p,r7,q):=q;show(x7,a,l,p.unpinned,r7,q)
end
abbrev R2:=V->V->Hp->VK->Prop
def OpR(X:Cx)(f:ba->ba->Sem ba)(r:R2):Prop :=
 ∀(pins:OU) (s:bb) (σ:St) (H:Hp) (x y:V) (v u:ba) (Q:VK),Inv X pins σ H s->br x v->br y u->r x y H Q ->
  kn (kq X.prog X.w) X.A (f v u) (EP X pins σ Q) X.xe s
def UnR(X:Cx)(f:ba->Sem ba)(r:V->Hp->VK->Prop):Prop :=
 ∀(pins:OU) (s:bb) (σ:St) (H:Hp) (x:V) (v:ba) (Q:VK),Inv X pins σ H s->br x v->r x H Q ->
  kn (kq X.prog X.w) X.A (f v) (EP X pins σ Q) X.xe s
def fU(X:Cx)(f:ba)(r:Pl->Hp->VK->Prop):Prop :=
 ∀(pins:OU) (s:bb) (σ:St) (H:Hp) (xs:Pl) (us:Ph) (Q:VK),Inv X pins σ H s->aU xs us->r xs H Q ->
  kn (kq X.prog X.w) X.A (call f us) (EP X pins σ Q) X.xe s
def KU(X:Cx)(r:V->Hp->(Bool->Hp->Prop)->Prop):Prop :=
 ∀(pins:OU) (s:bb) (σ:St) (H:Hp) (x:V) (v:ba) (Q:Bool->Hp->Prop),Inv X pins σ H s->br x v->r x H Q ->
  kn (kq X.prog X.w) X.A (ZM v) (TP X pins σ Q) X.xe s
def tOp(r:R2)(ta tb:TE):TE:=λσ H Q=>ta σ H λx H1=>tb σ H1 λy H2=>r x y H2 Q
def tUn(r:V->Hp->VK->Prop)(ta:TE):TE:=λσ H Q=>ta σ H λx H1=>r x H1 Q
def rI(C:Int->Int->Prop)(g:Int->Int->V):R2:=λx y H Q=>∃i j,x=.int i/\y=.int j/\C i j/\Q (g i j) H
def rI0(g:Int->Int->V):R2:=λx y H Q=>∃i j,x=.int i/\y=.int j/\Q (g i j) H
def rU(g:Int->V):V->Hp->VK->Prop:=λx H Q=>∃i,x=.int i/\Q (g i) H
section
variable{X:Cx}{a b:bi}{ta tb:TE}{pos:Pos}
theorem JS(i:PE X a ta)(j:PE X b tb){pins:OU}{s:bb}{σ:St}{H:Hp}{R:V->V->Hp->Prop}(I:Inv X pins σ H s)
  (h : ta σ H λx H1=>tb σ H1 λy H2=>R x y H2) {Q:ba->bb->Prop}{f:ba->ba->Sem ba}
  (k:∀v u s2 x y H2,Inv X pins σ H2 s2->br x v->br y u->R x y H2->kn (kq X.prog X.w) X.A (f v u) Q X.xe s2) :
  kn (kq X.prog X.w) X.A (eval a X.env) (λv c=>kn (kq X.prog X.w) X.A (eval b X.env) (λu d=>kn (kq X.prog X.w) X.A (f v u) Q X.xe d) X.xe c) X.xe s:=by show thn (i pins s σ H _ I h) λv s1 e=>?_;let(x,H1,l,m,q1):=e;show thn (j pins s1 σ H1 _ l q1) λu s2 g=>?_;let(y,H2,n,o,p):=g;show k v u s2 x y H2 n m o p
theorem Dj{op:Zi}{r:R2}(ho:OpR X (QK op) r)(c:PE X a ta)(d:PE X b tb):PE X (.BinOp a op b pos) (tOp r ta tb):=by intro pins s σ H Q I h;show wpAny_BinOp (JS c d I h λv u s2 x y H2 e f g q=>ho pins s2 σ H2 x y v u Q e f g q)
theorem Go{op:UnaryOp}{r:V->Hp->VK->Prop}(ho:UnR X (unaryOp op) r)(b:PE X a ta):PE X (.UnaryOp op a pos) (tUn r ta):=by intro pins s σ H Q I h;show UnaryOp_ (thn (b pins s σ H _ I h) λv s1 ⟨x,H1,c,d,q1⟩=>ho pins s1 σ H1 x v Q c d q1)
theorem opI{f:ba->ba->Sem ba}{C:Int->Int->Prop}{g:Int->Int->Int}
  (rule:∀(i j:Int) (t u:Tok) (s:bb) (Q:ba->bb->Prop) (E:ba->bb->Prop),C i j->Q (.int (g i j) s.toks) { s with toks:=s.toks+1 }->kn (kq X.prog X.w) X.A (f (.int i t) (.int j u)) Q E s) :
  OpR X f (rI C λi j=>.int (g i j)):=by
 intro pins s σ H x y v u Q I a b h
 cbv;let(i,j,rfl,rfl,hc,q):=h;let(t,rfl):=a;let(t',rfl):=b
 w_up;show rule i j t t' s _ _ hc (.int (g i j),H,I.tok _,(_,rfl),q)
theorem J9{f:ba->ba->Sem ba}{g:Int->Int->Int}
  (rule:∀(i j:Int) (t u:Tok) (s:bb) (Q:ba->bb->Prop) (E:ba->bb->Prop),Q (.int (g i j) s.toks) { s with toks:=s.toks+1 }->kn (kq X.prog X.w) X.A (f (.int i t) (.int j u)) Q E s) :
  OpR X f (rI0 λi j=>.int (g i j)):=by
 intro pins s σ H x y v u Q I a b h
 cbv;let(i,j,rfl,rfl,q):=h;let(t,rfl):=a;let(t',rfl):=b
 w_up;show rule i j t t' s _ _ (.int (g i j),H,I.tok _,(_,rfl),q)
theorem IS{f:ba->ba->Sem ba}{g:Int->Int->Bool}
  (rule:∀(i j:Int) (t u:Tok) (s:bb) (Q:ba->bb->Prop) (E:ba->bb->Prop),Q (.bool (g i j)) s->kn (kq X.prog X.w) X.A (f (.int i t) (.int j u)) Q E s) :
  OpR X f (rI0 λi j=>.bl (g i j)):=by
 intro pins s σ H x y v u Q I a b h
 cbv;let(i,j,rfl,rfl,q):=h;let(t,rfl):=a;let(t',rfl):=b
 w_up;show rule i j t t' s _ _ (.bl (g i j),H,I,rfl,q)
def JX(i j:Int):Prop:=0<j/\j<1073741824
def HG(i j:Int):Prop:=(-(2 ^ 64)<i/\i<2 ^ 64)\/(-(2 ^ 64)<j/\j<2 ^ 64)
theorem HG.ok{i j:Int}(h:HG i j):IntMulOk i j:=by
 rcases h with⟨h1,h2⟩|⟨h1,h2⟩
 show .of_left (intBits_le_64 h1 h2);show .of_right (intBits_le_64 h1 h2)
theorem bY:OpR X (QK .Add) (rI0 λi j=>.int (i+j)):=J9 λY Y Y Y Y Y Y q=>add_int q
theorem Bo:OpR X (QK .Sub) (rI0 λi j=>.int (i-j)):=J9 λY Y Y Y Y Y Y q=>sub_int q
theorem hZ:OpR X (QK .Mult) (rI HG λi j=>.int (i*j)):=opI λY Y Y Y Y Y Y hc q=>mul_int q hc.ok
theorem dU:OpR X (QK .FloorDiv) (rI JX λi j=>.int (i / j)):=opI λi j Y Y Y Y Y hc q=>by
 let h1:(0:Int)<j:=hc.1;let h2:j<1073741824:=hc.2;show floordiv_int (!0) (by rw[Nb i (!0)];show q) (.inl (PyProof.noPylong_small (!0)))
theorem bu:OpR X (QK .Mod) (rI (λY j=>0<j) λi j=>.int (i % j)):=opI λi j Y Y Y Y Y hc q=>by
 let h1:(0:Int)<j:=hc;show mod_int' (!0) (by rw[Int.fmod_eq_emod_of_nonneg i (!0)];show q)
theorem unI{f:ba->Sem ba}{g:Int->Int}
  (rule:∀(i:Int) (t:Tok) (s:bb) (Q:ba->bb->Prop) (E:ba->bb->Prop),Q (.int (g i) s.toks) { s with toks:=s.toks+1 }->kn (kq X.prog X.w) X.A (f (.int i t)) Q E s) :
  UnR X f (rU λi=>.int (g i)):=by intro pins s σ H x v Q I a h;let(i,rfl,q):=h;let(t,rfl):=a;show rule i t s _ _ (.int (g i),H,I.tok _,(_,rfl),q)
theorem mq:UnR X (unaryOp .USub) (rU λi=>.int (-(i))):=unI λY Y Y Y Y q=>neg_int q
end
noncomputable def J1:V->V->Bool
 |.non,.non=>Pq|.non,.int _=>Pq|.int _,.non=>Pq|.non,.bl _=>Pq|.bl _,.non=>Pq|.non,.str _=>Pq|.str _,.non=>Pq
 |.int _,.int _=>Pq|.bl _,.bl _=>Pq|.str _,.str _=>Pq|.byt _,.byt _=>Pq
 |.int _,.str _=>Pq|.str _,.int _=>Pq|.bl _,.str _=>Pq|.str _,.bl _=>Pq
 |_,_=>Pr
def rEq:R2:=λx y H Q=>J1 x y=Pq/\Q (.bl (decide (x=y))) H
def rNe:R2:=λx y H Q=>J1 x y=Pq/\Q (.bl (!decide (x=y))) H
theorem xU{i j:Int}:decide (V.int i=V.int j)=(i==j):=by rw[ME];simp
theorem BW{i j:Bool}:decide (V.bl i=V.bl j)=(i==j):=by rw[ME];simp
theorem xS{i j:ck}:decide (V.str i=V.str j)=(i==j):=by rw[ME];simp
theorem xV{i j:Array UInt8}:decide (V.byt i=V.byt j)=(i.toList==j.toList):=by
 rw[ME]
 cbv;cases i;cases j
 w_up;simp
section
variable{X:Cx}{a b c:bi}{ta tb:TE}{pos:Pos}
theorem aV{pins:OU}{σ:St}{H:Hp}{s:bb}{Q:VK}{k k':Bool}(I:Inv X pins σ H s)(q:Q (.bl k) H)(e:k=k'):EP X pins σ Q (.bool k') s:=by subst e;show(.bl k,H,I,rfl,q)
theorem bM:OpR X (q5 .Eq) rEq:=by
 intro pins s σ H x y v u Q I b a h;let(hs,q):=h;cases x with
 |non =>
  cases b;cases y with
  |non=>cases a;show PySem.EqNone.eq_none_none (aV I q (!1))
  |bl j=>cases a;show PySem.EqNone.eq_none_bool (aV I q (!1))
  |int j=>let(t',rfl):=a;show PySem.EqNone.eq_none_int (aV I q (!1))
  |str j=>let(t',rfl):=a;show PySem.EqNone.eq_none_str (aV I q (!1))
  |_=>show absurd (show Pr=Pq from hs) Lq
 |bl i =>
  cases b;cases y with
  |non=>cases a;show PySem.EqNone.eq_bool_none (aV I q (!1))
  |bl j=>cases a;show eq_bool (aV I q BW)
  |str j=>let(t',rfl):=a;show PySem.EqMixed.eq_bool_str (aV I q (!1))
  |_=>show absurd (show Pr=Pq from hs) Lq
 |int i =>
  let(t,rfl):=b;cases y with
  |non=>cases a;show PySem.EqNone.eq_int_none (aV I q (!1))
  |int j=>let(t',rfl):=a;show eq_int (aV I q xU)
  |str j=>let(t',rfl):=a;show PySem.EqMixed.eq_int_str (aV I q (!1))
  |_=>show absurd (show Pr=Pq from hs) Lq
 |str i =>
  let(t,rfl):=b;cases y with
  |non=>cases a;show PySem.EqNone.eq_str_none (aV I q (!1))
  |bl j=>cases a;show PySem.EqMixed.eq_str_bool (aV I q (!1))
  |int j=>let(t',rfl):=a;show PySem.EqMixed.eq_str_int (aV I q (!1))
  |str j=>let(t',rfl):=a;show eq_str (aV I q xS)
  |_=>show absurd (show Pr=Pq from hs) Lq
 |byt i =>
  let(t,rfl):=b;cases y with
  |byt j=>let(t',rfl):=a;show PySem.W.eq_bytes (aV I q xV)
  |_=>show absurd (show Pr=Pq from hs) Lq
 |_=>cases y <;> show absurd (show Pr=Pq from hs) Lq
theorem IP:OpR X (q5 .NotEq) rNe:=by
 intro pins s σ H x y v u Q I b a h;let(hs,q):=h;cases x with
 |non =>
  cases b;cases y with
  |non=>cases a;show PySem.EqNone.ne_none_none (aV I q (!1))
  |bl j=>cases a;show PySem.EqNone.ne_none_bool (aV I q (!1))
  |int j=>let(t',rfl):=a;show PySem.EqNone.ne_none_int (aV I q (!1))
  |str j=>let(t',rfl):=a;show PySem.EqNone.ne_none_str (aV I q (!1))
  |_=>show absurd (show Pr=Pq from hs) Lq
 |bl i =>
  cases b;cases y with
  |non=>cases a;show PySem.EqNone.ne_bool_none (aV I q (!1))
  |bl j=>cases a;show ne_bool (aV I q (congrArg not BW))
  |str j=>let(t',rfl):=a;show PySem.EqMixed.ne_bool_str (aV I q (!1))
  |_=>show absurd (show Pr=Pq from hs) Lq
 |int i =>
  let(t,rfl):=b;cases y with
  |non=>cases a;show PySem.EqNone.ne_int_none (aV I q (!1))
  |int j=>let(t',rfl):=a;show ne_int (aV I q (congrArg not xU))
  |str j=>let(t',rfl):=a;show PySem.EqMixed.ne_int_str (aV I q (!1))
  |_=>show absurd (show Pr=Pq from hs) Lq
 |str i =>
  let(t,rfl):=b;cases y with
  |non=>cases a;show PySem.EqNone.ne_str_none (aV I q (!1))
  |bl j=>cases a;show PySem.EqMixed.ne_str_bool (aV I q (!1))
  |int j=>let(t',rfl):=a;show PySem.EqMixed.ne_str_int (aV I q (!1))
  |str j=>let(t',rfl):=a;show ne_str (aV I q (congrArg not xS))
  |_=>show absurd (show Pr=Pq from hs) Lq
 |byt i =>
  let(t,rfl):=b;cases y with
  |byt j=>let(t',rfl):=a;show PySem.W.ne_bytes (aV I q (congrArg not xV))
  |_=>show absurd (show Pr=Pq from hs) Lq
 |_=>cases y <;> show absurd (show Pr=Pq from hs) Lq
theorem zA:OpR X (q5 .Lt) (rI0 λi j=>.bl (decide (i<j))):=IS λY Y Y Y Y Y Y q=>lt_int q
theorem IQ:OpR X (q5 .Gt) (rI0 λi j=>.bl (decide (j<i))):=IS λY Y Y Y Y Y Y q=>gt_int q
theorem IR:OpR X (q5 .GtE) (rI0 λi j=>.bl (decide (j<=i))):=IS λY Y Y Y Y Y Y q=>ge_int q
theorem wL:OpR X (q5 .Is) (λx y H Q=>y=.non/\Q (.bl (decide (x=.non))) H):=by
 intro pins s σ H x y v u Q I a b h
 cbv;let(rfl,q):=h;cases b
 w_up;show is_none_gen (aV I q ?_);cases x <;> first
  |(cases a;rfl)
  |(let(t,rfl):=a;rfl)
theorem gN:OpR X (q5 .IsNot) (λx y H Q=>y=.non/\Q (.bl (!decide (x=.non))) H):=by
 intro pins s σ H x y v u Q I a b h
 cbv;let(rfl,q):=h;cases b
 w_up;show isnot_none_gen (aV I q ?_);cases x <;> first
  |(cases a;rfl)
  |(let(t,rfl):=a;rfl)
theorem ia(b:bi){op:CmpOp}(h:op≠.In⊕'Pu)(h2:op≠.NotIn⊕'Pu):Qw op b=false:=by
 let e1:(op==CmpOp.In)=Pr:=by cases op <;> first|rfl|show absurd rfl h
 let e2:(op==CmpOp.NotIn)=Pr:=by cases op <;> first|rfl|show absurd rfl h2
 cases b <;> simp[Qw,e1,e2]
theorem Do{op:CmpOp}{r:R2}(ho:OpR X (q5 op) r)(c:PE X a ta)(d:PE X b tb)(e:Qw op b=Pr):PE X (.Compare a [op] [b] pos) (tOp r ta tb):=by intro pins s σ H Q I h;show wpAny_Compare1 (JS c d I h λv u s2 x y H2 f g i q=>ho pins s2 σ H2 x y v u Q f g i q) e
def vg(t:TE):TT:=λσ H Q=>t σ H λx H'=>∃k,x=.bl k/\Q k H'
theorem cm{op:CmpOp}{r:R2}(ho:OpR X (q5 op) r)(d:PE X a ta)(f:PE X b tb)(g:Qw op b=Pr):PT X (.Compare a [op] [b] pos) (vg (tOp r ta tb)):=by
 intro pins s σ H Q I h;show wpAny_isTrue_Compare1 (thn (d pins s σ H _ I h) λv s1 ⟨x,H1,i,j,q1⟩=>thn (f pins s1 σ H1 _ i q1) λu s2 ⟨y,H2,l,m,n⟩ =>
  thn (ho pins s2 σ H2 x y v u _ l j m n) λc t ⟨z,H3,o,p,k,e,q⟩=>?_) g
 cbv;subst e;cases p
 w_up;show Qd (H3,o,q)
def H9(K:cp)(x:V)(H:Hp)(k:Bool):Prop :=
 match x with
 |.non=>k=Pr
 |.bl b=>k=b
 |.int i=>k=(i != 0)
 |.str y=>-y<=sizeLine/\k=((-y:Int) != 0)
 |.byt y=>y.size<=sizeLine/\k=((y.size:Int) != 0)
 |.ref p=>(∃xs,SqL K H p xs/\k=!xs.isEmpty)\/(∃xs,SqT K H p xs/\k=!xs.isEmpty)\/∃kvs,H p=Po (.dK kvs)/\k=!kvs.isEmpty
 |_=>False
theorem uG{κ:Type}{kvs:List (κ×V)}{vs:List (κ×ba)}(r:KV kvs vs):(!vs.isEmpty)=!kvs.isEmpty:=by cases r <;> rfl
theorem kz{xs:Pl}{a:Ph}(r:aU xs a):(!a.toArray.isEmpty)=!xs.isEmpty:=by cases r <;> simp
theorem kj:(sizeLine:Nat)<2 ^ 63:=by rw[qE];decide
theorem Fu:KU X (λx H Q=>∃k,H9 X.K x H k/\Q k H):=by
 intro pins s σ H x v Q I c h;let(k,e,q):=h;let hl:=kj;let hs:sizeLine=16777216:=qE;cases x with
 |non =>
  cbv;cases c;let e':k=Pr:=e;subst e'
  w_up;show truthy_none (H,I,q)
 |bl b =>
  cbv;cases c;let e':k=b:=e;subst e'
  w_up;show Qd (H,I,q)
 |int i =>
  let(t,rfl):=c;let e':k=(i != 0):=e;subst e';show PySem.P.truthy_int (H,I,q)
 |str y =>
  cbv;let(t,rfl):=c;obtain⟨f,e'⟩:-y<=sizeLine/\k=((-y:Int) != 0):=e;subst e'
  w_up;show PySem.P.truthy_str (!0) (H,I.tok _,q)
 |byt y =>
  cbv;let(t,rfl):=c;obtain⟨f,e'⟩:y.size<=sizeLine/\k=((y.size:Int) != 0):=e;subst e'
  w_up;show PySem.W.truthy_bytes (!0) (H,I.tok _,q)
 |ref p =>
  cases c;let e':(∃xs,SqL X.K H p xs/\k=!xs.isEmpty)\/(∃xs,SqT X.K H p xs/\k=!xs.isEmpty)\/∃kvs,H p=Po (.dK kvs)/\k=!kvs.isEmpty:=e;rcases e' with⟨xs,hx,e'⟩|⟨xs,hx,e'⟩|⟨kvs,hx,e'⟩
  subst e';let(d,r,pl,hz):=I.list hx;let a:=-r;show wpAny_truthy_list pl.isList (by simp only[Li];lia) (H,I.tok _,by rw[kz r];show q);subst e';let(d,r,pl,hz):=I.tuple hx;let a:=-r;show truthy_tuple pl (by simp only[Li];lia) (H,I.tok _,by rw[kz r];show q);subst e';obtain⟨hz,g,vs,r,m⟩:-kvs<=sizeLine/\(p==Qi)=Pr/\∃vs,KV kvs vs/\s.heap.DictOf (cq X.prog X.w) p vs:=I.hok p _ hx;let a:-kvs=-vs:=Paired.length r;show wpAny_truthy_dict g m (!0) (H,I.tok _,by rw[uG r];show q)
 |_=>show(show False from e).elim
theorem zj(c:PE X a ta)(d:∀b,Zg a X.env b=(do let v <-b;Qn a.pos;Qf [v] (ZM v))) :
  PT X a (λσ H Q=>ta σ H λx H'=>∃k,H9 X.K x H' k/\Q k H'):=by intro pins s σ H Q I h;show isTrue_plain (thn (c pins s σ H _ I h) λv s1 ⟨x,H1,e,f,q1⟩=>Fu pins s1 σ H1 x v Q e f q1) (d _)
theorem uv:OpR X (QK .Add) (λx y H Q=>∃i j,x=.str i/\y=.str j/\i.length+-j<=sizeLine/\Q (.str (i++j)) H):=by
 intro pins s σ H x y v u Q I a b h
 cbv;let(i,j,rfl,rfl,hz,q):=h;let(t,rfl):=a;let(t',rfl):=b
 w_up;show add_str (λt' tk=>(.str (i++j),H,I.tok _,(_,rfl),q)) hz
theorem jG{x:V}{us:Ph}(r:aU [x] us):∃u,us=[u]/\br x u:=by
 cases r with
 |cons a b=>cases b;show(_,rfl,a)
theorem u8{x y:V}{us:Ph}(r:aU [x,y] us):∃u w',us=[u,w']/\br x u/\br y w':=by
 cases r with
 |cons a b =>
  cases b with
  |cons c d=>cases d;show(_,_,rfl,a,c)
end
structure E5(h:cc)(x dx C:aG)(mA:ck->O3):Prop where
 obj:h.get? x=some (i3 C dx)
 ns : h.Ns1 dx mA
 ne : dx≠x
set_option tactic.hygienic true in
theorem xf{h:cc}{dx:aG}{mA:ck->O3}(n:h.Ns1 dx mA):∃od,h.get? dx=Po od/\∀name,sN name od=Po (mA name):=by
 let(o,es,ep,ho,hd,hk,_,c):=n;show(o,ho,λname=>?_);let e:=c name;unfold nsFind findBy at e;rw[<-Array.find?_toList]at e;unfold sN;rw[hd];dsimp only;split;rename_i y q;rw[q]at e;show congrArg Po e;rename_i q;rw[q]at e;let a:es.toList.any (·.refKey)=Pr:=by rw[List.any_eq_false];intro y d;let(z,t,b):=hk y (NF.mp d);simp[DictEntry.refKey,b]
 let a':¬es.toList.any (·.refKey)=Pq:=by rw[a];show Lq
 rw[OH a'];show congrArg Po e
theorem E5.look{h:cc}{x dx C:aG}{mA:ck->O3}(I:E5 h x dx C mA):∃od,PySem.W.InstAt h x (i3 C dx) C (Po od)/\∀name,sN name od=Po (mA name) :=
 let ⟨od,ho,hl⟩:=xf I.ns
 (od,(I.obj,rfl,rfl,ho),hl)
section
variable{prog:ky}{w:kD}{A:Around}{E:ba->bb->Prop}{s:bb}{K:cp}{x dx C f:aG}{mA:ck->O3}{name:ck}{v:ba}
theorem D8{a:Bool}{Q:ba->bb->Prop}(X:K.In s.heap)(I:E5 s.heap x dx C mA)(c:o0 K C name=true)(d:hI K C=true)
  (e:ed K (.ref C) name=some none) (hv:mA name=some v) (b:NK v=true) (h:Q v { s with toks:=s.toks+1 }) :
  kn (kq prog w) A (getAttr (.ref x) name a) Q E s:=by let(od,J,hl):=I.look;show PySem.W.get_value X J (s0 c).1 (PySem.W.findObj_own d e rfl (by rw[hl,hv])) b h
theorem As{pl:Sem Bool}{Q:ba×Ph->bb->Prop}(X:K.In s.heap)(I:E5 s.heap x dx C mA)(a:o0 K C name=Pq)
  (b:ed K (.ref C) name=Po (Po (.ref f))) (c:xD K (.ref f)=Pq) (hv:mA name=Pp) (h:Q (.ref f,[.ref x]) s) :
  kn (kq prog w) A (QX (.ref x) name pl) Q E s:=by let(od,J,hl):=I.look;show PySem.W.method_fn X J (s0 a).1 (s0 a).2 b (beq_iff_eq.mp c) (by show(sN name od).map (·.isSome)=Po Pr;rw[hl,hv];rfl) h
theorem Cw{ns:Pi}{Q:Unit->bb->Prop}(X:K.In s.heap)(I:E5 s.heap x dx C mA)
  (hs:ed K (.ref C) "__setattr__" = some (some (.builtin "object.__setattr__"))) (i:xi K C=true) (j:H7 K C name=some none) (k:hI K C=true)
  (hw:Nh mA ns) (hsz:ns.length<=sizeLine)
  (h : ∀h',E5 h' x dx C (λy=>if y=name then some v else mA y)->lp dx s.heap h'->Q () { s with heap:=h',toks:=s.toks+2 }) :
  kn (kq prog w) A (setAttr (.ref x) name v) Q E s:=by let(od,J,hl):=I.look;show PySem.W.set_plain X J hs (PySem.W.osa_open (s:={ s with toks:=s.toks+1 }) (r:=Pp) X J i j λb=>?_);let(cd,hc,d):=PySem.W.any_some k;let hx:s.heap.get? x=Po (.ref C,Po dx,.plain,#[]):=I.obj;show jj (kf (jj (jj (wpAny_loadPart hx (jj (PySem.W.Looks.here (s:={ s with toks:=s.toks+1 }) (PySem.W.looks_clsIn X hc) ?_))))));rw[d];show kf (a:=Po dx) (jj (kf (jj ?_)));show wpAny_nsSet1 (s:={ s with toks:=s.toks+1 }) I.ns λh' hn2 c=>?_;let(oD,l,m,e,f,g):=hn2.count (PySem.Within.cons name v hw);show jj (wpAny_lookBehind e (by rw[f];show pastItsLine_dict (Ld g (by rw[Lu];lia))) ?_);show kf (h _ ((c.2 _ (Ne.symm I.ne)).trans I.obj,hn2,I.ne) c)
theorem z0{R:ZC->bb->Prop}{vs:Ph}{a:OZ}(X:K.In s.heap)(b:rr K C=true)
  (hi:ed K (.ref C) "__init__" = some (some (.ref f))) (c:PySem.W.typeIn K (.ref f)=some (.type "function"))
  (h : Qo (kq prog w) (A.under (.builtin "type.__call__" (.ref C::vs,a))) (.call (.ref f) (.ref (s.heap.objs.size+1)::vs,a)) (PySem.W.InitBack (s.heap.objs.size+1) R)
   { s with heap:=(s.heap.push hP).push (i3 C s.heap.objs.size) }) :
  Qo (kq prog w) A (.call (.ref C) (vs,a)) R s:=by let(e,g,d,t,os):=s;show PySem.W.make_core (PySem.W.makes_of X b) (PySem.W.looks_findIn X hi) (λself=>PySem.W.bind_fn X self c) (.inl rfl) h
end
noncomputable def oU(f:ck)(v:V):O1->O1
 |[]=>[(f,v)]
 |(g,x)::r=>if g=f then (g,v)::r else (g,x)::oU f v r
theorem jf(f g:ck)(v:V):∀fs:O1,(oU f v fs).lookup g=if g=f then Po v else fs.lookup g
 |[]=>by
  show gu g [(f,v)]=_;by_cases h:g=f;let a:(g==f)=Pq:=beq_iff_eq.mpr h;simp only[gu,a,OG h];let a:(g==f)=Pr:=beq_eq_false_iff_ne.mpr h;simp only[gu,a,OH h]
 |(k,x)::r=>by
  let ih:=jf f g v r;rw[show oU f v ((k,x)::r)=(if k=f then (k,v)::r else (k,x)::oU f v r) from rfl];by_cases hk:k=f;rw[OG hk];by_cases h:g=k;let a:(g==k)=Pq:=beq_iff_eq.mpr h;simp only[gu,a,OG (h.trans hk)];let a:(g==k)=Pr:=beq_eq_false_iff_ne.mpr h;simp only[gu,a,OH (λe:g=f=>h (e.trans hk.symm))];rw[OH hk];by_cases h:g=k;let a:(g==k)=Pq:=beq_iff_eq.mpr h;simp only[gu,a,OH (λe:g=f=>hk (h.symm.trans e))];let a:(g==k)=Pr:=beq_eq_false_iff_ne.mpr h;simp only[gu,a];show ih
theorem jk(f:ck)(v:V):∀fs:O1,f∈(oU f v fs).map (·.1)/\∀g,g∈fs.map (·.1)->g∈(oU f v fs).map (·.1)
 |[]=>(by simp[oU],λg h=>by simp at h)
 |(k,x)::r=>by
  let(a,b):=jk f v r;rw[show oU f v ((k,x)::r)=(if k=f then (k,v)::r else (k,x)::oU f v r) from rfl];by_cases hk:k=f;rw[OG hk];subst hk;show(!1,λg h=>by simpa using h);rw[OH hk];show(?_,λg h=>?_);rw[Le];show K5 _ a;rw[Le]at h ⊢;rcases K9.mp h with e|e;show K9.mpr (.inl e);show K5 _ (b g e)
theorem ji(f:ck)(v:V):∀fs:O1,(oU f v fs).length<=-fs+1
 |[]=>by simp[oU]
 |(k,x)::r=>by
  let ih:=ji f v r;rw[show oU f v ((k,x)::r)=(if k=f then (k,v)::r else (k,x)::oU f v r) from rfl];by_cases hk:k=f;rw[OG hk,Lu,Lu];lia;rw[OH hk,Lu,Lu];lia
theorem yz.some_of{v:V}{o:O3}(r:yz (Po v) o):∃u,o=Po u/\br v u:=by
 cases o with
 |none=>show(show False from r).elim
 |some u=>show(u,rfl,r)
theorem yz.none_of{o:O3}(r:yz Pp o):o=Pp:=by
 cases o with
 |none=>rfl
 |some u=>show(show False from r).elim
theorem xA{v:V}{u:ba}(r:br v u):NK u=Pq:=by
 cases v with
 |non=>cases (show u=dr from r);rfl
 |bl b=>cases (show u=r4 b from r);rfl
 |int i=>let(t,e):=(show ∃t,u=ir i t from r);cases e;rfl
 |str x=>let(t,e):=(show ∃t,u=F2 x t from r);cases e;rfl
 |byt b=>let(t,e):=(show ∃t,u=OD b t from r);cases e;rfl
 |flt b=>let(t,e):=(show ∃t,u=OC b t from r);cases e;rfl
 |ref a=>cases (show u=di a from r);rfl
 |ty n=>cases (show u=nN n from r);rfl
section
variable{P:ky}{w:kD}{H:Hp}{h:cc}{a C dx:aG}{fs:O1}
theorem qm(hok:HOk P w H h)(e:H a=Po (.ins C dx fs)):∃mA,E5 h a dx C mA/\(∀f,yz (fs.lookup f) (mA f))/\Nh mA (fs.map (·.1))/\fs.length<=1000/\H dx=Po (.own a):=by
 let(d,z,ne,ob,mA,n,r,q):=(show cO P w H h a (.ins C dx fs) from hok a _ e)
 show(mA,(ob,n,ne),r,q,z,d)
end
structure Cls(K:cp)(C:aG):Prop where
 pg : o0 K C vr=true
 hd : hI K C=true
 po : xi K C=true
 sa : ed K (.ref C) "__setattr__" = some (some (.builtin "object.__setattr__"))
theorem Cls.get{K:cp}{C:aG}(c:Cls K C)(f:ck):o0 K C f=Pq:=c.pg
def cP(K:cp)(C:aG)(f:ck):Prop:=ed K (.ref C) f=Po Pp
theorem cP.taker{K:cp}{C:aG}{f:ck}(n:cP K C f):H7 K C f=Po Pp:=by unfold H7;rw[show ed K (.ref C) f=Po Pp from n];rfl
structure Fg(K:cp)(C:aG)(m:ck)(f:aG):Prop where
 at_:ed K (.ref C) m=some (some (.ref f))
 fn : xD K (.ref f)=true
 kp : eE K (.ref f)=true
section
variable{X:Cx}{pins:OU}{σ:St}{H:Hp}{s:bb}{a C dx:aG}{fs:O1}{f:ck}{v:V}{A:Around}{E:ba->bb->Prop}
theorem uJ{b:Bool}{Q:ba->bb->Prop}(I:Inv X pins σ H s)(e:H a=Po (.ins C dx fs))(c:Cls X.K C)(n:cP X.K C f)(l:fs.lookup f=Po v)
  (h : ∀u s',Inv X pins σ H s'->br v u->Q u s'):kn (kq X.prog X.w) A (getAttr (.ref a) f b) Q E s:=by let(mA,O,r,_,_,_):=qm I.hok e;let(u,g,d):=yz.some_of (v:=v) (o:=mA f) (by rw[<-l];show r f);show D8 I.kIn O (c.get f) c.hd n g (xA d) (h u _ (I.tok _) d)
theorem kA{m:ck}{g:aG}{pl:Sem Bool}{Q:ba×Ph->bb->Prop}(I:Inv X pins σ H s)(e:H a=Po (.ins C dx fs))(c:Cls X.K C)(k:Fg X.K C m g)(l:fs.lookup m=Pp)
  (h : Q (.ref g,[.ref a]) s):kn (kq X.prog X.w) A (QX (.ref a) m pl) Q E s:=by let(mA,O,r,_,_,_):=qm I.hok e;let hn:mA m=Pp:=yz.none_of (by rw[<-l];show r m);show As I.kIn O (c.get m) k.at_ k.fn hn h
theorem ui{y:V}{u:ba}{Q:Unit->bb->Prop}(I:Inv X pins σ H s)(e:H a=Po (.ins C dx fs))(c:Cls X.K C)(n:cP X.K C f)(hl:-fs<1000)(j:br y u)
  (h : ∀s',Inv X pins σ (upd H a (.ins C dx (oU f y fs))) s'->Q () s'):kn (kq X.prog X.w) A (setAttr (.ref a) f u) Q E s:=by
 let(mA,O,r,i,_,ho):=qm I.hok e;let hz:(fs.map (·.1)).length<=sizeLine:=by rw[K4,qE];lia
 show Cw I.kIn O c.sa c.po n.taker c.hd i hz λh' d k=>h _ ?_;let hd:∃o,h'.get? dx=Po o:=let ⟨o,_,_,e',_⟩:=d.ns;(o,e')
 show I.write (x:=a) (e:=dx) (by rw[e];show True.intro) (.inr ho) (λb q l z=>(k.2 b l).trans z) hd ?_;show(by rw[ao O.ne];show ho,?_,O.ne,d.obj,_,d.ns,λg=>?_,λg m=>?_);let:=ji f y fs;lia;show yz ((oU f y fs).lookup g) (if g=f then Po u else mA g);rw[jf];by_cases q:g=f;rw[OG q,OG q];show j;rw[OH q,OH q];show r g;by_cases q:g=f;rw[q];show(jk f y fs).1;show(jk f y fs).2 g (i g λz=>m ?_);show(if g=f then Po u else mA g)=Pp;rw[OH q];show z
theorem Inv.made(I:Inv X pins σ H s):Inv X pins σ (upd (upd H s.heap.objs.size (.own (s.heap.objs.size+1))) (s.heap.objs.size+1) (.ins C s.heap.objs.size []))
  { s with heap:=(s.heap.push hP).push (i3 C s.heap.objs.size) }:=by
 let e1:(s.heap.push hP).get? (~~~s)=Po hP:=Lm s.heap rfl;let e2:((s.heap.push hP).push (i3 C (~~~s))).get? ((~~~s)+1)=Po (i3 C (~~~s)):=by let:=Lm (s.heap.push hP) (o:=i3 C (~~~s)) rfl;rwa [da]at this
 let e3:(s.heap.push hP).Ns (~~~s) (λY=>Pp):=(hP,#[],_,e1,rfl,(λe c=>absurd c (!1)),λY=>rfl)
 let d:=I.laid (a:=(~~~s)) (o:=.own ((~~~s)+1)) (h':=s.heap.push hP) (t':=s.toks) (λb u q=>La _ q) (Lf _) (_,e1);show d.laid (a:=(~~~s)+1) (o:=.ins C (~~~s) []) (t':=s.toks) (λb u q=>La _ q) (MI (da _ _)) ?_;let ne:(~~~s)≠(~~~s)+1:=Lr (LR _);show(by rw[ao ne,aq],Ln _,ne,e2,λY=>Pp,(Heap.Ns1.of_empty e3).at λo q=>La _ q,λY=>True.intro,λy f=>absurd rfl f)
theorem E1{prog:ky}{w:kD}{env:Env}{e:bi}{f:ck}{pos:Pos}{s:bb}{Q:ba->bb->Prop}(b:zp e f env (eval e env)=eval e env)
  (h : kn (kq prog w) A (eval e env) (λo a=>kn (kq prog w) A (getAttr o f Pq) Q E a) E s):kn (kq prog w) A (eval (.Attribute e f pos) env) Q E s :=
 Attribute_any_ h (by rw[arm_eval_Attribute,b])
end
def Kq(K:cp)(ta:TE)(f:ck):TE:=λσ H Q=>ta σ H λx H1=>∃a C dx fs v,x=.ref a/\H1 a=Po (.ins C dx fs)/\Cls K C/\cP K C f/\fs.lookup f=Po v/\Q v H1
def J2(K:cp)(ta tv:TE)(f:ck):TS:=λD σ H=>tv σ H λy H1=>ta σ H1 λx H2=>∃a C dx fs,x=.ref a/\H2 a=Po (.ins C dx fs)/\Cls K C/\cP K C f/\fs.length<1000 /\
 D.nx σ (upd H2 a (.ins C dx (oU f y fs)))
section
variable{X:Cx}{o e value:bi}{f:ck}{pos pos':Pos}{ta tv:TE}
theorem i9(d:PE X e ta)(g:zp e f X.env (eval e X.env)=eval e X.env):PE X (.Attribute e f pos) (Kq X.K ta f):=by
 intro pins s σ H Q I h;show E1 g (thn (d pins s σ H _ I h) λu s1 b=>?_)
 cbv;let(x,H1,i,j,a,C,dx,fs,v,ex,k,c,n,l,q):=b;subst ex;obtain rfl:u=di a:=j
 w_up;show uJ i k c n l λp s2 m o=>(v,H1,m,o,q)
theorem Gi(e:PE X o ta)(hv:PE X value tv)(hs:Qv value (Po (.Attribute o f pos')) pos.line X.env=pure Pr):PS X (.Assign [.Attribute o f pos'] value pos) (J2 X.K ta tv f):=by
 intro pins s σ H D I h;show plainObj_wpAny_Assign_Attribute (thn (hv pins s σ H _ I h) λu s1 b=>?_) hs;let(y,H1,g,i,q):=b;show thn (e pins s1 σ H1 _ g q) λov s2 d=>?_
 cbv;let(x,H2,j,k,a,C,dx,fs,ex,m,c,n,l,p):=d;subst ex;obtain rfl:ov=di a:=k
 w_up;show ui j m c n l i λt r=>(σ,_,r,p)
end
structure bW(k:Nat)(A:Around):Prop where
 hd : A.handled=none
 dp : A.depth+3*k+5<recursionLimit
 un : A.units+16*k+200<Qj
theorem bW.mono{j k:Nat}{A:Around}(r:bW k A)(h:j<=k):bW j A:=(r.hd,by let:=r.dp;lia,by let:=r.un;lia)
theorem bW.deeper{k:Nat}{A:Around}(r:bW (k+1) A)(env:Env):bW k (A.deeper env) :=
 (r.hd,by let:=r.dp;show A.depth+1+3*k+5<_;lia,by let:=r.un;show A.units+3+16*k+200<_;lia)
theorem bW.in1{k:Nat}{A:Around}(r:bW (k+1) A):bW k A.in1 :=
 (r.hd,by let:=r.dp;show A.depth+3*k+5<_;lia,by let:=r.un;show A.units+1+16*k+200<_;lia)
theorem uD{A:Around}{C:aG}{us:Ph}{a:OZ}:(A.under (.builtin "type.__call__" (.ref C::us,a))).depth=A.depth+1:=by first|rfl|simp[Around.under,Code.weight,Code.isCreation,Code.isGuard,Code.isCaller,Code.frames,Code.isFrame,guardIds]
theorem uC{A:Around}{C:aG}{us:Ph}{a:OZ}:(A.under (.builtin "type.__call__" (.ref C::us,a))).units=A.units+1:=by first|rfl|simp[Around.under,Code.cUnits,Code.frames,Code.isFrame]
theorem bW.make{k:Nat}{A:Around}(r:bW (k+1) A)(C:aG)(us:Ph)(a:OZ):bW k (A.under (.builtin "type.__call__" (.ref C::us,a))) :=
 (r.hd,by let:=r.dp;rw[uD];lia,by let:=r.un;rw[uC];lia)
theorem bW.depth{k:Nat}{A:Around}(r:bW k A):A.depth<recursionLimit:=by let:=r.dp;lia
theorem bW.units{k:Nat}{A:Around}(r:bW k A):A.units+64<Qj:=by let:=r.un;lia
def iQ:TA:=λY H Q=>Q [] H
def bv(ta:TE)(tr:TA):TA:=λσ H Q=>ta σ H λx H1=>tr σ H1 λxs H2=>Q (x::xs) H2
section
variable{X:Cx}{e:bi}{es:Pj}{te:TE}{t:TA}{pos:Pos}
theorem aH:PA X [] iQ:=λY Y Y Y H Q I h=>Calls.spliced_nil ([],H,I,.nil,h)
theorem ak(b:PE X e te)(c:PA X es t)(hs:kh (e::es) X.env=(false,eval e X.env)::kh es X.env⊕'Pt):PA X (e::es) (bv te t):=by intro pos pins s σ H Q I h;rw[hs];show kn _ _ (spliced ((Pr,eval e X.env)::qr pos (kh es X.env))) _ _ s;show Calls.spliced_cons (thn (b pins s σ H _ I h) λu s1 a=>?_);let(x,H1,d,f,q1):=a;show thn (c pos pins s1 σ H1 _ d q1) λus s2 ⟨xs,H2,g,i,j⟩=>(x::xs,H2,g,.cons f i,j)
def Cn(t:TA):TE:=λσ H Q=>t σ H λxs H1=>-xs<=sizeLine/\∀p,H1 p=Pp->Q (.ref p) (upd H1 p (.tup xs))
def Ko(t:TA):TE:=λσ H Q=>t σ H λxs H1=>-xs<=sizeLine/\∀p,H1 p=Pp->Q (.ref p) (upd H1 p (.lst xs))
theorem hJ{x1}(h:PA X es t):PE X (.Tuple es x1 pos) (Cn t):=by intro pins s σ H Q I d;show wpAny_Tuple_spliced (thn (h pos pins s σ H _ I d) λus s1 a=>?_);let(xs,H1,c,r,z,q):=a;show(by rw[<- -r];show z,?_);let f:H1 (~~~s1)=Pp:=c.hok.fresh (Lf _);show(.ref (~~~s1),upd H1 (~~~s1) (.tup xs),c.laid (t':=s1.toks) (λb u e=>La _ e) (Lf _) ?_,rfl,q _ f);show(z,us,r,(_,Lm _ rfl,rfl,(_,rfl),rfl))
theorem Bl(h:PA X es t):PE X (.List es pos) (Ko t):=by intro pins s σ H Q I d;show wpAny_List_spliced (thn (h pos pins s σ H _ I d) λus s1 a=>?_);let(xs,H1,c,r,z,q):=a;show(by rw[<- -r];show z,?_);let f:H1 (~~~s1)=Pp:=c.hok.fresh (Lf _);show(.ref (~~~s1),upd H1 (~~~s1) (.lst xs),c.laid (t':=s1.toks) (λb u e=>La _ e) (Lf _) ?_,rfl,q _ f);show(z,us,0,r,Lm _ rfl)
end
abbrev Sp:=Pl->Hp->VK->XK->Prop
abbrev CXT:=Pa->Hp->bb->XK->ba->bb->Prop
structure qW(P:ky)(w:kD)(K:cp)(mg:ck->O3)(base:cc)(A:Around)(outer:Pa)(s:bb)(H:Hp):Prop where
 frames:A.frames=some outer
 mod:Mod K mg base
 bs : ∀b o,base.get? b=some o->s.heap.get? b=some o/\H b=none
 bsz:base.objs.size<=s.heap.objs.size
 funs:s.heap.FunFrames base outer
 frf:∀b∈frs outer,H b=none
 hok:HOk P w H s.heap
 bare:Q1 s.gens
 tab:Cc K H
def CE(outer:Pa)(P:ky)(w:kD)(H:Hp)(s:bb)(Q:VK)(u:ba)(s':bb):Prop :=
 ∃v H',s'.os=s.os/\Q1 s'.gens/\Un (frs outer) [] H H' s.heap s'.heap/\HOk P w H' s'.heap/\br v u/\Q v H'
def CR(CX:CXT)(outer:Pa)(P:ky)(w:kD)(H:Hp)(s:bb)(Q:VK)(E:XK)(r:ZC)(s':bb):Prop :=
 match r with
 |.ok (.ret u)=>CE outer P w H s Q u s'
 |.ok _=>False
 |.error e=>CX outer H s E e s'
structure aY(P:ky)(w:kD)(K:cp)(mg:ck->O3)(base:cc)(CX:CXT)(k:Nat)(f:aG)(fd:kx)(ps:Pi)(sp:Sp):Prop where
 len:∀vs H Q E,sp vs H Q E->vs.length=ps.length
 run:∀(A:Around) (outer:Pa) (s:bb) (H:Hp) (args:Args) (us:Ph) (vs:Pl) (Q:VK) (E:XK),bW k A->qW P w K mg base A outer s H->Zl s fd args (ps.zip us)->aU vs us->sp vs H Q E ->
  Qo (kq P w) A (.call (.ref f) args) (CR CX outer P w H s Q E) s
theorem aY.mono{P:ky}{w:kD}{K:cp}{mg:ck->O3}{base:cc}{CX:CXT}{j k:Nat}{f:aG}{fd:kx}{ps:Pi}{sp:Sp}(F:aY P w K mg base CX j f fd ps sp)(h:j<=k) :
  aY P w K mg base CX k f fd ps sp:=(F.len,λA outer s H args us vs Q E a=>F.run A outer s H args us vs Q E (a.mono h))
theorem qW.make{P:ky}{w:kD}{K:cp}{mg:ck->O3}{base:cc}{A:Around}{outer:Pa}{s:bb}{H:Hp}(e:qW P w K mg base A outer s H)(C:aG)(us:Ph)(a:OZ) :
  qW P w K mg base (A.under (.builtin "type.__call__" (.ref C::us,a))) outer s H:=(by first|show e.frames|(simpa[Around.under,Code.envs,Code.isFrame,pushEnvs] using e.frames),e.mod,e.bs,e.bsz,e.funs,e.frf,e.hok,e.bare,e.tab)
theorem qW.in1{P:ky}{w:kD}{K:cp}{mg:ck->O3}{base:cc}{A:Around}{outer:Pa}{s:bb}{H:Hp}(e:qW P w K mg base A outer s H) :
  qW P w K mg base A.in1 outer s H:=(e.frames,e.mod,e.bs,e.bsz,e.funs,e.frf,e.hok,e.bare,e.tab)
section
variable{X:Cx}{pins:OU}{σ:St}{H:Hp}{s s':bb}
theorem Inv.env0(I:Inv X pins σ H s):qW X.prog X.w X.K X.mg X.base X.A X.stack s H :=
 (I.ok.frames,I.ok.mod,I.bs,Ld I.ok.bsz I.sz,I.stack,I.stkFree,I.hok,I.bare,λT q h=>I.base.tbls T q (I.ok.tab T q h))
theorem Inv.after{Q:VK}{u:ba}(I:Inv X pins σ H s)(h:CE X.stack X.prog X.w H s Q u s'):EP X pins σ Q u s':=by
 cbv;let(v,H',os,bare,un,hok,r,q):=h;let(c,g,d,t,a):=s';obtain rfl:a=s.os:=os
 w_up;show(v,H',I.call (h':=c) (g':=g) (d':=d) (t':=t) (ch:=[]) un hok bare (λb z=>absurd z (!1)),r,q)
end
def jH(sp:Sp)(dvs:Pl)(E:XK)(t:TA):TE:=λσ H Q=>t σ H λvs H1=>sp (vs++dvs) H1 Q E
def Cq(C:aG)(m:ck)(sp:Sp)(dvs:Pl)(E:XK)(ta:TE)(t:TA):TE:=λσ H Q=>ta σ H λx H1=>∃a dx fs,x=.ref a/\H1 a=Po (.ins C dx fs)/\fs.lookup m=Pp /\
 t σ H1 λvs H2=>sp (x::(vs++dvs)) H2 Q E
def Cr(C:aG)(sp:Sp)(dvs:Pl)(E:XK)(t:TA):TE:=λσ H Q=>t σ H λvs H1=>∀x dx,H1 x=Pp->H1 dx=Pp->dx≠x ->
 sp (.ref x::(vs++dvs)) (upd (upd H1 dx (.own x)) x (.ins C dx [])) (λv H2=>v=.non/\Q (.ref x) H2) E
def bE(K:cp)(fd:kx)(ps:Pi)(ds:Ph):Prop :=
 ∀(s:bb) (us:Ph),K.In s.heap->(us++ds).length=-ps->Zl s fd (us,[]) (ps.zip (us++ds))
theorem bE.all{K:cp}{fd:kx}{ps:Pi}(h:∀us:Ph,-us=-ps->Qh fd (us,[])=pure (ps.zip us)):bE K fd ps []:=λs us Y hl=>by
 rw[Ls]at hl ⊢;show .of_eq (h us hl)
def fJ(CX:CXT)(X:Cx)(E:XK):Prop:=∀(pins:OU) (σ:St) (H:Hp) (s:bb) (e:ba) (s':bb),Inv X pins σ H s->CX X.stack H s E e s'->X.xe e s'
section
variable{X:Cx}{CX:CXT}{k:Nat}{f C:aG}{fd:kx}{ps:Pi}{sp:Sp}{dvs:Pl}{ds:Ph}{E:XK}{x m:ck}{p pos apos:Pos}{e o:bi}{es:Pj}{ta:TE}{t:TA}
theorem vL{pins:OU}{σ:St}{H:Hp}{s:bb}{Q:VK}{us:Ph}{vs:Pl}(F:aY X.prog X.w X.K X.mg X.base CX k f fd ps sp)(c:bW k X.A)(d:bE X.K fd ps ds)(hd:aU dvs ds)(hx:fJ CX X E)
  (I : Inv X pins σ H s) (r:aU vs us) (h:sp (vs++dvs) H Q E):kn (kq X.prog X.w) X.A (call (.ref f) us) (EP X pins σ Q) X.xe s:=by
 let b:aU (vs++dvs) (us++ds):=r.append hd;let hl:(us++ds).length=-ps:=by rw[<- -b];show F.len _ _ _ _ h
 show QN (QJ (F.run X.A X.stack s H (us,[]) (us++ds) (vs++dvs) Q E c I.env0 (d s us I.kIn hl) b h) λr s' a=>?_);cases r with
 |error e=>show hx pins σ H s e s' I a
 |ok fl =>
  cases fl with
  |ret u=>show I.after a
  |next=>show False.elim a
  |brk=>show False.elim a
  |cont=>show False.elim a
theorem pM(F:aY X.prog X.w X.K X.mg X.base CX k f fd ps sp)(g:bW k X.A)(i:Gl X x)(j:X.mg x=some (.ref f))(hk:eE X.K (.ref f)=true)(l:bE X.K fd ps ds)(hd:aU dvs ds)(hx:fJ CX X E)
  (m:PA X (e::es) t) (a:(x==("__debug__" : ck))=false⊕'Pu) (n:kh (e::es) X.env=(false,eval e X.env)::kh es X.env⊕'Pt) (b:(qr pos (kh es X.env)).any (·.1)=false⊕'Pt) :
  PE X (.Call (.Name x p) (e::es) [] pos) (jH sp dvs E t):=by intro pins s σ H Q I h;show Qb (gS I i j ?_ a);show pC (h₀:=X.base) I.ok.mod.kin hk (thn (m pos pins s σ H _ I h) λus s1 c=>?_) n b;let(vs,H1,d,r,q):=c;show(d.kIn,?_);show vL F g l hd hx d r q
theorem eU{pl:Sem Bool}(v:PE X o ta)(c:Cls X.K C)(j:Fg X.K C m f)(F:aY X.prog X.w X.K X.mg X.base CX k f fd ps sp)(y:bW k X.A)(z:bE X.K fd ps ds)(hd:aU dvs ds)(hx:fJ CX X E)(B:PA X (e::es) t)
  (b:kh (e::es) X.env=(false,eval e X.env)::kh es X.env⊕'Pt) (d:(qr pos (kh es X.env)).any (·.1)=false⊕'Pt)
  (D:eval (.Call (.Attribute o m apos) (e::es) [] pos) X.env=(do
   let ov <-eval o X.env
   Qn apos.atName
   let (f,first) <-Qf [ov] (QX ov m pl)
   Zw pos f first (qr pos (kh (e::es) X.env)) (Qq pos (zz [] X.env)))⊕'Pt) :
  PE X (.Call (.Attribute o m apos) (e::es) [] pos) (Cq C m sp dvs E ta t):=by
 intro pins s σ H Q I h;show Nf (pl:=pl) (thn (v pins s σ H _ I h) λu s1 g=>?_) D
 cbv;let(x,H1,n,G,a,dx,fs,ex,J,l,q):=g;subst ex;obtain rfl:u=di a:=G
 w_up;show kA n J c j l ?_;show pC (first:=[.ref a]) (h₀:=X.base) I.ok.mod.kin j.kp (thn (B pos pins s1 σ H1 _ n q) λus s2 i=>?_) b d;let(vs,H2,p,r,L):=i;show(p.kIn,?_);show vL (us:=.ref a::us) (vs:=.ref a::vs) F y z hd hx p (.cons rfl r) L
theorem zq{pl:Sem Bool}(g:PE X o ta)(c:Cls X.K C)(e:Fg X.K C m f)(F:aY X.prog X.w X.K X.mg X.base CX k f fd ps sp)(i:bW k X.A)(j:bE X.K fd ps ds)(hd:aU dvs ds)(hx:fJ CX X E)
  (n:eval (.Call (.Attribute o m apos) [] [] pos) X.env=(do
   let ov <-eval o X.env
   Qn apos.atName
   let (f,first) <-Qf [ov] (QX ov m pl)
   Zw pos f first (qr pos (kh [] X.env)) (Qq pos (zz [] X.env)))⊕'Pt) :
  PE X (.Call (.Attribute o m apos) [] [] pos) (Cq C m sp dvs E ta iQ):=by
 intro pins s σ H Q I h;show Nf (pl:=pl) (thn (g pins s σ H _ I h) λu s1 b=>?_) n
 cbv;let(x,H1,d,p,a,dx,fs,ex,r,l,q):=b;subst ex;obtain rfl:u=di a:=p
 w_up;show kA d r c e l ?_;show Nj (first:=[.ref a]) d.kIn e.kp (vL (us:=[.ref a]) (vs:=[.ref a]) F i j hd hx d (.cons rfl .nil) q)
structure Mk(K:cp)(C f:aG):Prop where
 makes:rr K C=true
 init:ed K (.ref C) "__init__" = some (some (.ref f))
 fn : xD K (.ref f)=true
 kp : eE K (.ref C)=true
theorem y9{pins:OU}{σ:St}{H:Hp}{s:bb}{Q:VK}{us:Ph}{vs:Pl}(M:Mk X.K C f)(F:aY X.prog X.w X.K X.mg X.base CX k f fd ps sp)(g:bW (k+1) X.A)(i:bE X.K fd ps ds)(hd:aU dvs ds)
  (hx:fJ CX X E) (I:Inv X pins σ H s) (r:aU vs us)
  (h : ∀x dx,H x=Pp->H dx=Pp->dx≠x->sp (.ref x::(vs++dvs)) (upd (upd H dx (.own x)) x (.ins C dx [])) (λv H2=>v=.non/\Q (.ref x) H2) E) :
  kn (kq X.prog X.w) X.A (call (.ref C) us) (EP X pins σ Q) X.xe s:=by
 let c:=h ((~~~s)+1) (~~~s) (I.hok.fresh (L3 _)) (I.hok.fresh (Lf _)) (Lr (LR _));let b:=Inv.made (C:=C) I;let d:aU (V.ref ((~~~s)+1)::(vs++dvs)) (di ((~~~s)+1)::(us++ds)):=.cons rfl (r.append hd);let hl:(di ((~~~s)+1)::us++ds).length=-ps:=by let e:=-d;rw[F.len _ _ _ _ c]at e;show e.symm
 show QN (z0 (f:=f) I.kIn M.makes M.init (beq_iff_eq.mp M.fn) (QJ (F.run _ X.stack _ _ (di ((~~~s)+1)::us,[]) (di ((~~~s)+1)::(us++ds)) _ _ E (g.make C us [])
  (b.env0.make C us []) (i _ (di ((~~~s)+1)::us) b.kIn hl) d c) λr s' a=>?_))
 cases r with
 |error e=>show hx pins σ _ _ e s' b a
 |ok fl =>
  cases fl with
  |ret u =>
   let(v,H',j,l,ev,m):=b.after a;subst ev;show(l,(V.ref ((~~~s)+1),H',j,rfl,m))
  |next=>show False.elim a
  |brk=>show False.elim a
  |cont=>show False.elim a
theorem zr(M:Mk X.K C f)(F:aY X.prog X.w X.K X.mg X.base CX k f fd ps sp)(b:bW (k+1) X.A)(c:Gl X x)(d:X.mg x=some (.ref C))(e:bE X.K fd ps ds)(hd:aU dvs ds)(hx:fJ CX X E)
  (a:(x==("__debug__" : ck))=false⊕'Pu):PE X (.Call (.Name x p) [] [] pos) (Cr C sp dvs E iQ):=by intro pins s σ H Q I h;show Qb (gS I c d ?_ a);show Nj I.kIn M.kp (y9 (us:=[]) M F b e hd hx I .nil h)
end
def PK(X:Cx)(kws:Pk)(t:TA):Prop :=
 ∀(pos:Pos) (pins:OU) (s:bb) (σ:St) (H:Hp) (Q:Pl->Hp->Prop),Inv X pins σ H s->t σ H Q->kn (kq X.prog X.w) X.A (evalAll ((Qq pos (zz kws X.env)).map (·.2))) (AP X pins σ Q) X.xe s
section
variable{X:Cx}{x:ck}{pos kpos:Pos}{e:bi}{kws:Pk}{te:TE}{t:TA}{nm:Option ck}
theorem Gk:PK X [] iQ:=λY Y Y Y H Q I h=>wpAny_evalAll_nil ([],H,I,.nil,h)
theorem Db(b:PE X e te)(c:PK X kws t):PK X ((nm,e,kpos)::kws) (bv te t):=by intro pos pins s σ H Q I h;show kn _ _ (evalAll ((do let v <-eval e X.env;Qn pos;pure v)::(Qq pos (zz kws X.env)).map (·.2))) _ _ s;show wpAny_evalAll_cons (jj (thn (b pins s σ H _ I h) λu s1 a=>?_));let(x,H1,d,f,q1):=a;show jj (QE (kf ?_));show thn (c pos pins s1 σ H1 _ d q1) λus s2 ⟨xs,H2,g,i,j⟩=>(x::xs,H2,g,.cons f i,j)
end
structure ax(N P:Pi)(sc:Qc):Prop where
 kind:sc.kind=.function:=by rfl
 co : sc.isCoroutine=false:=by rfl
 gen:sc.isGenerator=false:=by rfl
 nd : N.Nodup:=by decide +kernel
 pre:N.take P.length=P:=by rfl
 par:∀x∈P,sc.names.lookup x=some .local\/sc.names.lookup x=some .cell:=by decide +kernel
 nofree:∀y∈sc.names,y.2≠.free:=by decide +kernel
theorem oI{kindOf:ck->Option NameKind}{x:ck}:∀{binds:OZ}{m:ck->O3},(∀v,(x,v) ∉ binds)->Z0 kindOf binds m x=m x
 |[],_,_=>rfl
 |(n,v)::r,m,h=>by
  unfold Z0;rw[oI λw hw=>h w (K5 _ hw)];split;let:x≠n:=by rintro rfl;show h v K3
  simp[this];rfl
theorem oK{kindOf:ck->Option NameKind}{x:ck}:∀{binds:OZ}{m:ck->O3},(∀v,(x,v) ∉ binds)->Z1 kindOf binds m x=m x
 |[],_,_=>rfl
 |(n,v)::r,m,h=>by
  unfold Z1;rw[oK λw hw=>h w (K5 _ hw)];split;rfl;let:x≠n:=by rintro rfl;show h v K3
  simp[this]
theorem oJ{kindOf:ck->Option NameKind}{x:ck}{v:ba}:∀{P:Pi}{vs:Ph}{i:Nat}{m:ck->O3},P.Nodup->P[i]?=Po x->vs[i]?=Po v->kindOf x=Po .local ->
  Z0 kindOf (P.zip vs) m x=Po v
 |[],_,_,_,_,h,_,_=>by simp at h
 |_::_,[],_,_,_,_,h,_=>by simp at h
 |p::P,w::vs,0,m,nd,h1,h2,hk=>by
  simp at h1 h2;subst h1;subst h2;show Z0 kindOf ((p,w)::P.zip vs) m p=_;unfold Z0;rw[oI λv hv=>(Ll.mp nd).1 (MF hv).1,OG hk];simp
 |p::P,w::vs,i+1,m,nd,h1,h2,hk=>by
  show Z0 kindOf ((p,w)::P.zip vs) m x=_;unfold Z0;show oJ (i:=i) (Ll.mp nd).2 (by simpa using h1) (by simpa using h2) hk
theorem oM{kindOf:ck->Option NameKind}{x:ck}{v:ba}:∀{P:Pi}{vs:Ph}{i:Nat}{m:ck->O3},P.Nodup->P[i]?=Po x->vs[i]?=Po v->kindOf x≠Po .local ->
  Z1 kindOf (P.zip vs) m x=Po v
 |[],_,_,_,_,h,_,_=>by simp at h
 |_::_,[],_,_,_,_,h,_=>by simp at h
 |p::P,w::vs,0,m,nd,h1,h2,hk=>by
  simp at h1 h2;subst h1;subst h2;show Z1 kindOf ((p,w)::P.zip vs) m p=_;unfold Z1;rw[oK λv hv=>(Ll.mp nd).1 (MF hv).1,OH hk];simp
 |p::P,w::vs,i+1,m,nd,h1,h2,hk=>by
  show Z1 kindOf ((p,w)::P.zip vs) m x=_;unfold Z1;show oM (i:=i) (Ll.mp nd).2 (by simpa using h1) (by simpa using h2) hk
noncomputable def bq(N:Pi)(vs:Pl):St:=vs.map Po++LM (-N- -vs) Pp
noncomputable def gC(CX:CXT)(P:ky)(w:kD)(K:cp)(mg:ck->O3)(base:cc)(N:Pi)(qual:ck)(scope:Qc)(f:aG)(cd:ba)(A:Around)(outer:Pa)(s:bb)(H:Hp)(E:XK):Cx where
 prog:=P
 w := w
 K := K
 mg := mg
 base:=base
 A := A.deeper (QA qual scope (~~~s) f cd)
 N := N
 s₀ := s
 H₀ := H
 env:=QA qual scope (~~~s) f cd
 outer:=outer
 stack:=QA qual scope (~~~s) f cd::outer
 ex := []
 calm:=Pq
 fn := λY=>Pq
 pn := []
 xe := λe s'=>kn (kq P w) (A.deeper (QA qual scope (~~~s) f cd)) (Z7 (QA qual scope (~~~s) f cd) e) (λY a=>CX outer H s E e a) (λe' a=>CX outer H s E e' a) s'
theorem mf{sc:Qc}{n:Nat}{x:ck}(h:sc.names.lookup x=Po .cell):∃c,(zs n sc.names []).lookup x=Po c:=by let q:=ro sc.names n [] (.inl h);show Me.mp q
theorem nO{CX:CXT}{P:ky}{w:kD}{K:cp}{mg:ck->O3}{base:cc}{N ps:Pi}{qual:ck}{scope:Qc}{f:aG}{cd:ba}{A:Around}{outer:Pa}{s s1:bb}{H:Hp}{E:XK}{us:Ph}{vs:Pl}
  (S : ax N ps scope) (hd:A.handled=Pp) (d:qW P w K mg base A outer s H) (hl:-vs=-ps) (r:aU vs us)
  (x : InCallC s (~~~s) (Z0 (QA qual scope (~~~s) f cd).kindOf (ps.zip us) λY=>Pp) (zs ((~~~s)+1) scope.names []) (Z1 (QA qual scope (~~~s) f cd).kindOf (ps.zip us) λY=>Pp) s1) :
  Inv (gC CX P w K mg base N qual scope f cd A outer s H E) [] (bq N vs) H s1:=by
 let t:-ps<=-N:=by let:=congrArg nn S.pre;rw[MC]at this;lia
 let(h1,tk,rfl,hk):=x.done;let g:∀b:aG,b ∉ (gC CX P w K mg base N qual scope f cd A outer s H E).ex:=λb z=>absurd (show b∈([]:Pg) from z) (!1);show((d.mod,S.kind,rfl,rfl,Lf _,λy z c h1 h2=>?_,λy j=>?_,λy c Y h=>?_,λY=>hd,Around.frames_deeper d.frames,.inr (rfl,rfl),λb z=>absurd z (g b),d.bs,d.bsz,λb Y Y=>g b,λb z=>absurd z (g b),d.funs,d.frf,d.tab),
  rfl,d.bare,Un.kept hk,(_,x.toInCall.ns,λi y v h1 h2 D=>?_),λy c h=>(_,x.cell y c h),d.hok.fresh (Lf _),λy c h=>?_,λp l=>absurd (show p∈([]:OU) from l) (!1),d.hok.kept hk,?_)
 show name_of_addr x.apart (hV h1) (hV h2);let j:scope.names.lookup y=Po .cell\/scope.names.lookup y=Po .free:=j;rcases j with j|j;show mf j;show absurd rfl (S.nofree _ (hV j));show MH (x.above y c (hV h));let hi:i< -vs:=by unfold bq at h2;by_cases hi:i< -vs;show hi;rw[L8 (by simpa using hi)]at h2;rw[List.getElem?_replicate]at h2;split at h2 <;> cases h2
 let B:vs[i]?=Po v:=by
  unfold bq at h2;rw[L1 (by simpa using hi),LD]at h2;cases e:vs[i]? with
  |none=>rw[e]at h2;cases h2
  |some a=>rw[e]at h2;cases h2;rfl
 let(u,o,C):=r.get B;let l:ps[i]?=Po y:=by rw[<-S.pre,List.getElem?_take_of_lt (!0)];show h1
 let m:ps.Nodup:=by rw[<-S.pre];show S.nd.sublist (List.take_sublist _ _)
 show(u,C,?_);rcases S.par y (LF l) with k|k;show .inl (k,oJ m l o k);let(c,e):=mf (n:=(~~~s)+1) k;show .inr (.inl k,c,e,?_);let q:=x.cell y c e;rw[oM m l o (by show scope.names.lookup y≠_;rw[k];decide)]at q;show q;show d.hok.fresh (MH (x.above y c (hV h)));unfold bq;show _=-N;rw[LB,K4,List.length_replicate];lia
theorem Ec{CX:CXT}{P:ky}{w:kD}{K:cp}{mg:ck->O3}{base:cc}{k:Nat}{f:aG}{name qual:ck}{params:QO}{body:O6}{scope:Qc}{m kV doc pm cdv ct oc:ba}{an od:O4}
  {osl:ON}{N ps:Pi}{sp:Sp} (lk:K.lookup f=some (oc,od,.func (hX name qual params body scope m kV doc pm an cdv ct),osl)) (h:nf K cdv qual=true) (S:ax N ps scope)
  (len:∀vs H Q E,sp vs H Q E->vs.length=ps.length)
  (a:∀(A:Around) (outer:Pa) (s:bb) (H:Hp) (vs:Pl) (Q:VK) (E:XK),bW k (A.deeper (QA qual scope s.heap.objs.size f cdv))->sp vs H Q E ->
   ∃t,PSs (gC CX P w K mg base N qual scope f cdv A outer s H E) body t/\t { nx:=λY H'=>Q .non H',rt:=Q } (bq N vs) H) :
  aY P w K mg base CX (k+1) f (hX name qual params body scope m kV doc pm an cdv ct) ps sp:=by
 show(len,λA outer s H args us vs Q E i d z r g=>?_);let hl:=len _ _ _ _ g;let p:K.In s.heap:=d.mod.kin.keeps λb o e=>(d.bs b o e).1;let j:s.heap.NoLimit:=d.mod.nolimit.keeps λb o e=>(d.bs b o e).1;let c:∀y∈ps.zip us,scope.names.lookup y.1=Po .local\/(scope.names.lookup y.1=Po .cell/\((zs ((~~~s)+1) scope.names []).lookup y.1).isSome=Pq):=λ⟨n,v⟩ B=>by
  rcases S.par n (MF B).1 with q|q;show .inl q;show .inr (q,ro _ _ _ (.inl q))
 show codeAny_call_function i.depth (p _ _ lk) rfl S.co S.gen rfl (PySem.W.codeRec_of p h) (z _ _ _ _ ?_);show ZL S.kind c λenv C s1 x=>?_;subst C;show(j.keeps x.toInCall.keep,codeAny_func ?_);let(t,D,F):=a A outer s H vs Q E (i.deeper _) g;let I:Inv (gC CX P w K mg base N qual scope f cdv A outer s H E) [] (bq N vs) H s1:=nO S i.hd d hl r x;show qD (D [] s1 (bq N vs) H _ I F) (λfl s' hs=>?_) λe s' hs=>hs;let fin:∀{σ':St}{H':Hp}{v:V}{u:ba},Inv (gC CX P w K mg base N qual scope f cdv A outer s H E) [] σ' H' s'->br v u->Q v H'->CE outer P w H s Q u s' :=
  λ{σ' H' v u} J l q=>(v,H',J.os,J.bare,J.base,J.hok,l,q)
 cases fl with
 |ret u =>
  let(v,σ',H',J,l,q):=hs;show fin J l q
 |next =>
  let(σ',H',J,q):=hs;show fin (v:=V.non) (u:=dr) J rfl q
 |brk =>
  let(_,_,_,q):=hs;show False.elim q
 |cont =>
  let(_,_,_,q):=hs;show False.elim q
section
variable{X:Cx}{x:ck}{p pos:Pos}{e:bi}{es:Pj}{t:TA}{id T:String}{r:Pl->Hp->VK->Prop}
def tCB(r:Pl->Hp->VK->Prop)(t:TA):TE:=λσ H Q=>t σ H λvs H1=>r vs H1 Q
theorem cY(hc:fU X (.builtin id) r)(c:Gl X x)(d:X.mg x=none)(hv:Ql x=some (.builtin id))(f:PA X (e::es) t)(hn:x ≠ "__name__"⊕'Pu)(a:(x==("__debug__" : ck))=false⊕'Pu)
  (g:kh (e::es) X.env=(false,eval e X.env)::kh es X.env⊕'Pt) (b:(qr pos (kh es X.env)).any (·.1)=false⊕'Pt):PE X (.Call (.Name x p) (e::es) [] pos) (tCB r t):=by intro pins s σ H Q I h;show Qb (ie I c d hv ?_ hn a);show PyProof.Rows.callWith_builtin1 (thn (f pos pins s σ H _ I h) λus s1 ⟨vs,H1,i,j,q1⟩=>hc pins s1 σ H1 vs us Q i j q1) g b
theorem mU(hc:fU X (.type T) r)(c:Gl X x)(d:X.mg x=none)(hv:Ql x=some (.type T))(f:PA X (e::es) t)(hn:x ≠ "__name__"⊕'Pu)(a:(x==("__debug__" : ck))=false⊕'Pu)
  (g:kh (e::es) X.env=(false,eval e X.env)::kh es X.env⊕'Pt) (b:(qr pos (kh es X.env)).any (·.1)=false⊕'Pt):PE X (.Call (.Name x p) (e::es) [] pos) (tCB r t):=by intro pins s σ H Q I h;show Qb (ie I c d hv ?_ hn a);show lA (thn (f pos pins s σ H _ I h) λus s1 ⟨vs,H1,i,j,q1⟩=>hc pins s1 σ H1 vs us Q i j q1) g b
end
end _L
namespace HT
open PySem PyProof.Rows
noncomputable def lexLt:O7->O7->Bool
 |[],[]=>Pr
 |[],_::_=>Pq
 |_::_,[]=>Pr
 |x::xs,y::ys=>if x=y then lexLt xs ys else decide (x<y)
theorem lexLt_cons(x y:Int)(xs ys:O7):lexLt (x::xs) (y::ys)=if x=y then lexLt xs ys else decide (x<y):=rfl
theorem lexLt_nil_nil:lexLt [] []=Pr:=rfl
theorem lexLt_nil_cons(y:Int)(ys:O7):lexLt [] (y::ys)=Pq:=rfl
theorem lexLt_cons_nil(x:Int)(xs:O7):lexLt (x::xs) []=Pr:=rfl
section
open PySem.SeqAt
open PySem.AutoSeq1 (wpAny_loadPart')
open PySem.MeetsSeq PySem.MeetsSeq2 PySem.MeetsSeq3
end
section
noncomputable def sIx(n d:Nat):O2->Nat
 |none=>d
 |some v=>if v<0 then (v+(n:Int)).toNat else min v.toNat n
theorem sIx_none(n d:Nat):sIx n d Pp=d:=rfl
theorem sIx_nat(n d k:Nat):sIx n d (Po (k:Int))=min k n:=by show(if (k:Int)<0 then ((k:Int)+(n:Int)).toNat else min (k:Int).toNat n)=min k n;rw[OH (!0),Mo]
end
end HT
namespace _L
open PySem PySem.Spec PyProof.Rows
abbrev TO:=St->Hp->(O2->Hp->Prop)->Prop
def PO(X:Cx)(e:Option bi)(t:TO):Prop :=
 ∀(pins:OU) (s:bb) (σ:St) (H:Hp) (Q:O2->Hp->Prop),Inv X pins σ H s->t σ H Q ->
  kn (kq X.prog X.w) X.A (evalPart e X.env) (λu s'=>∃o H',Inv X pins σ H' s'/\IsPart u o/\Q o H') X.xe s
def Cp:TO:=λY H Q=>Q Pp H
def Ii(t:TE):TO:=λσ H Q=>t σ H λx H1=>∃i,x=.int i/\Q (Po i) H1
section
variable{X:Cx}{e:bi}{te:TE}{lo hi:Option bi}{tl th:TO}{pos p2:Pos}
theorem pH:PO X Pp Cp:=by intro pins s σ H Q I h;rw[evalPart_none];show kf (Pp,H,I,.none,h)
theorem pG(h:PE X e te):PO X (Po e) (Ii te):=by
 intro pins s σ H Q I hw;rw[evalPart_some];show thn (h pins s σ H _ I hw) λu s1 a=>?_
 cbv;let(x,H1,b,c,q1):=a;let(i,rfl,q):=q1;let(t,rfl):=c
 w_up;show(Po i,H1,b,.int i t,q)
def SlR(X:Cx)(r:V->O2->O2->Hp->VK->Prop):Prop :=
 ∀(pins:OU) (s:bb) (σ:St) (H:Hp) (x:V) (v a b:ba) (lo hi:O2) (sl:aG) (Q:VK),Inv X pins σ H s->br x v->s.heap.IsSliceOf sl a b .none->IsPart a lo->IsPart b hi->r x lo hi H Q ->
  ∃T id,QY (.type T) "__getitem__" = pure (Po (.builtin id))/\s.TypeIs v T/\kn (kq X.prog X.w) X.A (getItem v (.ref sl)) (EP X pins σ Q) X.xe s
def tSl(r:V->O2->O2->Hp->VK->Prop)(te:TE)(tl th:TO):TE:=λσ H Q=>te σ H λx H1=>tl σ H1 λl H2=>th σ H2 λu H3=>r x l u H3 Q
theorem lw{r:V->O2->O2->Hp->VK->Prop}(j:SlR X r)(k:PE X e te)(hl:PO X lo tl)(m:PO X hi th):PE X (.Subscript e (.Slice lo hi Pp p2) pos) (tSl r te tl th):=by intro pins s σ H Q I h;show Subscript_ (thn (k pins s σ H _ I h) λv s1 f=>?_);let(x,H1,n,o,q1):=f;show wpAny_Slice (thn (hl pins s1 σ H1 _ n q1) λc s2 g=>?_);let(l,H2,p,pl,t):=g;show thn (m pins s2 σ H2 _ p t) λd a i=>?_;let(u,H3,y,z,B):=i;rw[evalPart_none];show kf ?_;let C:Inv X pins σ H3 { a with heap:=a.heap.push { cls:=.type "slice",data:=.fields #[c,d,.none] } }:=y.kept (t':=a.toks) λb ob q=>La _ q;let(T,id,D,E,F):=j pins { a with heap:=a.heap.push { cls:=.type "slice",data:=.fields #[c,d,.none] } } σ H3 x v c d l u (~~~a) Q C o (OF ..) pl z B;show kn (kq X.prog X.w) X.A (Zm e (.Slice lo hi Pp p2) v (.ref (~~~a))) (EP X pins σ Q) X.xe { a with heap:=a.heap.push { cls:=.type "slice",data:=.fields #[c,d,.none] } };show tail_any (ops:=[.ref (~~~a),v]) E D F (by with_unfolding_all rfl)
def yM(xs:Pl)(lo hi:O2):Pl:=(xs.drop (HT.sIx (-xs) 0 lo)).take (HT.sIx (-xs) (-xs) hi-HT.sIx (-xs) 0 lo)
theorem qF(xs:Pl)(lo hi:O2):(yM xs lo hi).length<=-xs:=by unfold yM;rw[MC,Oi];lia
end
noncomputable def ixN(n:Nat)(i:Int):Option Nat:=if 0<=i then (if i<n then Po i.toNat else Pp) else if -(n:Int)<=i then Po (i+n).toNat else Pp
def atI{α:Type}(xs:List α)(i:Int):Option α:=(ixN (-xs) i).bind λj=>xs[j]?
theorem xr{n:Nat}{i:Int}{j:Nat}(h:ixN n i=Po j):ZW i n=Po j/\j<n/\-(n:Int)<=i/\i<n:=by unfold ixN at h;by_cases h0:0<=i;rw[OG h0]at h;by_cases h1:i<n;rw[OG h1]at h;let e:i.toNat=j:=du h;show(by rw[seqIndex_of h0 h1,e],!0,!0,h1);rw[OH h1]at h;cases h;rw[OH h0]at h;by_cases h1:-(n:Int)<=i;rw[OG h1]at h;let e:(i+n).toNat=j:=du h;show(by rw[seqIndex_neg (!0) h1,e],!0,h1,!0);rw[OH h1]at h;cases h
theorem qN{α:Type}{xs:List α}{i:Int}{v:α}(h:atI xs i=Po v):∃j,ZW i (-xs)=Po j/\xs[j]?=Po v/\j< -xs/\-(-xs:Int)<=i/\i< -xs:=by
 unfold atI at h;cases e:ixN (-xs) i with
 |none=>rw[e]at h;cases h
 |some j =>
  rw[e]at h;let(h1,h2,a,b):=xr e;show(j,h1,h,h2,a,b)
theorem bx{α:Type}{xs:List α}{j:Nat}{v:α}(h:xs[j]?=Po v):atI xs (j:Int)=Po v:=by
 let hj:j< -xs:=(Lc.mp h).1;let e:ixN (-xs) (j:Int)=Po j:=by unfold ixN;rw[OG (!0),OG (!0)];simp
 unfold atI;rw[e];show h
def cr(b:bi):Prop:=∀o i,ZE b Pr o i=operate [o,i] (getItem o i)
def IxR(X:Cx)(r:R2):Prop :=
 ∀(value slice:bi) (pins:OU) (s:bb) (σ:St) (H:Hp) (x y:V) (v u:ba) (Q:VK),Inv X pins σ H s->br x v->br y u->r x y H Q ->
  ZE slice Pr v u=operate [v,u] (getItem v u)->kn (kq X.prog X.w) X.A (Zm value slice v u) (EP X pins σ Q) X.xe s
def MtR(X:Cx)(id:String)(r:V->Pl->Hp->VK->Prop):Prop :=
 ∀(pins:OU) (s:bb) (σ:St) (H:Hp) (x:V) (xs:Pl) (v:ba) (us:Ph) (Q:VK),Inv X pins σ H s->br x v->aU xs us->r x xs H Q ->
  kn (kq X.prog X.w) X.A (call (.builtin id) (v::us)) (EP X pins σ Q) X.xe s
section
variable{X:Cx}{a b:bi}{ta tb:TE}{pos:Pos}
theorem IxR.or{r a:R2}(h:IxR X r)(h':IxR X a):IxR X (λx y H Q=>r x y H Q\/a x y H Q):=by intro value slice pins s σ H x y v u Q I b c q hs;rcases q with q|q;show h value slice pins s σ H x y v u Q I b c q hs;show h' value slice pins s σ H x y v u Q I b c q hs
theorem gi{r:R2}(c:IxR X r)(d:PE X a ta)(e:PE X b tb)(hs:cr b):PE X (.Subscript a b pos) (tOp r ta tb):=by intro pins s σ H Q I h;show Subscript_ (JS d e I h λv u s2 x y H2 f g i q=>c a b pins s2 σ H2 x y v u Q f g i q (hs _ _))
def IA(K:cp):R2:=λx y H Q=>∃p xs i v,x=.ref p/\y=.int i/\SqL K H p xs/\atI xs i=Po v/\Q v H
def J7(K:cp):R2:=λx y H Q=>∃p xs i v,x=.ref p/\y=.int i/\SqT K H p xs/\atI xs i=Po v/\Q v H
def J8:R2:=λx y H Q=>∃z i c,x=.str z/\y=.int i/\z.length<=sizeLine/\atI z.cps.toList i=Po c/\Q (.str ⟨#[c]⟩) H
theorem xq:IxR X (IA X.K):=by
 intro value slice pins s σ H x y v u Q I d e h hs
 cbv;let(p,xs,i,z,rfl,rfl,f,g,q):=h;cases d;let(t,rfl):=e;let(a,r,pl,hz):=I.list f;let(j,h1,h2,m,k,l):=qN g;let(w,c,b):=r.get h2
 w_up;let hl:=-r;let hn:=kj;let fin:EP X pins σ Q w s:=(z,H,I,b,q)
 by_cases h0:0<=i;let hj:i.toNat=j:=by rw[seqIndex_of h0 l]at h1;show du h1
 show item_listR pl.isList h0 (!0) (by rw[hj];simpa using c) fin hs;let hj:(i+(a.toArray.size:Int)).toNat=j:=by rw[seqIndex_neg (!0) k]at h1;rw[Li,<-hl];show du h1
 show Z3 (x:=w) pl.isList.typeIs slot_list_getitem.lookup
  (wpAny_getItem_list_neg (Q:=λr s'=>r=w/\EP X pins σ Q r s') pl.isList (!0) (by rw[Li] <;> lia) (!0) (by rw[hj];simpa using c) (rfl,fin)) hs
theorem GT:IxR X (J7 X.K):=by
 intro value slice pins s σ H x y v u Q I b c h hs
 cbv;let(p,xs,i,z,rfl,rfl,d,e,q):=h;cases b;let(t,rfl):=c;let(f,r,pl,hz):=I.tuple d;let(j,h1,h2,k,l,m):=qN e;let(w,g,a):=r.get h2
 w_up;let hl:=-r;let hn:=kj;let fin:EP X pins σ Q w s:=(z,H,I,a,q)
 show Z3 (x:=w) pl.typeIs slot_tuple_getitem.lookup
  (getItem_tuple (j:=j) (Q:=λr s'=>r=w/\EP X pins σ Q r s') pl (!0) (!0) (by rw[Li,<-hl];show h1) (by simpa using g) (rfl,fin)) hs
theorem BA:IxR X J8:=by
 intro value slice pins s σ H x y v u Q I a b h hs
 cbv;let(z,i,c,rfl,rfl,hz,d,q):=h;let(t,rfl):=a;let(t',rfl):=b;let(j,h1,h2,g,e,f):=qN d
 w_up;let hl:z.cps.toList.length=-z:=by simp[Str.length]
 rw[hl]at h1 e f;let hn:=kj;show tail_any (typeIs_str s z t) slot_str_getitem.lookup (getItem_str (c:=c) (by
  let e1:decide (i < -(2 ^ 63:Int))=Pr:=decide_eq_false (!0);let e2:decide (i≥2 ^ 63)=Pr:=decide_eq_false (!0);rw[e1,e2,Oy]) (by rw[h1];simpa using h2) (.str ⟨#[c]⟩,H,I.tok _,(_,rfl),q)) hs
theorem uB(a:Ph)(n j:Nat)(u:ba):dt (·.setIfInBounds j u) { cls:=.type "list",data:=.seq a.toArray n }={ cls:=.type "list",data:=.seq (a.set j u).toArray n }:=by simp[dt]
theorem Inv.lst{pins:OU}{σ:St}{H:Hp}{s:bb}{p:aG}{xs:Pl}(I:Inv X pins σ H s)(h:H p=some (.lst xs)) :
  ∃(a:Ph) (n:Nat),aU xs a/\s.heap.get? p=some { cls:=.type "list",data:=.seq a.toArray n }/\xs.length<=sizeLine:=by let(z,a,n,r,e):=I.hok p _ h;show(a,n,r,e,z)
theorem Inv.lstUpd{pins:OU}{σ:St}{H:Hp}{s:bb}{p:aG}{xs ys:Pl}{a its':Ph}{n c:Nat}{f:Obj->Obj}(I:Inv X pins σ H s)(h:H p=some (.lst xs))
  (ho:s.heap.get? p=some { cls:=.type "list",data:=.seq a.toArray n }) (d:f { cls:=.type "list",data:=.seq a.toArray n }={ cls:=.type "list",data:=.seq its'.toArray c }) (r:aU ys its') (hz:ys.length<=sizeLine) (t:Nat) :
  Inv X pins σ (upd H p (.lst ys)) { s with heap:=s.heap.update p f,toks:=t }:=by
 let e:(s.heap.update p f).get? p=Po { cls:=.type "list",data:=.seq its'.toArray c }:=by rw[LG f ho (by rw[d] <;> rfl),d]
 show I.write (x:=p) (e:=p) (by rw[h];trivial) (.inl rfl) (λb u g q=>(Lx _ _ (Ne.symm g)).trans q) (_,e) ?_;show(hz,its',c,r,e)
def Iy:V->V->V->Hp->(Hp->Prop)->Prop:=λo i v H Q=>∃p xs k j,o=.ref p/\i=.int k/\H p=Po (.lst xs)/\ixN (-xs) k=Po j/\Q (upd H p (.lst (xs.set j v)))
theorem y4:Ia X Iy:=by
 intro pins s σ H o i v ov iv u Q I f g l h
 cbv;let(p,xs,k,j,rfl,rfl,b,hj,q):=h;cases f;let(t,rfl):=g;let(a,n,r,ho,hz):=I.lst b;let(h1,h2,c,d):=xr hj
 w_up;let hl:=-r;let hn:=kj;let e:Inv X pins σ (upd H p (.lst (xs.set j v))) { s with heap:=s.heap.update p (dt (·.setIfInBounds j u)) } :=
  I.lstUpd b ho (uB a n j u) (r.set l j) (by rw[LL];show hz) s.toks
 by_cases h0:0<=k;let hk:k.toNat=j:=by rw[seqIndex_of h0 d]at h1;show du h1
 show PySem.W.ki_setAt ho h0 (!0) (by rw[Li,<-hl];show d) (by rw[hk];show(_,e,q));let hk:(k+(a.toArray.size:Int)).toNat=j:=by rw[seqIndex_neg (!0) c]at h1;rw[Li,<-hl];show du h1
 show PySem.W.ki_setBack ho (!0) (by rw[Li,<-hl];show c) (!0) (by rw[hk];show(_,e,q))
theorem mM(lo hi:O2)(n:Nat):(QQ lo hi Pp n).1=((HT.sIx n 0 lo:Nat):Int)/\(QQ lo hi Pp n).2.1=((HT.sIx n n hi:Nat):Int)/\(QQ lo hi Pp n).2.2=1:=by
 show(?_,?_,rfl);cases lo with
 |none=>simp[QQ,HT.sIx]
 |some i =>
  simp only[QQ,HT.sIx,NV,show(1:Int)>0 by decide,if_true];by_cases h:i<0;simp only[h,if_true] <;> lia
  simp only[h,if_false] <;> lia
 cases hi with
 |none=>simp[QQ,HT.sIx]
 |some i =>
  simp only[QQ,HT.sIx,NV,show(1:Int)>0 by decide,if_true];by_cases h:i<0;simp only[h,if_true] <;> lia
  simp only[h,if_false] <;> lia
theorem kX(a:Ph)(lo hi:O2):slicePick a.toArray lo hi Pp=((a.drop (HT.sIx (-a) 0 lo)).take (HT.sIx (-a) (-a) hi-HT.sIx (-a) 0 lo)).toArray:=by let(h1,h2,b):=mM lo hi a.toArray.size;unfold slicePick;rw[h1,h2,b];simp only[sliceRange_one,pick_run,Li] <;> rfl
def J5(K:cp):V->O2->O2->Hp->VK->Prop:=λx lo hi H Q=>∃a xs,x=.ref a/\SqL K H a xs/\∀p,H p=Pp->Q (.ref p) (upd H p (.lst (yM xs lo hi)))
theorem Cv:SlR X (J5 X.K):=by
 intro pins s σ H x v i j lo hi sl Q I e hs pl f h
 cbv;let(a,xs,rfl,hx,q):=h;cases e;let(g,r,d,hz):=I.list hx
 w_up;let c:=-r;show("list",_,slot_list_getitem.lookup,d.isList.typeIs,?_);show wpAny_getItem_list_slice d.isList hs pl f .none (!1) ?_ (by rw[Li] <;> lia);rw[kX,<-c];show(.ref (~~~s),_,I.laid (t':=s.toks) (o:=.lst (yM xs lo hi)) (λb ob q=>La _ q) (Lf _) ?_,rfl,q _ (I.hok.fresh (Lf _)));show(Ld (qF xs lo hi) hz,_,0,(r.drop (HT.sIx (-xs) 0 lo)).take (HT.sIx (-xs) (-xs) hi-HT.sIx (-xs) 0 lo),Lm _ rfl)
def l0:V->Bool
 |.non=>Pq
 |.bl _=>Pq
 |.int _=>Pq
 |.str _=>Pq
 |_=>Pr
noncomputable def eqV:V->V->Bool
 |.non,.non=>Pq
 |.bl a,.bl b=>a==b
 |.bl a,.int b=>(if a then 1 else 0)==b
 |.int a,.bl b=>a==(if b then 1 else 0)
 |.int a,.int b=>a==b
 |.str a,.str b=>a==b
 |_,_=>Pr
theorem Hj{A:Around}{s:bb}{y x:V}{u v:ba}(d:br y u)(c:br x v)(f:l0 y=Pq)(e:l0 x=Pq):SeqAt.EqAt A s u v (eqV y x):=by
 cases y with
 |non =>
  cases d;cases x with
  |non=>cases c;show SeqAt.EqAt.same _
  |bl b=>cases c;show SeqAt.EqAt.none_bool b
  |int b=>let(t,rfl):=c;show SeqAt.EqAt.none_int b t
  |str b=>let(t,rfl):=c;show SeqAt.EqAt.none_str b t
  |_=>show absurd (show Pr=Pq from e) Lq
 |bl a =>
  cases d;cases x with
  |non=>cases c;show SeqAt.EqAt.bool_none a
  |bl b=>cases c;show SeqAt.EqAt.bool_bool a b
  |int b=>let(t,rfl):=c;show SeqAt.EqAt.bool_int a b t
  |str b=>let(t,rfl):=c;show SeqAt.EqAt.bool_str a b t
  |_=>show absurd (show Pr=Pq from e) Lq
 |int a =>
  let(t',rfl):=d;cases x with
  |non=>cases c;show SeqAt.EqAt.int_none a t'
  |bl b=>cases c;show SeqAt.EqAt.int_bool a t' b
  |int b=>let(t,rfl):=c;show SeqAt.EqAt.int_int a t' b t
  |str b=>let(t,rfl):=c;show Nd a t' b t
  |_=>show absurd (show Pr=Pq from e) Lq
 |str a =>
  let(t',rfl):=d;cases x with
  |non=>cases c;show SeqAt.EqAt.str_none a t'
  |bl b=>cases c;show SeqAt.EqAt.str_bool a t' b
  |int b=>let(t,rfl):=c;show Nc a t' b t
  |str b=>let(t,rfl):=c;show SeqAt.EqAt.str_str a t' b t
  |_=>show absurd (show Pr=Pq from e) Lq
 |_=>show absurd (show Pr=Pq from f) Lq
def eqU(x:V)(u:ba):Bool:=match u with
 |.none=>eqV .non x
 |.bool b=>eqV (.bl b) x
 |.int i _=>eqV (.int i) x
 |.str z _=>eqV (.str z) x
 |_=>Pr
theorem BV{x y:V}{u:ba}(r:br y u)(f:l0 y=Pq):eqU x u=eqV y x:=by
 cases y with
 |non=>cases r;rfl
 |bl b=>cases r;rfl
 |int i=>let(t,rfl):=r;rfl
 |str z=>let(t,rfl):=r;rfl
 |_=>show absurd (show Pr=Pq from f) Lq
theorem qQ{x:V}:∀{xs:Pl}{us:Ph},aU xs us->xs.all l0=Pq->us.any (eqU x)=xs.any λy=>eqV y x
 |_,_,.nil,_=>rfl
 |y::xs,u::us,.cons r t,f=>by
  rw[Ox,LX]at f;rw[Mx,Mx,BV r f.1,qQ t f.2]
theorem lS{A:Around}{s:bb}{x:V}{v:ba}(b:br x v)(c:l0 x=Pq):∀{xs:Pl}{us:Ph},aU xs us->xs.all l0=Pq->∀u∈us,SeqAt.EqAt A s u v (eqU x u)
 |_,_,.nil,_=>λu a=>by cases a
 |y::xs,u::us,.cons r t,f=>λd a=>by
  rw[Ox,LX]at f;rcases K9.mp a with rfl|a;rw[BV r f.1];show Hj r b f.1 c;show lS b c t f.2 d a
def inV(x:V)(xs:Pl):Bool:=xs.any λy=>eqV y x
def rIn(K:cp)(neg:Bool):R2:=λx y H Q=>∃p xs,y=.ref p/\(SqL K H p xs\/SqT K H p xs)/\l0 x=Pq/\xs.all l0=Pq/\Q (.bl (if neg then !inV x xs else inV x xs)) H
theorem wM:OpR X (q5 .In) (rIn X.K Pr):=by
 intro pins s σ H x y v u Q I c e h
 cbv;let(p,xs,rfl,b,d,fs,q):=h;cases e
 w_up;rcases b with b|b;let(a,r,pl,hz):=I.list b;show SeqAt.in_listAt (eqU x) pl.isList (λw hw=>lS c d r fs w (by simpa using hw)) (.bl _,H,I,rfl,?_);rw[show a.toArray.any (eqU x)=a.any (eqU x) by simp,qQ r fs];show q;let(a,r,pl,hz):=I.tuple b;show SeqAt.in_tupleAt (eqU x) pl (λw hw=>lS c d r fs w (by simpa using hw)) (.bl _,H,I,rfl,?_);rw[show a.toArray.any (eqU x)=a.any (eqU x) by simp,qQ r fs];show q
theorem oC:fU X (.builtin "len") (λxs H Q=>∃p ys,xs=[.ref p]/\(SqL X.K H p ys\/SqT X.K H p ys)/\Q (.int (-ys)) H):=by
 intro pins s σ H xs us Q I r h
 cbv;let(p,ys,rfl,b,q):=h;let(u,rfl,e):=jG r;cases e
 w_up;let hn:=kj;rcases b with b|b;let(c,d,pl,hz):=I.list b;let a:=-d;show Calls.call_len_list pl.isList (by simp only[Li] <;> lia) (.int (-ys),H,I.tok _,(s.toks+1,by rw[Li,a]),q);let(c,d,pl,hz):=I.tuple b;let a:=-d;show len_tuple pl (by simp only[Li] <;> lia) (.int (-ys),H,I.tok _,(s.toks+1,by rw[Li,a]),q)
theorem oB:fU X (.type "list") (λxs H Q=>∃p ys,xs=[.ref p]/\(SqL X.K H p ys\/SqT X.K H p ys)/\∀l,H l=Pp->Q (.ref l) (upd H l (.lst ys))):=by
 intro pins s σ H xs us Q I r h
 cbv;let(p,ys,rfl,d,q):=h;let(u,rfl,g):=jG r;cases g
 w_up;let fin:∀(a:Ph),aU ys a->-ys<=sizeLine->∀(h':cc) (c':Nat),(∀b o',s.heap.get? b=Po o'->h'.get? b=Po o') ->
   h'.get? (~~~s)=Po { cls:=.type "list",dict:=Pp,data:=.seq a.toArray c',slots:=#[] }->EP X pins σ Q (.ref (~~~s)) { s with heap:=h' }:=λa c hz h' c' kp e =>
  (.ref (~~~s),_,I.laid (t':=s.toks) kp (Lf _) (show cO X.prog X.w _ h' _ (.lst ys) from(hz,a,c',c,e)),rfl,q _ (I.hok.fresh (Lf _)))
 rcases d with d|d;let(a,c,pl,hz):=I.list d;let f:=-c;let(o,ho,hc,n,hd):=pl.isList;show call_list_seq p (.inl rfl) ho hc hd (λh' c' kp e=>fin a c hz h' c' kp e) (by simp only[Li] <;> lia);let(a,c,pl,hz):=I.tuple d;let f:=-c;let(o,ho,hc,n,hd):=pl;show call_list_seq p (.inr rfl) ho hc hd (λh' c' kp e=>fin a c hz h' c' kp e) (by simp only[Li] <;> lia)
theorem mh:fU X (.type "tuple") (λxs H Q=>∃p ys,xs=[.ref p]/\((SqL X.K H p ys/\∀l,H l=Pp->Q (.ref l) (upd H l (.tup ys)))\/(SqT X.K H p ys/\Q (.ref p) H))):=by
 intro pins s σ H xs us Q I r h
 cbv;let(p,ys,rfl,h):=h;let(u,rfl,i):=jG r;cases i
 w_up;rcases h with⟨c,q⟩|⟨c,q⟩
 let(a,d,pl,hz):=I.list c;let f:=-d;show call_tuple_list pl.isList (λh' kp=>?_) (by simp only[Li] <;> lia);let g:Inv X pins σ H { s with heap:=h' }:=I.kept (t':=s.toks) kp;let j:Inv X pins σ (upd H h'.objs.size (.tup ys)) { s with heap:=h'.push { cls:=.type "tuple",data:=.seq a.toArray } } :=
  g.laid (t':=s.toks) (λb o e=>La _ e) (Lf _) (show cO X.prog X.w _ _ _ (.tup ys) from(hz,a,d,AU.new _ _))
 show(.ref h'.objs.size,_,j,rfl,q _ (g.hok.fresh (Lf _)));let(a,d,pl,hz):=I.tuple c;show call_tuple_same pl (.ref p,H,I,rfl,q)
def tyV(K:cp)(T:String)(x:V)(H:Hp):Prop:=match x with
 |.str _=>T = "str"
 |.int _=>T = "int"
 |.ref p=>(T = "list" /\ ∃xs,SqL K H p xs)\/(T = "tuple" /\ ∃xs,SqT K H p xs) \/
   (T = "dict" /\ ((∃kvs,H p=Po (.dK kvs))\/∃kvs,H p=Po (.dT kvs)))\/(T = "set" /\ ∃S n,H p=Po (.set S n))
 |_=>False
theorem AW{pins:OU}{σ:St}{H:Hp}{s:bb}{T:String}{x:V}{v:ba}(I:Inv X pins σ H s)(r:br x v)(ty:tyV X.K T x H) :
  s.TypeIs v T/\∀a,v=.ref a->∃ob,s.heap.get? a=Po ob/\ob.dict=Pp:=by
 cases x with
 |str z =>
  let(t,rfl):=r;cases (show T = "str" from ty);show(typeIs_str s z t,λY e=>nomatch e)
 |int i =>
  let(t,rfl):=r;cases (show T = "int" from ty);show(typeIs_int s i t,λY e=>nomatch e)
 |ref p =>
  cases r;rcases ty with⟨rfl,xs,b⟩|⟨rfl,xs,b⟩|⟨rfl,hk⟩|⟨rfl,S,n,hk⟩
  .let(d,_,pl,_):=I.list b;show(pl.isList.typeIs,λa e=>?_)
   cbv;cases e;let(o,n,e,c,hd,_):=pl
   w_up;show(o,e,hd)
  let(d,_,o,e,hc,_,hd):=I.tupleN b;show((o,e,hc),λa e'=>?_);cases e';show(o,e,hd);let z:∃o,s.heap.get? p=Po o/\o.ExactDict:=by
   rcases hk with⟨kvs,hk⟩|⟨kvs,hk⟩
   let(_,_,_,_,o,_,_,e,ex,_):=I.hok p _ hk;show(o,e,ex);let(_,_,_,_,o,_,_,e,ex,_):=I.hok p _ hk;show(o,e,ex)
  let(o,e,ex):=z;show((o,e,ex.1),λa e2=>?_);cases e2;show(o,e,ex.2.1);let(o,_,_,_,e,ex,_):=I.hok p _ hk;show((o,e,ex.1),λa e2=>?_);cases e2;show(o,e,ex.2.1)
 |_=>show False.elim ty
def Ip(K:cp)(T:String)(r:V->Pl->Hp->VK->Prop)(to:TE):TE:=λσ H Q=>to σ H λx H1=>tyV K T x H1/\r x [] H1 Q
def tBM(K:cp)(T:String)(r:V->Pl->Hp->VK->Prop)(to:TE)(t:TA):TE:=λσ H Q=>to σ H λx H1=>tyV K T x H1/\t σ H1 λxs H2=>r x xs H2 Q
variable{o e:bi}{es:Pj}{to:TE}{t:TA}{name:ck}{apos cpos:Pos}{T id:String}{r:V->Pl->Hp->VK->Prop}
theorem Gu(g:ZQ T)(slot:Slot T name id)(c:Zz (.builtin id)=pure (.type "method_descriptor"))(i:MtR X id r)(ho:PE X o to)
  (a:zp o name X.env (eval o X.env)=eval o X.env⊕'Pt) (b:(apos.endLine==cpos.line)=true⊕'Pt):PE X (.Call (.Attribute o name apos) [] [] cpos) (Ip X.K T r to):=by intro pins s σ H Q I h;show wpAny_Call_method0_late a b (thn (ho pins s σ H _ I h) λv s1 d=>?_);let(x,H1,e,f,ty,q1):=d;let(h1,h2):=AW e f ty;show(T,id,g,slot,c,h1,h2,Calls.callWith_builtin rfl (PySem.evalArgs_none (i pins s1 σ H1 x [] v [] Q e f .nil q1)))
theorem zu(l:ZQ T)(slot:Slot T name id)(f:Zz (.builtin id)=pure (.type "method_descriptor"))(m:MtR X id r)(ho:PE X o to)(n:PA X (e::es) t)
  (b:zp o name X.env (eval o X.env)=eval o X.env⊕'Pt)
  (d:((qr cpos (kh (e::es) X.env)).all (λx=>!x.1)&&(Qq cpos (zz [] X.env)).all (λx=>x.1.isSome)
   && decide ((e::es).length+([]:Pk).length+(if ([]:Pk).isEmpty then 0 else 1)<30))=true⊕'Pt)
  (c:(apos.endLine==cpos.line)=true⊕'Pt) (hs:kh (e::es) X.env=(false,eval e X.env)::kh es X.env⊕'Pt) (a:(qr cpos (kh es X.env)).any (·.1)=false⊕'Pt) :
  PE X (.Call (.Attribute o name apos) (e::es) [] cpos) (tBM X.K T r to t):=by intro pins s σ H Q I h;show wpAny_Call_method_late b d c rfl (thn (ho pins s σ H _ I h) λv s1 g=>?_);let(x,H1,i,j,ty,q1):=g;let(h1,h2):=AW i j ty;show(T,id,l,slot,f,h1,h2,?_);let k:=n cpos pins s1 σ H1 _ i q1;rw[hs]at k ⊢;show Calls.callWith_builtin (by show(Pr ||(qr cpos (kh es X.env)).any (·.1))=Pr;rw[a] <;> rfl) (Calls.evalArgs_plain ?_);show thn k λus s2 ⟨vs,H2,p,q,u⟩=>m pins s2 σ H2 x vs v us Q p j q u
end
def MtM(X:Cx)(id:String)(r:V->Pl->Hp->VK->Prop):Prop :=
 ∀(pins:OU) (s:bb) (σ:St) (H:Hp) (x:V) (xs:Pl) (v:ba) (us:Ph) (Q:VK),Inv X pins σ H s->br x v->aU xs us->r x xs H Q ->
  kn (kq X.prog X.w) X.A (call (.builtin id) (v::us)) (EP X pins σ Q) X.xe s
theorem aU.consI{x:V}{xs:Pl}{us:Ph}(h:aU (x::xs) us):∃u vs,us=u::vs/\br x u/\aU xs vs:=by
 cases h with
 |cons r q=>show(_,_,rfl,r,q)
theorem aU.zero{us:Ph}(h:aU [] us):us=[]:=by cases h;rfl
theorem aU.one{x:V}{us:Ph}(h:aU [x] us):∃u,us=[u]/\br x u:=by let(u,vs,rfl,r,q):=h.consI;rw[aU.zero q];show(u,rfl,r)
theorem aU.dropLast{xs:Pl}{us:Ph}(h:aU xs us):aU xs.dropLast us.dropLast:=by
 induction h with
 |nil=>show .nil
 |cons r t ih =>
  cases t with
  |nil=>show .nil
  |cons q t'=>show .cons r ih
theorem aU.eraseIdx:∀{xs:Pl}{us:Ph} (i:Nat),aU xs us->aU (xs.eraseIdx i) (us.eraseIdx i)
 |_,_,_,.nil=>.nil
 |_,_,0,.cons _ t=>t
 |_,_,i+1,.cons r t=>.cons r (aU.eraseIdx i t)
theorem uK{α:Type}(l:List α):l.eraseIdx (-l-1)=l.dropLast:=by
 induction l with
 |nil=>rfl
 |cons a r ih =>
  cases r with
  |nil=>rfl
  |cons b r =>
   let e:(a::b::r).length-1=((b::r).length-1)+1:=by let h1:(a::b::r).length=-r+2:=rfl;let h2:(b::r).length=-r+1:=rfl;lia
   rw[e,List.eraseIdx_cons_succ,ih]
   all_goals rfl
theorem nh{α:Type}:∀(l:List α) (i:Nat),(l.eraseIdx i).length<=-l
 |[],_=>Lf _
 |_::_,0=>L3 _
 |_::r,i+1=>Nat.succ_le_succ (nh r i)
section
variable{X:Cx}{pins:OU}{σ:St}{H:Hp}{s:bb}{l:aG}{xs ys:Pl}
theorem Inv.lset{a its':Ph}{n:Nat}{f:O8->O8}{t':Nat}(I:Inv X pins σ H s)(b:H l=some (.lst xs))
  (e : s.heap.get? l=some { cls:=.type "list",data:=.seq a.toArray n }) (c:f a.toArray=its'.toArray) (hv:aU ys its') (hz:ys.length<=sizeLine) :
  Inv X pins σ (upd H l (.lst ys)) { s with heap:=s.heap.update l (dt f),toks:=t' }:=by let q:=PySem.IsL.update e f;rw[c]at q;show I.write (x:=l) (e:=l) (by rw[b];show trivial) (.inl rfl) (λb' u d g=>(Lx s.heap (dt f) (Ne.symm d)).trans g) (_,q) ?_;show(hz,its',_,hv,q)
theorem Inv.lnew{a:Ph}{t':Nat}(I:Inv X pins σ H s)(hv:aU ys a)(hz:ys.length<=sizeLine) :
  Inv X pins σ (upd H s.heap.objs.size (.lst ys)) { s with heap:=s.heap.push { cls:=.type "list",data:=.seq a.toArray },toks:=t' } :=
 I.laid (λY Y q=>La _ q) (Lf _) (hz,a,0,hv,Lm _ rfl)
theorem Inv.fresh(I:Inv X pins σ H s):H (~~~s)=Pp:=I.hok.fresh (Lf _)
theorem Inv.lstM(I:Inv X pins σ H s)(b:H l=some (.lst xs)):xs.length<=sizeLine/\∃(a:Ph) (n:Nat),aU xs a/\xs.length=a.length/\s.heap.get? l=some { cls:=.type "list",data:=.seq a.toArray n }:=by let(z,a,n,r,e):=I.hok l _ b;show(z,a,n,r,-r,e)
theorem zT{n:Nat}(h:n<=sizeLine):pA n=Pr:=by unfold pA;show decide_eq_false (!0)
end
section
variable{X:Cx}
def vO:V->Pl->Hp->VK->Prop:=λx vs H Q=>∃l xs y,x=.ref l/\vs=[y]/\H l=Po (.lst xs)/\xs.length<sizeLine/\Q .non (upd H l (.lst (xs++[y])))
theorem dw:MtM X "list.append" vO:=by
 intro pins s σ H x vs v us Q I c d h
 cbv;let(l,xs,y,rfl,rfl,b,hz,q):=h;cases c;let(u,rfl,f):=d.one;let(z,a,n,r,hl,e):=I.lstM b
 w_up;show Zr F.slot_list_append (_,e,rfl) F.entry_list_append (F.args_list_append_2 _ _) (PySem.list_append l a.toArray n u (by rw[Li];lia)) (e,?_);show(.non,_,I.lset (its':=a++[u]) b e (!1) (r.append (.cons f .nil)) ?_,rfl,q);rw[LB,Mj];lia
def CI:V->Pl->Hp->VK->Prop:=λx vs H Q=>∃l b xs a,x=.ref l/\vs=[.ref b]/\H l=Po (.lst xs)/\H b=Po (.lst a)/\xs.length+-a<=sizeLine/\Q .non (upd H l (.lst (xs++a)))
theorem wY:MtM X "list.extend" CI:=by
 intro pins s σ H x vs v us Q I g i h
 cbv;let(l,b,xs,t,rfl,rfl,f,j,hz,q):=h;cases g;let(u,rfl,k):=i.one;cases k;let(z,c,n,r,hl,e):=I.lstM f;let(z2,a,m,o,p,e2):=I.lstM j
 w_up;let hsz:c.toArray.size+a.toArray.size<=sizeLine:=by rw[Li,Li];lia
 let d:¬(!c.toArray.isEmpty&&pA (c.toArray.size+a.toArray.size))=Pq:=by rw[zT hsz,Bool.and_false];show Lq
 show Zr F.slot_list_extend (_,e,rfl) F.entry_list_extend (F.args_list_extend_2 _ _)
  (AutoSeq1.list_extend_list_list_0 l c.toArray n b a.toArray m d (by rw[Li];lia) (!0)) (e,e2,?_)
 show(.non,_,I.lset (its':=c++a) f e (!1) (r.append o) ?_,rfl,q);rw[LB];lia
def J6:V->Pl->Hp->VK->Prop:=λx vs H Q=>∃l xs y,x=.ref l/\vs=[]/\H l=Po (.lst xs)/\xs[xs.length-1]?=Po y/\Q y (upd H l (.lst xs.dropLast))
theorem wX:MtM X "list.pop" J6:=by
 intro pins s σ H x vs v us Q I f g h
 cbv;let(l,xs,y,rfl,rfl,d,i,q):=h;cases f;let b:=g.zero;subst b;let(z,a,n,r,hl,e):=I.lstM d;let(u,j,k):=r.get i
 w_up;let c:a.toArray[a.toArray.size-1]?=Po u:=by show a.toArray[a.length-1]?=Po u;rw[<-No,<-hl];show j
 show Zr F.slot_list_pop (_,e,rfl) F.entry_list_pop (F.args_list_pop_1 _) (MeetsSeq.list_pop_last l a.toArray n u c (by rw[Li];lia)) (e,?_);show(y,_,I.lset (its':=a.dropLast) d e ?_ r.dropLast ?_,k,q);show a.toArray.eraseIdxIfInBounds (a.toArray.size-1)=a.dropLast.toArray;rw[Li,L2,uK];rw[List.length_dropLast];lia
def FK:V->Pl->Hp->VK->Prop:=λx vs H Q=>∃l xs i k y,x=.ref l/\vs=[.int i]/\H l=Po (.lst xs)/\-(2 ^ 63)<=i/\i<2 ^ 63/\ZW i (-xs)=Po k/\xs[k]?=Po y/\Q y (upd H l (.lst (xs.eraseIdx k)))
theorem zX:MtM X "list.pop" FK:=by
 intro pins s σ H x vs v us Q I d f h
 cbv;let(l,xs,i,k,y,rfl,rfl,c,h1,h2,hk,g,q):=h;cases d;let(u,rfl,j):=f.one;let(t,rfl):=j;let(z,a,n,r,hl,e):=I.lstM c;let(w,hw,b):=r.get g
 w_up;show Zr F.slot_list_pop (_,e,rfl) F.entry_list_pop (F.args_list_pop_2 _ _)
  (MeetsSeq.list_pop_at l a.toArray n i t k w (fitsIndex_both h1 h2) (by rw[Li,<-hl];show hk) (by rw[<-No];show hw) (by rw[Li];lia)) (e,?_)
 show(y,_,I.lset (its':=a.eraseIdx k) c e ?_ (r.eraseIdx k) ?_,b,q);show a.toArray.eraseIdxIfInBounds k=(a.eraseIdx k).toArray;rw[L2];let:=nh xs k;lia
end
end _L
namespace Att
open PySem PySem.W PySem.Calls PyProof.Rows
theorem jm{P:Params}{h:cc}:∀(ns:O7) (vs:Ph),WellAll P h vs (ns.map WData.int)->Ya vs ns:=by
 intro ns
 induction ns with
 |nil =>
  intro vs w;rw[FB]at w;cases w;show .nil
 |cons n ns ih =>
  intro vs w;rw[Le]at w;cases w with
  |cons a b =>
   cases a;show .cons _ _ (ih _ b)
theorem vD{l:OpenLaw}{n:Nat}(hn:l.most=some n){P:Params}{h:cc}{args:List WData}{b:Ph}
  (c:l.row.toRowW.claim.pre args=true) (j:WellAll P h b args) :
  ∃a vs ns,b=[di a]/\args=[WData.list (ns.map WData.int)]/\h.get? a=some { cls:=.type "list",data:=.seq vs.toArray }/\Ya vs ns/\ns.length<=n:=by
 let k:WShape.hasAll [] args [.list .int]=Pq:=(pre_splitW c).1;let hc:l.pre.holds [] { args:=args }=Pq:=(pre_splitW c).2
 cbv;let(d,r,rfl,h1,h2):=hasAllW_cons k;obtain rfl:=hasAllW_nil h2;let(xs,rfl,m):=hasW_list h1;let(ns,rfl):=items_int m
 w_up;let e:-ns<=n:=by
  unfold OpenLaw.pre at hc;let g:(WTm.not (.lt (.lit (.int (n:Int))) (.len (.arg 0)))).holds [] { args:=[.list (ns.map .int)] }=Pq:=by let g:=(holds_andW hc).1;rw[hn]at g;show g
  let i:=condW_of g (w_not (w_lt w_lit (w_len_list (w_arg rfl))));rw[K4]at i;show Nat.le_of_not_lt λq=>?_;let o:(n:Int)<((-ns:Nat):Int):=!0
  first
   |(rw[decide_eq_true o]at i;show absurd i (!2))
   |(simp at i;lia)
 cases j with
 |cons p s =>
  cases s;cases p with
  |list ho f=>show(_,_,ns,rfl,rfl,ho,jm ns _ f,e)
theorem wv(l:OpenLaw)(args:List WData):l.row.toRowW.claim.post args (.bool Pq) args=Pq :=
 postW_of (r:=l.row.toRowW) (X:=(Pq==Pq))
  (show WShape.has [] (.bool Pq) .bool=Pq by first|rfl|decide|simp[WShape.has,WShape.arms,WShape.armsAll])
  (show(WTm.eq .res (.lit (.bool Pq))).value [] { args:=args,res:=Po (.bool Pq),after:=args }=Po (.bool (Pq==Pq)) from w_eq_bool (w_res rfl) w_lit) rfl
theorem attach_call{l:OpenLaw}{n:Nat}{q:ky}{c:Pi}{s:(ck->O3)->cc->Prop}{t:kD->cc->Prop}{d:DefRec}
  (hn:l.most=some n) (j:d.params.defaults=[])
  (call:∀(w:kD) (s₀ b:bb) (mg mb:ck->O3) (fa:aG) (o:Obj) (pm cd doc:ba) (a:aG) (vs:Ph) (ns:O7),
   Ground q c [] s w s₀ mg mb b.heap->t w b.heap ->
   b.heap.get? fa=some o->o.data=.func (docDef d.name d.params d.body d.scope pm cd doc)->b.heap.CodeRec cd d.name->mg d.name=some (.ref fa) ->
   b.heap.get? a=some { cls:=.type "list",data:=.seq vs.toArray }->Ya vs ns->ns.length<=n->b.gens=#[] ->
   Qo (kq l.prog w) Zv (.call (.ref fa) ([.ref a],[])) (λr s'=>r=.ok (.ret (.bool true))/\OldK b.heap s'.heap/\s'.os=b.os/\Q1 s'.gens) b) :
  WalkO q c s t l.row.toRowW d [] (λf vs=>wi f vs):=by
 intro w s₀ b mg mb G Y fa o pm cd doc y kV ho hd k u m z args v as g x A p B
 cbv;obtain rfl:y=.none:=Dflts.none u j;obtain rfl:kV=.none:=Dflts.noKw u;let(a,vs,ns,rfl,rfl,h,e,i):=vD hn g p
 w_up;show enter_call (QJ (call w s₀ b mg mb fa o pm cd doc a vs ns G Y ho (fd_plain hd) k m h e i z) λr s' C=>?_);let(rfl,h2,D,E):=C;show(.inl (.bool Pq,.bool Pq,[],rfl,λZ=>rfl,.bool Pq,wv l _,λZ=>(M4,λZ F=>(nomatch F))),h2,D,E)
end Att
namespace _L
open PySem PySem.Spec PyProof.Rows
theorem ml:∀{vs:Ph}{ns:O7},Ya vs ns->aU (ns.map V.int) vs
 |_,_,.nil=>.nil
 |_,_,.cons n t h=>.cons (t,rfl) (ml h)
def JT(H:Hp):Prop:=∀b,H b=Pp\/(∃o xs,H b=Po (.frz o (.lst xs)))\/∃q,H b=Po (.tbl q)
theorem Aa{P:ky}{w:kD}{K:cp}{mg mb:ck->O3}{CX:CXT}{k:Nat}{fa a:aG}{fd:kx}{x:ck}{sp:Sp}{f:bb}{vs:Ph}{ns:O7}{tb:List (aG×ck)}
  (A:∀b q,tb.lookup b=some q->f.heap.get? b=some { cls:=.none,data:=.fields #[] }/\K.lookup b=none/\∃c,f.heap.TableAt c b #[]) (O:∀T q,jC K T q->tb.lookup T=some q)
  (KX:K.In f.heap) (D:f.heap.Ns kw mg) (i:f.heap.Ns QC mb) (Q:∀x:ck,x ≠ "__name__" -> mb x=Ql x) (E:f.heap.NoLimit) (R:∃bm ob,mg "__builtins__" = some (.ref bm)/\bm≠QC/\f.heap.get? bm=some ob/\ob.cls=.type "module" /\ ob.dict=some QC/\ob.data=.plain) (hg:f.gens=#[])
  (B:f.heap.get? a=some { cls:=.type "list",data:=.seq vs.toArray }) (hi:Ya vs ns) (hl:ns.length<=sizeLine) (hr:bW k Zv)
  (F : ∀base:cc,K.In base->base.Ns kw mg->aY P w K mg base CX k fa fd [x] sp) (C:∀(s:bb) (u:ba),Zl s fd ([u],[]) [(x,u)])
  (S:∀H:Hp,JT H->SqL K H a (ns.map V.int)->sp [.ref a] H (λv W=>v=.bl true) λW W W=>False)
  (U:∀H e s',CX [] H f (λW W W=>False) e s'->False) :
  Qo (kq P w) Zv (.call (.ref fa) ([.ref a],[])) (λr s'=>r=.ok (.ret (.bool true))/\OldK f.heap s'.heap/\s'.os=f.os/\Q1 s'.gens) f:=by
 let rv:=ml hi;let G:=-hi;let t:∀H:Hp,JT H->SqL K H a (ns.map V.int)->HOk P w H f.heap->(∀b u,H b=Po u->(b=a/\K.lookup a=Pp)\/∃q,tb.lookup b=Po q/\u=.tbl q)->(∀b q,tb.lookup b=Po q->H b=Po (.tbl q)) ->
   Qo (kq P w) Zv (.call (.ref fa) ([.ref a],[])) (λr s'=>r=.ok (.ret (.bool Pq))/\OldK f.heap s'.heap/\s'.os=f.os/\Q1 s'.gens) f:=by
  intro H hO hS hok M hB;let g:∀{b:aG}{o:Obj},f.heap.get? b=Po o->H b=Pp->(yJ f.heap H).get? b=Po o:=λe n=>Ar e n;let X:∀{b:aG}{o:Obj}{es:Array DictEntry}{ep:Nat},f.heap.get? b=Po o->o.data=.dict es ep->H b=Pp:=λ{b o es ep} e d=>by
   cases q:H b with
   |none=>rfl
   |some u =>
    rcases M b u q with⟨e',_⟩|⟨j,e',_⟩
    .cbv;subst e';rw[B]at e;cases e
     w_up;let d':Data.seq vs.toArray _=Data.dict es ep:=d;cases d'
    rw[(A b j e').1]at e;cases e;let d':Data.fields _=Data.dict es ep:=d;cases d'
  let l:∀{b:aG}{m:ck->O3},f.heap.Ns b m->(yJ f.heap H).Ns b m:=λ{b m} ⟨o,es,ep,e,d,r⟩=>(o,es,ep,g e (X e d),d,r)
  let I:K.In (yJ f.heap H):=λb o e=>g (KX b o e) (by
   cases q:H b with
   |none=>rfl
   |some u =>
    rcases M b u q with⟨e',hk⟩|⟨j,e',_⟩
    subst e';rw[hk]at e;cases e;rw[(A b j e').2.1]at e;cases e)
  let J:∃bm ob,mg "__builtins__" = Po (.ref bm)/\bm≠QC/\(yJ f.heap H).get? bm=Po ob/\ob.cls=.type "module" /\ ob.dict=Po QC/\ob.data=.plain:=by
   let(bm,ob,b1,b2,L,b4,b5,Y):=R;show(bm,ob,b1,b2,g L ?_,b4,b5,Y);cases q:H bm with
   |none=>rfl
   |some u =>
    rcases M bm u q with⟨e',_⟩|⟨j,e',_⟩
    subst e';rw[B]at L;cases L;cases Y;rw[(A bm j e').1]at L;cases L;cases Y
  let hM:Mod K mg (yJ f.heap H):=(I,l D,(mb,l i,Q),let ⟨mc,h1,h2⟩:=E;(mc,l h1,h2),J)
  let N:qW P w K mg (yJ f.heap H) Zv [] f H:=(rfl,hM,λb o e=>Dw e,MI (xz _ _),trivial,λb i=>absurd (show b∈([]:Pg) from i) (!1),hok,.of_eq hg,λT q h=>hB T q (O T q h))
  show QJ ((F _ I (l D)).run Zv [] f H ([.ref a],[]) [.ref a] [.ref a] _ _ hr N (C f (.ref a)) (.cons rfl .nil) (S H hO hS)) λr s' h=>?_;cases r with
  |error e=>show(U H e s' h).elim
  |ok fl =>
   cases fl with
   |next=>show False.elim h
   |brk=>show False.elim h
   |cont=>show False.elim h
   |ret u =>
    cbv;let(v,H',os,bare,un,y,r',q):=h;let j:v=.bl Pq:=q;subst j;obtain rfl:u=r4 Pq:=r'
    w_up;show(rfl,(λb o e=>?_,λb o e=>un.there b o e (!1)),os,bare);cases q:H b with
    |none=>show .inl (un.keep b o e q (by intro z;show absurd (show b∈([]:Pg) from z) (!1)) (!1))
    |some u =>
     rcases hO b with z|⟨ob,xs,z⟩|⟨j,z⟩
     rw[q]at z;cases z
     .let z2:=un.frzs b ob _ z
      cbv;let(e1,_):=hok b _ z;let(e2,_):=y b _ z2;rw[e]at e1;cases e1
      w_up;show .inl e2
     .let(ps,e2,_):=y b _ (un.tbls b j z);rcases M b _ z with⟨e',_⟩|⟨q2,e',_⟩
      let(a3,N,_):=hok b _ z;subst e';rw[B]at N;cases N
      .cbv;let(t1,_,c,t2):=A b q2 e';rw[e]at t1;cases t1
       w_up;show .inr (.inl (t2.isCodeTable,rfl,#[],ps,rfl,by simpa using e2))
 cases hk:K.lookup a with
 |some o =>
  let e:=KX a o hk;rw[B]at e;cases e;show t (λb=>(tb.lookup b).map .tbl) (λb=>?_) (.inr (_,vs.toArray,_,hk,rfl,rfl,rfl,by rw[Li,G];show hl,by simpa using rv)) (λb u z=>?_) (λb u z=>?_) λb q z=>by show(tb.lookup b).map HO.tbl=_;rw[z];rfl
  cases z:tb.lookup b with
  |none=>show .inl (by show(tb.lookup b).map HO.tbl=_;rw[z];rfl)
  |some q=>show .inr (.inr (q,by show(tb.lookup b).map HO.tbl=_;rw[z];rfl))
  let z:(tb.lookup b).map HO.tbl=Po u:=z;cases q:tb.lookup b with
  |none=>rw[q]at z;cases z
  |some j =>
   rw[q]at z;cases z;show(#[],(A b j q).1,trivial,λpos Z h=>by cases (show(Pp:O3)=Po Z from h))
  let z:(tb.lookup b).map HO.tbl=Po u:=z;cases q:tb.lookup b with
  |none=>rw[q]at z;cases z
  |some j=>rw[q]at z;cases z;show .inr (j,rfl,rfl)
 |none =>
  let a0:tb.lookup a=Pp:=by
   cases z:tb.lookup a with
   |none=>rfl
   |some q =>
    let e:=(A a q z).1;rw[B]at e;cases e
  let p:∀b,b≠a->(if b=a then Po (HO.frz { cls:=.type "list",data:=.seq vs.toArray } (.lst (ns.map V.int))) else (tb.lookup b).map .tbl)=(tb.lookup b).map .tbl:=λb i=>OH i;show t (λb=>if b=a then Po (.frz { cls:=.type "list",data:=.seq vs.toArray } (.lst (ns.map V.int))) else (tb.lookup b).map .tbl) (λb=>?_) (.inl (.inr ({ cls:=.type "list",data:=.seq vs.toArray },OG rfl))) (λb u z=>?_) (λb u z=>?_) λb q z=>?_;by_cases i:b=a;show .inr (.inl (_,_,OG i));dsimp only;rw[p b i];cases z:tb.lookup b with
  |none=>show .inl rfl
  |some q=>show .inr (.inr (q,rfl))
  .by_cases i:b=a
   .let z':=(OG i).symm.trans z
    cbv;cases z';subst i
    w_up;show(B,by rw[K4];show hl,vs,_,rv,B)
   let z:(tb.lookup b).map HO.tbl=Po u:=(p b i).symm.trans z;cases q:tb.lookup b with
   |none=>rw[q]at z;cases z
   |some j =>
    rw[q]at z;cases z;show(#[],(A b j q).1,trivial,λpos Z h=>by cases (show(Pp:O3)=Po Z from h))
  by_cases i:b=a;show .inl (i,hk);let z:(tb.lookup b).map HO.tbl=Po u:=(p b i).symm.trans z;cases q:tb.lookup b with
  |none=>rw[q]at z;cases z
  |some j=>rw[q]at z;cases z;show .inr (j,rfl,rfl)
  let i:b≠a:=λe=>by subst e;rw[a0]at z;cases z
  show(p b i).trans (by rw[z];rfl)
theorem Cj{l:ry}{n k:Nat}{q:ky}{i:Pi}{E:(ck->O3)->cc->Prop}{I:kD->cc->Prop}{d:DefRec}{K:Params->cp}{CX:kD->CXT}{sp:kD->Sp}{x:ck}
  (hn:l.most=some n) (hn2:n<=sizeLine) (t:d.params.defaults=[]) (J:bW k Zv)
  (y:∀(w:kD) (s₀:bb) (mg mb:ck->O3) (h:cc),MQ q i [] E w s₀ mg mb h->(K w.params).In h->∃tb:List (aG×ck),(∀b q,tb.lookup b=some q->h.get? b=some { cls:=.none,data:=.fields #[] }/\(K w.params).lookup b=none/\∃c,h.TableAt c b #[])/\∀T q,jC (K w.params) T q->tb.lookup T=some q)
  (L:∀(w:kD) (h:cc),I w h->(K w.params).In h)
  (F : ∀(w:kD) (mg:ck->O3) (fa:aG) (h:cc),(K w.params).In h->h.Ns kw mg->mg d.name=some (.ref fa) ->
   ∃fd:kx,(∀(s:bb) (u:ba),Zl s fd ([u],[]) [(x,u)]) /\
    ∀base:cc,(K w.params).In base->base.Ns kw mg->aY l.prog w (K w.params) mg base (CX w) k fa fd [x] (sp w))
  (z:∀(w:kD) (H:Hp) (a:aG) (ns:O7),ns.length<=n->JT H->SqL (K w.params) H a (ns.map V.int)->sp w [.ref a] H (λv Z=>v=.bl true) λZ Z Z=>False)
  (A:∀(w:kD) (H:Hp) (s:bb) (e:ba) (s':bb),CX w [] H s (λZ Z Z=>False) e s'->False) :
  Ob q i E I l.row.toRowW d [] (λf vs=>wi f vs):=by show Att.attach_call hn t λw s₀ p mg mb fa o pm cd doc a vs ns G Y ho hd M B r m j N=>?_;let C:=L w _ Y;let(fd,O,P):=F w mg fa _ C G.T.g B;let(tb,Q,D):=y w s₀ mg mb _ G C;show Aa Q D C G.T.g G.T.b G.T.builtins G.T.nolimit G.T.bmain N r m (Ld j hn2) J P O (λH R S=>z w H a ns j R S) λH e s'=>A w H p e s'
def db(s:Stmt)(j:Nat):Stmt:=match s with
 |.ClassDef _ _ _ body _ _ _ _ _ _ _=>body.getD j (.Pass (0,0,0,0))
 |_=>.Pass (0,0,0,0)
def dc(s:Stmt):QO:=match s with
 |.FunctionDef _ a _ _ _ _ _ _ _ _=>a
 |_=>{ posonlyargs:=[],args:=[],vararg:=Pp,kwonlyargs:=[],kw_defaults:=[],kwarg:=Pp,defaults:=[] }
def bA(s:Stmt):O6:=match s with
 |.FunctionDef _ _ b _ _ _ _ _ _ _=>b
 |_=>[]
def af(s:Stmt):Qc:=match s with
 |.FunctionDef _ _ _ _ _ _ sc _ _ _=>sc
 |_=>{ kind:=.function,names:=[],isGenerator:=Pr,isCoroutine:=Pr }
abbrev CX0:CXT:=λY Y Y Y Y Y=>False
abbrev E0:XK:=λY Y Y=>False
theorem ja{X:Cx}:fJ CX0 X E0:=λY Y Y Y Y Y Y h=>h.elim
structure Fun(K:cp)(x qual:ck)(st:Stmt)(f:aG)(fd:kx):Prop where
 ex : ∃(oc:ba) (od:O4) (kV doc pm:ba) (an:O4) (cdv ct:ba) (osl:ON),
  fd = hX x qual (dc st) (bA st) (af st) .none kV doc pm an cdv ct/\K.lookup f=some (oc,od,.func fd,osl)/\nf K cdv qual=true
 kp : eE K (.ref f)=true
section
variable{P:ky}{w:kD}{K:cp}{mg:ck->O3}{base:cc}
theorem Fun.ok{x qual:ck}{st:Stmt}{f:aG}{fd:kx}{N ps:Pi}{k:Nat}{sp:Sp}(F:Fun K x qual st f fd)(S:ax N ps (af st))(len:∀vs H Q E,sp vs H Q E->vs.length=ps.length)
  (a:∀(cdv:ba) (A:Around) (outer:Pa) (s:bb) (H:Hp) (vs:Pl) (Q:VK) (E:XK),bW k (A.deeper (QA qual (af st) s.heap.objs.size f cdv))->sp vs H Q E ->
   ∃t,PSs (gC CX0 P w K mg base N qual (af st) f cdv A outer s H E).nox (bA st) t/\t { nx:=λY H'=>Q .non H',rt:=Q } (bq N vs) H):aY P w K mg base CX0 (k+1) f fd ps sp:=by let(oc,od,kV,doc,pm,an,cdv,ct,osl,rfl,lk,b):=F.ex;show Ec lk b S len λA outer s H vs Q E d c=>?_;let(t,h,q):=a cdv A outer s H vs Q E d c;show(t,h.nox,q)
theorem Fun.binds{x qual:ck}{st:Stmt}{f:aG}{fd:kx}{ps:Pi}(F:Fun K x qual st f fd)
  (h : ∀(kV doc pm:ba) (an:O4) (cdv ct:ba) (us:Ph),-us=-ps->Qh (hX x qual (dc st) (bA st) (af st) .none kV doc pm an cdv ct) (us,[])=pure (ps.zip us)):bE K fd ps []:=by let(oc,od,kV,doc,pm,an,cdv,ct,osl,rfl,lk,a):=F.ex;show .all (h kV doc pm an cdv ct)
theorem xC{x qual:ck}{st:Stmt}{f:aG}{oc:ba}{od an:O4}{osl:ON}{kV doc pm cdv ct:ba}(l:K.lookup f=Po (oc,od,.func (hX x qual (dc st) (bA st) (af st) .none kV doc pm an cdv ct),osl))
  (c : nf K cdv qual=Pq) (k:eE K (.ref f)=Pq):Fun K x qual st f (hX x qual (dc st) (bA st) (af st) .none kV doc pm an cdv ct):=((oc,od,kV,doc,pm,an,cdv,ct,osl,rfl,l,c),k)
end
section
variable{X:Cx}
theorem pv(i:Nat){x:ck}{pos:Pos}(hN:X.N[i]?=some x⊕'Pt)(hv:Vis X.env.scope x⊕'Pw)(hd:(x==("__debug__" : ck))=false⊕'Pu)
  (a:(x==("__classdict__" : ck))=false⊕'Pu):PE X (.Name x pos) (d5 i):=ah hN hv hd a
end
theorem yI{c A B:Prop} [Decidable c](h1:c->A)(h2:¬c->B):if c then A else B:=by by_cases h:c;rw[OG h];show h1 h;rw[OH h];show h2 h
def aA(H H':Hp):Prop:=∀b o,H b=Po o->H' b=Po o
theorem aA.refl(H:Hp):aA H H:=λY Y h=>h
theorem aA.trans{H H1 H2:Hp}(a:aA H H1)(b:aA H1 H2):aA H H2:=λc o h=>b c o (a c o h)
theorem aA.free{H H':Hp}(e:aA H H'){l:aG}(h:H' l=Nk):H l=Nk:=by
 cases q:H l with
 |none=>rfl
 |some o =>
  rw[e l o q]at h;cases h
theorem aA.seq{K:cp}{H H':Hp}{a:aG}{xs:Pl}(e:aA H H')(h:SqL K H a xs):SqL K H' a xs:=by rcases h with (h|⟨o,h⟩)|h;show .inl (.inl (e _ _ h));show .inl (.inr (o,e _ _ h));show .inr h
end _L
set_option maxHeartbeats 4000000
namespace _L
open PySem PySem.Spec PyProof.Rows
noncomputable def cx(env:Env):OL->OY->OY
 |[],a=>a
 |(n,k)::r,a=>if (k==.free)=Pq then cx env r ((n,(env.cells.lookup n).getD 0)::a) else cx env r a
theorem gU{env:Env}(f:ck×NameKind->OY->Sem (ForInStep OY))
  (b:∀name kind cs,f (name,kind) cs=if (kind==.free)=Pq then (do let c <-cellOf env name;pure (.yield ((name,c)::cs))) else pure (.yield cs)) :
  ∀(names:OL) (a:OY),(∀y∈names,y.2=.free->(env.cells.lookup y.1).isSome=Pq)->forIn names a f=(pure (cx env names a):Sem _)
 |[],a,_=>by rw[vk];rfl
 |(n,k)::r,a,h=>by
  rw[MY,b];unfold cx;by_cases hk:(k==eb)=Pq;rw[OG hk,OG hk];let(c,hc):=Me.mp (h (n,k) K3 (by simpa using hk));let e:cellOf env n=pure c:=by unfold cellOf;rw[hc]
  rw[e,hc];simp only[pure_bind];show gU f b r _ λy d=>h y (K5 _ d);rw[OH hk,OH hk];simp only[pure_bind];show gU f b r _ λy d=>h y (K5 _ d)
theorem l9{scope:Qc}{env:Env}(h:∀y∈scope.names,y.2=.free->(env.cells.lookup y.1).isSome=Pq):QB scope env=pure (cx env scope.names []):=by simp only[QB];rw[gU (env:=env) _ (λname kind cs=>by cases hk:kind==eb <;> simp[hk]) scope.names [] h];rfl
theorem cC(env:Env)(x:ck):∀(names:OL) (a:OY),(cx env names a).lookup x=if (x,eb)∈names then Po ((env.cells.lookup x).getD 0) else a.lookup x
 |[],a=>by simp[cx]
 |(n, k)::r,a=>by
  unfold cx;by_cases hk:(k==eb)=Pq;let c:k=eb:=by simpa using hk
  subst c;rw[OG hk,cC env x r];by_cases b:(x,eb)∈r;rw[OG b,OG (K5 _ b)];rw[OH b,LJ];by_cases hx:x=n;subst hx;simp;let e1:(x==n)=Pr:=beq_eq_false_iff_ne.mpr hx;rw[e1];let e2:¬(x,eb)∈(n,eb)::r:=by intro z;rcases K9.mp z with z|z;show hx (ip z).1;show b z
  rw[OH e2];rw[OH hk,cC env x r];let e2:(x,eb)∈(n,k)::r↔(x,eb)∈r:=by constructor;intro z;rcases K9.mp z with z|z;show absurd (by rw[(ip z).2.symm];rfl) hk;show z;show K5 _
  by_cases b:(x,eb)∈r;rw[OG b,OG (e2.mpr b)];rw[OH b,OH (λz=>b (e2.mp z))]
theorem bp:∀(names:OL) (n:Nat) (a:OY),zs n names a=zs n names []++a
 |[],n,a=>by simp[zs]
 |(x,k)::r,n,a=>by
  unfold zs;split;rw[bp r (n+1) ((x,n)::a),bp r (n+1) [(x,n)]];simp;show bp r n a
theorem bV:∀(names:OL) (n:Nat) (x:ck) (c:aG),(Pm x c)∈zs n names []->(Pm x mn)∈names/\n<=c
 |[],n,x,c,h=>by simp[zs]at h
 |(Pm y k)::r,n,x,c,h=>by
  unfold zs at h;split at h
  .rename_i hk;rw[bp]at h;rcases K2.mp h with h|h;let q:=bV r (n+1) x c h;show⟨K5 _ q.1,!0⟩
   .let e:(Pm x c)=(Pm y n):=by simpa using h
    cbv;cases e;let a:k=mn:=by simpa using hk
    subst a
    w_up;show⟨K3,Lf _⟩
  let q:=bV r n x c h;show⟨K5 _ q.1,q.2⟩
theorem aO{α:Type}:∀{l:List (ck×α)}{x:ck}{k:α},(l.map (·.1)).Nodup->(x,k)∈l->l.lookup x=Po k
 |(y,j)::r,x,k,nd,h=>by
  rw[LJ];rcases K9.mp h with e|h;cases e;simp;let a:=Ll.mp nd;let this:x≠y:=λz=>a.1 (by
   rw[<-z];show Lo.mpr ((x,k),h,rfl))
  rw[beq_eq_false_iff_ne.mpr this];show aO a.2 h
theorem pZ{M:ZF}{A:Around}{E:ba->bb->Prop}{s:bb}{scope:Qc}{globals:aG}{cl:OY}{qual:ck}{env:Env}{Q:Env->bb->Prop}
  (h : Q (newEnv scope s.heap.objs.size globals (zs (s.heap.objs.size+1) scope.names cl) qual none .none (some env) QC) { s with heap:=Q7 (s.heap.push { cls:=.type "dict",data:=.dict #[] }) scope.names }) :
  kn M A (ZP scope globals cl [] qual none .none (some env)) Q E s:=by simp only[ZP,Option.isSome_some,if_true];show jj (wpAny_alloc ?_);show jj (wpAny_layCells _ (λname kind cells=>by cases hkc:kind==mn <;> simp[hkc]) _ _ _ _ ?_);rw[show({ s with heap:=s.heap.push { cls:=.type "dict",data:=.dict #[] } }:bb).heap.objs.size=(~~~s)+1 from da ..];rw[vk];show jj (kf (kf h))
structure bX(N:Pi)(env:Env)(N':Pi)(ix:OM)(sc:Qc):Prop where
 kind:sc.kind=.function
 ndn:(sc.names.map (·.1)).Nodup
 free:∀y∈sc.names,y.2=.free->env.kindOf y.1=some .cell\/env.kindOf y.1=some .free
 len:ix.length=N'.length
 cap:∀(i j:Nat),ix[i]?=some (some j)->∃x,N'[i]?=some x/\N[j]?=some x/\sc.names.lookup x=some .free
theorem bX.names{N:Pi}{env:Env}{N':Pi}{ix:OM}{sc:Qc}(S:bX N env N' ix sc):∀y∈sc.names,y.2=.local->sc.names.lookup y.1=Po .local:=λy a e=>by
 cbv;let(x,k):=y;cases e
 w_up;show aO S.ndn a
noncomputable def fR(σ:St)(ix:OM):St:=ix.map λo=>o.bind λj=>(σ[j]?).join
def uY(sc:Qc)(C:aG)(env:Env):Env:=compEnvC sc (zs (C+1) sc.names (cx env sc.names [])) C env
def bCx(X:Cx)(N':Pi)(sc:Qc)(s:bb)(H:Hp)(C:aG)(fp:Pg):Cx where
 prog:=X.prog
 w := X.w
 K := X.K
 mg := X.mg
 base:=X.base
 A := X.A
 N := N'
 s₀ := s
 H₀ := H
 env:=uY sc C X.env
 outer:=X.stack
 stack:=X.stack
 ex := fp
 fn := λx=>decide (sc.names.lookup x=Po .cell)
 calm:=X.calm
 pn := []
 xe := λY Y=>False
theorem fH{env:Env}:∀{names:OL}{x:ck}{k:NameKind},names.lookup x=Po k ->
  (names.map λ(n,k)=>if (k==eb&&env.scope.kind==.function&&env.kindOf n==Po .cell) then (n,mn) else (n,k)).lookup x=Po (if (k==eb&&env.scope.kind==.function&&env.kindOf x==Po .cell)=Pq then .cell else k)
 |[],_,_,h=>by simp at h
 |(n,j)::r,x,k,h=>by
  let ih:=@fH env r x k;show gu x ((if (j==eb&&env.scope.kind==.function&&env.kindOf n==Po .cell)=Pq then (n,mn) else (n,j))::_)=_;cases hx:x==n with
  |true =>
   let e:x=n:=by simpa using hx
   subst e;simp only[LJ,hx]at h;let a:j=k:=du h;subst a;by_cases hc:(j==eb&&env.scope.kind==.function&&env.kindOf x==Po .cell)=Pq;rw[OG hc,OG hc];simp[LJ];rw[OH hc,OH hc];simp[LJ]
  |false =>
   simp only[LJ,hx]at h;by_cases hc:(j==eb&&env.scope.kind==.function&&env.kindOf n==Po .cell)=Pq;rw[OG hc];simp only[LJ,hx];show ih h;rw[OH hc];simp only[LJ,hx];show ih h
theorem cN{env:Env}:∀{names:OL}{x:ck},names.lookup x=Pp ->
  (names.map λ(n,k)=>if (k==eb&&env.scope.kind==.function&&env.kindOf n==Po .cell) then (n,mn) else (n,k)).lookup x=Pp
 |[],_,_=>rfl
 |(n,j)::r,x,h=>by
  let ih:=@cN env r x;show gu x ((if (j==eb&&env.scope.kind==.function&&env.kindOf n==Po .cell)=Pq then (n,mn) else (n,j))::_)=_;cases hx:x==n with
  |true=>simp only[LJ,hx]at h;cases h
  |false =>
   simp only[LJ,hx]at h;by_cases hc:(j==eb&&env.scope.kind==.function&&env.kindOf n==Po .cell)=Pq;rw[OG hc];simp only[LJ,hx];show ih h;rw[OH hc];simp only[LJ,hx];show ih h
theorem jA{sc:Qc}{C:aG}{env:Env}{x:ck}{k:NameKind}(h:sc.names.lookup x=Po k):(uY sc C env).kindOf x=Po (if (k==eb&&env.scope.kind==.function&&env.kindOf x==Po .cell)=Pq then .cell else k):=fH h
theorem yt{sc:Qc}{C:aG}{env:Env}{x:ck}(h:sc.names.lookup x=Pp):(uY sc C env).kindOf x=Pp:=cN h
section
variable{X:Cx}{N':Pi}{ix:OM}{sc:Qc}
theorem jB(S:bX X.N X.env N' ix sc){C:aG}{x:ck}{c:aG}(h:(uY sc C X.env).cells.lookup x=Po c) :
  (sc.names.lookup x=Po .cell/\C+1<=c/\(x,c)∈zs (C+1) sc.names [])\/(sc.names.lookup x=Po .free/\c=(X.env.cells.lookup x).getD 0):=by
 let e:(uY sc C X.env).cells=zs (C+1) sc.names []++cx X.env sc.names []:=bp _ _ _;rw[e]at h;rcases K2.mp (mem_of_lookup h) with q|q;let(a,b):=bV _ _ _ _ q;show .inl (aO S.ndn a,b,q);let fr:(x,eb)∈sc.names:=by
  let z:∀(names:OL) (f:OY),(x,c)∈cx X.env names f->(x,c)∈f\/(x,eb)∈names:=by
   intro names
   induction names with
   |nil=>intro f h;show .inl h
   |cons y r ih =>
    let(n,k):=y;intro f h;unfold cx at h;split at h;rename_i hk;let i:k=eb:=by simpa using hk
    subst i;rcases ih _ h with h|h;rcases K9.mp h with h|h;cases h;show .inr K3;show .inl h;show .inr (K5 _ h);rcases ih _ h with h|h;show .inl h;show .inr (K5 _ h)
  rcases z _ _ q with q|q;simp at q;show q
 let g:=aO S.ndn fr;let hn:(zs (C+1) sc.names []).lookup x=Pp:=by
  cases z:(zs (C+1) sc.names []).lookup x with
  |none=>rfl
  |some d =>
   let j:=bV _ _ _ _ (mem_of_lookup z);let:=aO S.ndn j.1;rw[g]at this;cases this
 rw[B2,hn,cC,OG fr]at h;show .inr (g,(du (by simpa using h)).symm)
theorem fS(S:bX X.N X.env N' ix sc){C:aG}{x:ck}(h:sc.names.lookup x=Po .free):(uY sc C X.env).cells.lookup x=Po ((X.env.cells.lookup x).getD 0):=by
 let e:(uY sc C X.env).cells=zs (C+1) sc.names []++cx X.env sc.names []:=bp _ _ _;let hn:(zs (C+1) sc.names []).lookup x=Pp:=by
  cases z:(zs (C+1) sc.names []).lookup x with
  |none=>rfl
  |some d =>
   let a:=bV _ _ _ _ (mem_of_lookup z);let:=aO S.ndn a.1;rw[h]at this;cases this
 rw[e,B2,hn,cC,OG (mem_of_lookup h)];rfl
theorem uO{C:aG}{env:Env}{x:ck}(h:sc.names.lookup x=Po .cell):∃c,(uY sc C env).cells.lookup x=Po c:=by let e:(uY sc C env).cells=zs (C+1) sc.names []++cx env sc.names []:=bp _ _ _;let(c,hc):=mf (n:=C+1) h;show(c,by rw[e,B2,hc];rfl)
theorem qL{pins:OU}{σ:St}{H:Hp}{s:bb}{fp:Pg}(S:bX X.N X.env N' ix sc)(I:Inv X pins σ H s)(w:∀b∈fp,jD X pins H b)(t:∀b∈fp,b<s.heap.objs.size) :
  Inv (bCx X N' sc s H (s.heap.objs.size+1) fp) [] (fR σ ix) H
   { s with heap:=Q7 ((s.heap.push { cls:=.type "list",data:=.seq #[] }).push { cls:=.type "dict",data:=.dict #[] }) sc.names }:=by
 let g:(s.heap.push { cls:=.type "list",data:=.seq #[] }).objs.size=(~~~s)+1:=da ..;let keep:∀b o,s.heap.get? b=Po o->(Q7 ((s.heap.push { cls:=.type "list",data:=.seq #[] }).push { cls:=.type "dict",data:=.dict #[] }) sc.names).get? b=Po o:=λb o e =>
  Zb _ _ b o (La _ (La _ e))
 let ok:=cellsFrom_ok sc.names ((s.heap.push { cls:=.type "list",data:=.seq #[] }).push { cls:=.type "dict",data:=.dict #[] }) ((~~~s)+2) [] (λY Y M=>(nomatch M),M4) (by rw[da,g];show Lf _);rw[da,g]at ok;let a:∀x c,sc.names.lookup x=Po .free->c=(X.env.cells.lookup x).getD 0->X.env.cells.lookup x=Po c:=λx c h1 h2=>by
  let(d,hd):=I.ok.has x (S.free (x,.free) (mem_of_lookup h1) rfl);rw[hd]at h2 ⊢;rw[h2];rfl
 let f:∀x c,X.env.cells.lookup x=Po c->c<(~~~s):=λx c e=>by
  let(v,q):=I.cell x c e;show q.lt
 show((I.ok.mod,S.kind,I.ok.glob,I.ok.blt,L3 _,λx y c h1 h2=>?_,λx hx=>?_,λx c hx h=>?_,I.ok.hd,I.ok.frames,.inl rfl,λb l=>(?_,λx c h=>?_),I.bs,Ld I.ok.bsz I.sz,λb o e l=>?_,λb l=>?_,I.stack,I.stkFree,λT q h=>I.base.tbls T q (I.ok.tab T q h)),
  rfl,I.bare,Un.kept keep,(λY=>Pp,?_,λi x v e1 e2 e3=>?_),λx c h=>?_,I.hok.fresh (L3 _),λx c h=>?_,λp O=>absurd (show p∈([]:OU) from O) (!1),I.hok.kept keep,?_)
 rcases jB S h1 with⟨a1,b1,q1⟩|⟨a1,b1⟩ <;> rcases jB S h2 with⟨a2,b2,P⟩|⟨a2,b2⟩
 show name_of_addr ok.apart q1 P;show absurd (f y c (a y c a2 b2)) (N4.mpr (Ld (sk _ 2) b1));show absurd (f x c (a x c a1 b1)) (N4.mpr (Ld (sk _ 2) b2));show I.ok.inj x y c (a x c a1 b1) (a y c a2 b2);cases q:sc.names.lookup x with
 |none =>
  let z:=yt (C:=(~~~s)+1) (env:=X.env) q;rcases hx with hx|hx;show absurd (hx.symm.trans z) (!1);show absurd (hx.symm.trans z) (!1)
 |some k =>
  let z:=jA (C:=(~~~s)+1) (env:=X.env) q;cases k with
  |free=>show(_,fS S q)
  |cell=>show uO q
  |_ =>
   rcases hx with hx|hx;let:=hx.symm.trans z;simp at this;let:=hx.symm.trans z;simp at this
 let A:sc.names.lookup x=Po .cell:=of_decide_eq_true hx;rcases jB S h with⟨_,b1,_⟩|⟨a1,_⟩
 show Ld (by lia:(~~~s)<=(~~~s)+1+1) b1;rw[A]at a1;cases a1;show Lr (L5 (t b l));let(K,B,D,n,E,L):=w b l;rcases jB S h with⟨_,b1,_⟩|⟨a1,b1⟩
 show L9 (Lg (t b l) (Ld (sk _ 2) b1));show E x c (a x c a1 b1);let(K,B,D,n,E,L):=w b l;rcases n with n|n;show I.ok.noex b o e n;show absurd (Lg (Lh e) (Ld I.ok.bsz n)) (L0 _);let(K,B,D,n,E,L):=w b l;intro z;rcases K9.mp (I.stkSub b z) with z|z;show B z;show D z;let q:=(Heap.Ns.new (s.heap.push { cls:=.type "list",data:=.seq #[] }) (.type "dict")).keeps (Zb sc.names _);rw[g]at q;show q
 .let hi:i< -ix:=by
   let z:=(Lc.mp e2).1;simpa[fR] using z
  let F:(fR σ ix)[i]?=(ix[i]?).map λo=>o.bind λj=>(σ[j]?).join:=LD ..;rw[F,K8 hi]at e2;let e2:(ix[i]).bind (λj=>(σ[j]?).join)=Po v:=du e2;cases q:ix[i] with
  |none=>rw[q]at e2;cases e2
  |some j =>
   rw[q]at e2;let e2:(σ[j]?).join=Po v:=e2;let e2:σ[j]?=Po (Po v):=by
    cases z:σ[j]? with
    |none=>rw[z]at e2;cases e2
    |some w'=>rw[z]at e2;let e2:w'=Po v:=e2;rw[e2]
   cbv;let(y,c1,c2,G):=S.cap i j (by rw[K8 hi,q]);let J:x=y:=du (e1.symm.trans c1);subst J;let kd:=S.free (x,.free) (mem_of_lookup G) rfl;let(m,hn,hl):=I.loc;let(u,Q,R):=hl j x v c2 e2 (by rcases kd with k|k;show .inr (.inl k);show .inr (.inr k))
   w_up;show(u,Q,.inr (?_,?_));rw[show(bCx X N' sc s H ((~~~s)+1) fp).env.kindOf x=_ from jA (C:=(~~~s)+1) (env:=X.env) G];split;show .inl rfl;show .inr rfl;rcases R with⟨k,_⟩|⟨_,c,hc,r⟩
   rcases kd with k'|k' <;> rw[k]at k' <;> cases k'
   show(c,?_,r.keeps keep);let:=fS S (C:=(~~~s)+1) G;rw[hc]at this;show this
 rcases jB S h with⟨_,b1,q⟩|⟨a1,b1⟩
 show(Pp,(ok.empty x c q).1);let(v,q):=I.cell x c (a x c a1 b1);show(v,q.keeps keep);rcases jB S h with⟨_,b1,q⟩|⟨a1,b1⟩
 show I.hok.fresh (Ld (sk _ 2) b1);show I.freeC x c (a x c a1 b1);show(fR σ ix).length=-N';simp[fR,S.len]
theorem jy{pins pins':OU}{σ d:St}{H H':Hp}{s s':bb}{fp:Pg}{C:aG}(S:bX X.N X.env N' ix sc)(I:Inv X pins σ H s)(n:∀b∈fp,jD X pins H b)
  (a:Inv (bCx X N' sc s H C fp) pins' d H' s'):Inv (bCx X N' sc s H C fp) pins' (fR σ ix) H' s':=by
 show(a.ok,a.os,a.bare,a.base,?_,a.cell,a.free,a.freeC,a.pin,a.hok,by show(fR σ ix).length=-N';simp[fR,S.len]);let(p,f,_):=a.loc;show(p,f,λi x v e1 e2 e3=>?_);let hi:i< -ix:=by let z:=(Lc.mp e2).1;simpa[fR] using z
 let g:(fR σ ix)[i]?=(ix[i]?).map λo=>o.bind λj=>(σ[j]?).join:=LD ..;rw[g,K8 hi]at e2;let e2:(ix[i]).bind (λj=>(σ[j]?).join)=Po v:=du e2;cases q:ix[i] with
 |none=>rw[q]at e2;cases e2
 |some j =>
  rw[q]at e2;let e2:(σ[j]?).join=Po v:=e2;let e2:σ[j]?=Po (Po v):=by
   cases z:σ[j]? with
   |none=>rw[z]at e2;cases e2
   |some w'=>rw[z]at e2;let e2:w'=Po v:=e2;rw[e2]
  cbv;let(y,c1,c2,h):=S.cap i j (by rw[K8 hi,q]);let l:x=y:=du (e1.symm.trans c1);subst l;let kd:=S.free (x,.free) (mem_of_lookup h) rfl;let(m,hn,hl):=I.loc;let(u,r,t):=hl j x v c2 e2 (by rcases kd with k|k;show .inr (.inl k);show .inr (.inr k))
  w_up;show(u,r,.inr (?_,?_));rw[show(bCx X N' sc s H C fp).env.kindOf x=_ from jA (C:=C) (env:=X.env) h];split;show .inl rfl;show .inr rfl;rcases t with⟨k,_⟩|⟨_,c,hc,o,ho,hd⟩
  rcases kd with k'|k' <;> rw[k]at k' <;> cases k'
  show(c,?_,?_);let:=fS S (C:=C) h;rw[hc]at this;show this;let(sl,e):=a.base.any ho (I.freeC x c hc) λz=>(n c z).2.2.2.2.1 x c hc rfl;show(_,e,hd)
def PIf(X:Cx)(ifs:Pj)(t:TT):Prop :=
 ∀(pins:OU) (s:bb) (σ:St) (H:Hp) (Q:Bool->Hp->Prop),Inv X pins σ H s->t σ H Q ->
  kn (kq X.prog X.w) X.A (forIn ifs Pq λc r=>if r=Pq then do let ok <-Zg c X.env (eval c X.env);pure (ForInStep.yield ok) else pure (ForInStep.yield r)) (TP X pins σ Q) X.xe s
def JY:TT:=λY H Q=>Q Pq H
theorem pJ{X:Cx}:PIf X [] JY:=λY Y Y H Y I h=>wpAny_tests_nil (H,I,h)
theorem De{X:Cx}{c:bi}{t:TT}(h:PT X c t):PIf X [c] t:=λpins s σ H Q I hw=>wpAny_tests_one (h pins s σ H Q I hw)
theorem ou{prog:ky}{w:kD}{A:Around}{R:ZC->bb->Prop}{s:bb}{elt a iter:bi}{ifs:Pj}{scope:Qc}{pos:Pos}{it k:ba}{env:Env}(I:Nat->bb->Prop)
  (o : ∀n s,I n s->kn (kq prog w) A (Zp it) (λr b=>match r with
   |none=>R (.ok .next) b
   |some v=>kn (kq prog w) A (Zc a it v) (λY d=>kn (kq prog w) A (QV a env v) (λY f =>
     kn (kq prog w) A (forIn ifs Pq λc r=>if r=Pq then do let ok <-Zg c env (eval c env);pure (ForInStep.yield ok) else pure (ForInStep.yield r)) (λok e =>
      if ok=Pq then kn (kq prog w) A (eval elt env) (λx g =>
       kn (kq prog w) A (call (.builtin "list.append") [k,x]) (λY i=>∃m,m<n/\I m i) (λY Y=>False) g) (λY Y=>False) e
      else ∃m,m<n/\I m e) (λY Y=>False) f) (λY Y=>False) d) (λY Y=>False) b) (λY Y=>False) s)
  (n : Nat) (h:I n s):Qo (kq prog w) A (.compLoop (.ListComp elt [(a,iter,ifs,0)] scope pos) 0 it k env) R s:=by
 show codeAny_loop rfl I (λn s u=>?_) n h;show kn _ A ((compTurn (.ListComp elt [(a,iter,ifs,0)] scope pos) 0 it k env).onRaise (λx=>do ZX x env;theTreesLotGoes x)) _ _ s;show wpAny_noted ?_;rw[compTurn_list];show jj (QE (jj (qD (o n s u) (λr b h₁=>?_) λY Y h'=>h'.elim)));cases r with
 |none=>show kf h₁
 |some v =>
  show jj (qD h₁ (λY d l=>jj (qD l (λY f p=>jj (qD p (λok e j=>?_) λY Y h'=>h'.elim)) λY Y h'=>h'.elim)) λY Y h'=>h'.elim);cases ok with
  |false=>show kf (rfl,j)
  |true =>
   show jj (jj (qD j (λx g q=>jj (qD q (λY i t=>kf (kf (rfl,t))) λY Y h'=>h'.elim)) λY Y h'=>h'.elim))
def AY(J:It)(σ0:St)(g:TG)(tt:TT)(te:TE)(H1:Hp)(e:Pl->Hp->Prop):Prop :=
 ∃W : Nat->Nat->Pl->Hp->Prop,(∃m,W 0 m [] H1)/\∀i m ys H,W i m ys H ->
  (J.stop i H/\e ys H) \/
  (J.go i H/\ys.length<sizeLine/\∃N:Pl->Hp->Prop,(∀a H',N a H'->∃d,d<m/\W (i+1) d a H') /\
   ∀x H',J.yld i H x H'->g x σ0 H' λc H2=>tt c H2 λb H3=>if b=Pq then te c H3 λy f=>N (ys++[y]) f else N ys H3)
theorem tP{tg iter elt:bi}{ifs:Pj}{pos:Pos}{g:TG}{tt:TT}{te:TE}{pins:OU}{σ:St}{H:Hp}{s:bb}{it:aG}{fp:Pg}{tn:Nat->cc->Prop}{J:It}{Qe:Pl->Hp->Prop}
  {RR:ba->aG->ZC->bb->Prop}{E:ba->bb->Prop}
  (hc:X.calm=true) (S:bX X.N X.env N' ix sc) (hg:∀s H C fp,PG (bCx X N' sc s H C fp) tg g) (ht:∀s H C fp,PIf (bCx X N' sc s H C fp) ifs tt) (he:∀s H C fp,PE (bCx X N' sc s H C fp) elt te)
  (I : Inv X pins σ H s) (T:Ff X.prog X.w X.K tg J fp it tn) (st:tn 0 s.heap) (Z:∀b∈fp,jD X pins H b) (hw:AY J (fR σ ix) g tt te H Qe)
  (fin:∀s' H' ys m,s'.heap.Ns (s.heap.objs.size+1) m->H' s.heap.objs.size=none->H' (s.heap.objs.size+1)=none->Qe ys H'->Inv X pins σ (upd H' s.heap.objs.size (.lst ys)) s'->RR (.ref s.heap.objs.size) (s.heap.objs.size+1) (.ok .next) s') :
  kn (kq X.prog X.w) X.A (newList []) (λa0 a3=>kn (kq X.prog X.w) X.A (ZP sc X.env.globals (cx X.env sc.names []) [] X.env.qual none .none (some X.env)) (λG a4 =>
   Qo (kq X.prog X.w) X.A (.compStart (.ListComp elt [(tg,iter,ifs,0)] sc pos) 0 (.ref it) a0 { G with scope:=relabel sc X.env }) (RR a0 G.locals) a4) E a3) E s:=by
 let a5:∀b∈fp,b<(~~~s):=λb f=>by
  let(o,e,_):=T.obj _ _ st b f;show Lh e
 show KP (pZ ?_);let c4:(s.heap.push { cls:=.type "list",dict:=Pp,data:=.seq ([]:Ph).toArray }).objs.size=(~~~s)+1:=da ..;let I0:=qL S I Z a5;let(W,(m0,w0),a6):=hw;let nD:∀b∈fp,(~~~s)≠b:=λb f=>L9 (a5 b f);let F:H (~~~s)=Pp:=I.hok.fresh (Lf _);let M:∀x c,(uY sc ((~~~s)+1) X.env).cells.lookup x=Po c->c≠(~~~s):=λx c h=>by
  rcases jB S h with⟨_,b1,_⟩|⟨a1,b1⟩
  show L9 (Lg (L5 (LR _)) b1);let(d,hd):=I.ok.has x (S.free (x,.free) (mem_of_lookup a1) rfl);rw[hd]at b1;let(v,q):=I.cell x d hd;let e:c=d:=b1;rw[e];show Lr q.lt
 let a7:(~~~s) ∉ frs X.stack:=λz=>by
  rcases K9.mp (I.stkSub _ z) with z|z;show absurd I.lt (by rw[<-z];show L0 _);show I.nofs (Lf _) z
 let b0:∀{pins':OU}{H':Hp},(∀b∈fp,H' b=Pp)->(∀p∈pins',∀b∈fp,p.1≠b)->∀b∈fp,jD (bCx X N' sc s H ((~~~s)+1) fp) pins' H' b:=λ{pins' H'} h1 h2 b f =>
  (h1 b f,(I0.ok.exf b f).1,I0.ok.exfs b f,.inl f,(I0.ok.exf b f).2,λp t=>h2 p (by simpa[bCx] using t) b f)
 let O:(Q7 ((s.heap.push { cls:=.type "list",data:=.seq #[] }).push { cls:=.type "dict",data:=.dict #[] }) sc.names).get? (~~~s)=Po { cls:=.type "list",data:=.seq #[] } :=
  Zb _ _ _ _ (La _ (Lm _ rfl))
 let c5:Inv (bCx X N' sc s H ((~~~s)+1) fp) [((~~~s),{ cls:=.type "list",data:=.seq #[] })] (fR σ ix) H _:=I0.pins_of (pins':=[((~~~s),{ cls:=.type "list",data:=.seq #[] })]) λp t=>by
  let e:p=((~~~s),{ cls:=.type "list",data:=.seq #[] }):=by simpa using t
  subst e;show(O,F,Lr (LR _),a7,λv z=>by cases z)
 let b3:tn 0 (Q7 ((s.heap.push { cls:=.type "list",data:=.seq #[] }).push { cls:=.type "dict",data:=.dict #[] }) sc.names):=T.keep _ _ _ st λb f o e=>Zb _ _ _ _ (La _ (La _ e));let loop:∀U:bb,U={ s with heap:=Q7 ((s.heap.push { cls:=.type "list",data:=.seq #[] }).push { cls:=.type "dict",data:=.dict #[] }) sc.names } ->
   Qo (kq X.prog X.w) X.A (.compLoop (.ListComp elt [(tg,iter,ifs,0)] sc pos) 0 (.ref it) (.ref (~~~s)) (uY sc ((~~~s)+1) X.env)) (RR (.ref (~~~s)) ((~~~s)+1)) U:=by
  rintro U rfl;show ou (λn s'=>∃(i:Nat) (ys:Pl) (a:Ph) (k:Nat) (H':Hp),Inv (bCx X N' sc s H ((~~~s)+1) fp) [((~~~s),{ cls:=.type "list",data:=.seq a.toArray k })] (fR σ ix) H' s' /\
   tn i s'.heap/\(∀b∈fp,H' b=Pp)/\aU ys a/\ys.length<=sizeLine/\W i n ys H') ?_ m0 (0,[],[],0,H,c5,b3,λb f=>(Z b f).1,.nil,Ln _,w0)
  rintro n s3 ⟨i,ys,a,k,H3,I3,b4,c6,rv,hz,w3⟩;let b5:=b0 (pins':=[((~~~s),{ cls:=.type "list",data:=.seq a.toArray k })]) c6 (λp t b f=>by
   let e:p=((~~~s),{ cls:=.type "list",data:=.seq a.toArray k }):=by simpa using t
   rw[e];show nD b f)
  rcases a6 i n ys H3 w3 with⟨stop,qe⟩|⟨go,g4,N,hN,step⟩
  .show thn (T.done (bCx X N' sc s H ((~~~s)+1) fp) rfl rfl rfl hc i _ s3 _ H3 (λV V=>False) I3 b5 b4 stop) λr U c7=>?_
   cbv;let(hr,B):=c7;subst hr;let(pg,pn,_):=B.pin ((~~~s),{ cls:=.type "list",data:=.seq a.toArray k }) (K0 _ K3);let(m,hm,_):=B.loc
   w_up;show fin U H3 ys m hm pn B.free qe ?_;show I.call' (ch:=fp) B.os (B.base.keep,B.base.slot,λb o e n hx=>?_,B.base.there,λb xs q=>?_,λb o u q=>?_,λb ps q=>?_) (λb o e=>?_) B.bare λb f=>?_;rw[ao (Lr (Lh e))];show B.base.free b o e n hx;let L:=B.base.tups b xs q;rw[ao (ay L pn)];show L;let L:=B.base.frzs b o u q;rw[ao (ay L pn)];show L;let L:=B.base.tbls b ps q;rw[ao (ay L pn)];show L
   .by_cases f:b=(~~~s)
    .cbv;subst f;rw[aq]at e;cases e
     w_up;show(hz,a,k,rv,pg)
    rw[ao f]at e;show(B.hok b o e).stay (λc v V q=>q) (λc q=>by rw[ao (ay q pn)];show q) λc xs V q=>by rw[ao (ay q pn)];show q
   let(f0,f1,f2,f3,f4,f5):=Z b f;show(f3,f1,f4,f5)
  .show thn (T.item (bCx X N' sc s H ((~~~s)+1) fp) rfl rfl rfl hc i _ s3 _ H3 (λV V=>False) I3 b5 b4 go) λr U c8=>?_;let(u,hr,h4):=c8;subst hr;show thn h4 λV s5 c9=>?_;let(x,H5,I5,r5,y5,P,d0):=c9;let d6:=b0 (pins':=[((~~~s),{ cls:=.type "list",data:=.seq a.toArray k })]) d0 (λp t b f=>by
    let e:p=((~~~s),{ cls:=.type "list",data:=.seq a.toArray k }):=by simpa using t
    rw[e];show nD b f)
   let e0:=I5.pinned d6 (T.obj _ _ P);show thn (hg s H _ fp _ s5 _ H5 x u _ e0 r5 (step x H5 y5)) λV s6 e9=>?_;let(D,H6,I6,q6):=e9;let j:∀{b6:St}{Y:Hp}{s7:bb},Inv (bCx X N' sc s H ((~~~s)+1) fp) ([((~~~s),{ cls:=.type "list",data:=.seq a.toArray k })]++gZ fp s5.heap) b6 Y s7 ->
     tn (i+1) s7.heap/\(∀b∈fp,Y b=Pp):=λ{b6 Y s7} Q=>by
    show(T.keep _ _ _ P λb f o e=>(Q.pin (b,o) (K0 _ (K0 _ (fm f e)))).1,λb f=>?_);let(o,e,d):=T.obj _ _ P b f;show(Q.pin (b,o) (K0 _ (K0 _ (fm f e)))).2.1
   show thn (ht s H _ fp _ s6 D H6 _ I6 q6) λok s7 f6=>?_;let(Y,Q,q7):=f6;cases ok with
   |false =>
    rw[OH Lq]at q7 ⊢;let(m',R,w7):=hN _ _ q7;show(m',R,i+1,ys,a,k,Y,jy S I Z Q.unpinned,(j Q).1,(j Q).2,rv,hz,w7)
   |true =>
    rw[OG rfl]at q7 ⊢;show thn (he s H _ fp _ s7 D Y _ Q q7) λxv s8 f7=>?_
    cbv;let(y,H8,I8,r8,q8):=f7;let(m',R,w8):=hN _ _ q8;let(pg,pn,_):=I8.pin ((~~~s),{ cls:=.type "list",data:=.seq a.toArray k }) (K0 _ (K1 _ K3))
    w_up;show wpAny_list_append_plain (l:=(~~~s)) (items:=a.toArray) (k,pg) (λh9 g0 c3=>?_) (by let:=-rv;simp;lia);let(k9,g9):=g0;let g1:Inv (bCx X N' sc s H ((~~~s)+1) fp) (gZ fp s5.heap) D H8 s8:=I8.pins_of λp t=>I8.pin p (K0 _ (K0 _ t));let I9:Inv (bCx X N' sc s H ((~~~s)+1) fp) (gZ fp s5.heap) D H8 { s8 with heap:=h9 }:=g1.turned (t':=s8.toks) (it:=(~~~s)) (λb o f e=>c3.extBut b o f e) pn (Lr (LR _)) (.inr (Lf _)) M
     λp t=>by
      let g2:p∈gZ fp s5.heap:=by simpa[bCx] using t
      show(nD _ (mY g2).1).symm
    let g3:Inv (bCx X N' sc s H ((~~~s)+1) fp) [((~~~s),{ cls:=.type "list",data:=.seq (a++[xv]).toArray k9 })] D H8 { s8 with heap:=h9 }:=I9.pins_of λp t=>by
     let e:p=((~~~s),{ cls:=.type "list",data:=.seq (a++[xv]).toArray k9 }):=by simpa using t
     subst e;show(?_,pn,Lr (LR _),a7,λv z=>by cases z);simpa using g9
    show(m',R,i+1,ys++[y],a++[xv],k9,H8,jy S I Z g3,?_,(j I8).2,rv.append (.cons r8 .nil),by simp;lia,w8);show T.keep _ _ _ (j I8).1 λb f o e=>c3.extBut b o (nD b f).symm e
 let key:=codeAny_compStart_list (iter:=iter) (loop _ rfl) (T.self X.A 0 { s with heap:=Q7 ((s.heap.push { cls:=.type "list",data:=.seq #[] }).push { cls:=.type "dict",data:=.dict #[] }) sc.names } _ _ b3 (loop _ rfl));simpa only[newEnv,c4,uY,compEnvC] using key
def yS(a:TI)(ix:OM)(g:TG)(tt:TT)(te:TE):TE:=λσ H Q=>a σ H λJ H1=>AY J (fR σ ix) g tt te H1 λys H2=>∀p,H2 p=Pp->Q (.ref p) (upd H2 p (.lst ys))
theorem bX.clos{pins:OU}{σ:St}{H:Hp}{s:bb}(S:bX X.N X.env N' ix sc)(I:Inv X pins σ H s):QB sc X.env=pure (cx X.env sc.names []) :=
 l9 λy a e=>by
  let(c,hc):=I.ok.has y.1 (S.free y a e);rw[hc];rfl
theorem pL{tg iter elt:bi}{ifs:Pj}{pos:Pos}{f:TI}{g:TG}{tt:TT}{te:TE}(hc:X.calm=true)(S:bX X.N X.env N' ix sc)(hi:PI X tg iter f)
  (k:∀s H C fp,PG (bCx X N' sc s H C fp) tg g) (l:∀s H C fp,PIf (bCx X N' sc s H C fp) ifs tt) (n:∀s H C fp,PE (bCx X N' sc s H C fp) elt te)
  (hs:(∀x,q4 iter X.env x=pure x)⊕'Pv):PE X (.ListComp elt [(tg,iter,ifs,0)] sc pos) (yS f ix g tt te):=by
 intro pins s σ H Q I h;rw[eval_ListComp];show ZS (use:=Pp) rfl hs (S.clos I) S.kind S.names (thn (hi pins s σ H _ I h) λv s1 h1=>thn h1 λp s2 a=>?_);let(it,fp,tn,J,H2,e,i,T,c,j,hw):=a;subst e;show tP (RR:=λd C=>compPost (kq X.prog X.w) X.A X.xe Pp (EP X pins σ Q) d C) hc S k l n i T c j hw λs' H' ys m hn r t q u=>?_;show(m,hn,λh' hs'=>?_);let y:(upd H' (~~~s2) (.lst ys)) ((~~~s2)+1)=Pp:=by rw[ao (L9 (LR _))];show t
 let(z,B,j,D,E,F):=i.fpOk (H':=upd H' (~~~s2) (.lst ys)) (b:=(~~~s2)+1) (L3 _) y;show(.ref (~~~s2),_,u.turned (t':=s'.toks) (it:=(~~~s2)+1) (λb o G e=>hs'.extBut b o G e) z B D E F,rfl,q _ r)
theorem dg{i:Nat}{y:ck}{tg iter elt:bi}{ifs:Pj}{pos c d:Pos}{B:TI}{g:TG}{tt:TT}{te:TE}(hN:X.N.Nodup)(f:X.N[i]?=some y)(E:X.env.scope.names.lookup y=some .local)
  (hc:X.calm=true) (S:bX X.N X.env N' ix sc) (hi:PI X tg iter B)
  (M:∀s H C fp,PG (bCx X N' sc s H C fp) tg g) (O:∀s H C fp,PIf (bCx X N' sc s H C fp) ifs tt) (P:∀s H C fp,PE (bCx X N' sc s H C fp) elt te)
  (j:Qv (.ListComp elt [(tg,iter,ifs,0)] sc pos) (some (.Name y d)) c.line X.env=pure true⊕'Pt)
  (hs:(∀x,q4 iter X.env x=pure x)⊕'Pv):PS X (.Assign [.Name y d] (.ListComp elt [(tg,iter,ifs,0)] sc pos) c) (E7 (yS B ix g tt te) (jo i)):=by
 intro pins s σ H D I h;rw[exec_Assign_Name_used _ _ _ _ j];show jj (QE (jj ?_));show kn _ X.A (do let _ <-comprehension (.ListComp elt [(tg,iter,ifs,0)] sc pos) sc X.env _ (newList []) Pr (eval iter X.env) (Po (QV (.Name y d) X.env))) _ _ s;show jj (qD (ZS (use:=Po (QV (.Name y d) X.env)) (Q:=λ_ s'=>SP X pins D .next s') rfl hs (S.clos I) S.kind S.names
  (thn (hi pins s σ H _ I h) λv s1 h1=>thn h1 λR s2 ⟨it,fp,tn,J,H2,e,F,T,k,G,hw⟩=>?_)) (λ_ s' U=>kf (kf U)) λ_ _ e=>e)
 subst e;show tP (RR:=λl C=>compPost (kq X.prog X.w) X.A X.xe (Po (QV (.Name y d) X.env)) (λ_ s'=>SP X pins D .next s') l C) hc S M O P F T k G hw λs' H' ys m hn V W q Y=>?_;let Z:(upd H' (~~~s2) (.lst ys)) ((~~~s2)+1)=Pp:=by rw[ao (L9 (LR _))];show W
 let(f0,K,G,f3,L,f5):=F.fpOk (H':=upd H' (~~~s2) (.lst ys)) (b:=(~~~s2)+1) (L3 _) Z;show kn _ X.A (QV (.Name y d) X.env (.ref (~~~s2))) _ _ _;show wpAny_assign_Name (mD (v:=.ref (~~~s2)) Y hN f (.inl E) rfl (λn p r=>?_) (.inr E));let(a,t,u):=r;let ne:(~~~s2)+1≠a:=by
  rcases u with rfl|u;show K
  exactλz=>L y a u z.symm
 show(m,hn.sameBut t ne,λh' hs'=>?_);show(_,_,p.turned (t':=n.toks) (it:=(~~~s2)+1) (λb o hb e=>hs'.extBut b o hb e) f0 K f3 L f5,q _ V)
end
open Sem (wp)
section
variable{prog:ky}{w:kD}
def dB(prog:ky)(w:kD)(h:cc)(k:Int×O7)(a:aG):Prop :=
 ∃o t b n,h.get? a=Po o/\o.cls=.type "tuple" /\ o.data=.seq #[.int k.1 t,.ref b] n/\IsTupleKey (QG prog w) h k.2 b
theorem ft(i:Int)(t:Tok):(QG prog w).is i (.int i t)=Pq:=by simp[QG,OB]
theorem dB.typeIs{s:bb}{k:Int×O7}{a:aG}(x:dB prog w s.heap k a):s.TypeIs (.ref a) "tuple" := let ⟨o,_,_,_,ho,hc,_⟩:=x;(o,ho,hc)
theorem dB.inj{h:cc}{a:aG}{x y:Int×O7}(hx:dB prog w h x a)(f:dB prog w h y a):x=y:=by
 cbv;let(x1,g):=x;let(y1,i):=y;let(o,t,b,n,ho,_,hd,hi):=hx;let(o',t',b',j,d,_,c,e):=f;obtain rfl:o=o':=du (ho.symm.trans d);rw[hd]at c;injection c with h1 _;simp only[Array.mk.injEq,el,Value.int.injEq,Value.ref.injEq,and_true]at h1;let((e1,_),e2):=h1;subst e2
 w_up;let e3:g=i:=hi.inj e;rw[e1,e3]
theorem dB.keeps{h h':cc}{k:Int×O7}{a d:aG}{o:Obj}{es ep}(x:dB prog w h k a)(ho:h.get? d=Po o)(hd:o.data=.dict es ep)(hs:lp d h h') :
  dB prog w h' k a:=by
 let(o',t,b,n,e,hc,c,hi):=x;let f:a≠d:=by rintro rfl;obtain rfl:o'=o:=du (e.symm.trans ho);rw[hd]at c;show nomatch c
 show(o',t,b,n,(hs.2 a f).trans e,hc,c,hi.keeps ho hd hs)
noncomputable def oY(prog:ky)(w:kD)(k:Int×O7):Int:=ZO (gs [Zu k.1,Z2 (QG prog w) k.2])
variable{A:Around}{E:ba->bb->Prop}{s:bb}
theorem uc{k:Int×O7}{a:aG}{Q:Int->bb->Prop}(i:A.units+1<Qj)(hk:dB prog w s.heap k a)(h:Q (oY prog w k) { s with toks:=s.toks+(k.2.length+3) }) :
  kn (kq prog w) A (pyHash (.ref a)) Q E s:=by
 let f:=hk.typeIs;let(k1,k2):=k;let(o,t,g,n,ho,_,hd,hi):=hk;unfold pyHash
 first|unfold pyHashByItsType|skip
 first|show jj (wpAny_cRoomFor_or (.inr (!0)) ?_)|skip
 show jj (Qs f F.slot_tuple_hash.lookup ?_);show kn _ _ (if (Po (pa "tuple.__hash__")==Po dr)=Pq then _ else _) Q E s;rw[OH (by rw[beq_builtin_none];show Lq)];show jj (Qs f F.slot_tuple_hash.lookup ?_);show kn _ _ (callSpecialIfBoundUnlessNone? (.ref a) "__hash__" _ >>= _) Q E s;show jj (wpAny_callSpecialIfBoundUnlessNone?_slot f F.slot_tuple_hash (zv F.slot_tuple_hash f F.entry_tuple_hash ?_ (F.args_tuple_hash_1 _)));show kn _ _ (Builtin.Tuple.tupleItemsOf (.ref a) >>= _) _ _ s;show jj (Zo ho hd ?_);show jj ?_;rw[<-oo];show Q5 _
  (λrest (b:Array Int) s'=>(rest=[.int k1 t,.ref g]/\b.toList=[]/\s'=s)\/(rest=[.ref g]/\b.toList=[Zu k1]/\s'={ s with toks:=s.toks+1 })\/(rest=[]/\b.toList=[Zu k1,Z2 (QG prog w) k2]/\s'={ s with toks:=s.toks+1+(-k2+1) }))
  _ ?_ ?_ _ _ (.inl (rfl,rfl,rfl))
 rintro x rest b s' (⟨c,d,rfl⟩|⟨c,d,rfl⟩|⟨c,d,rfl⟩);injection c with e1 e2;subst e1 e2;show jj ((QG prog w).pyHash (ft k1 t) ?_)
 first
  |show kf (.inr (.inl ⟨rfl,by simp[d,QG],rfl⟩))
  |show jj (kf (kf (.inr (.inl ⟨rfl,by simp[d,QG],rfl⟩))))
 injection c with e1 e2;subst e1 e2;show jj (wpAny_pyHash_tuple (knd:=QG prog w) i hi ?_)
 first
  |show kf (.inr (.inr ⟨rfl,by simp[d],rfl⟩))
  |show jj (kf (kf (.inr (.inr ⟨rfl,by simp[d],rfl⟩))))
 cases c;rintro b s' (⟨c,d,rfl⟩|⟨c,d,rfl⟩|⟨c,d,rfl⟩);cases c;cases c;show kn _ _ (retInt (gs b.toList)) _ _ _;rw[d];show wpAny_ret_mkInt ?_;show kn _ _ (if (decide (-(2:Int) ^ 63<=gs _)&&decide (gs _<2 ^ 63))=Pq then _ else _) Q E _;unfold oY ZO at h;generalize gs [Zu k1,Z2 (QG prog w) k2]=z at *;by_cases c:(decide (-(2:Int) ^ 63<=z)&&decide (z<2 ^ 63))=Pq;rw[OG c];rw[OG c]at h;show kf ?_;let e:s.toks+1+(-k2+1)+1=s.toks+(-k2+3):=!0
 simpa[e] using h;rw[OH c];rw[OH c]at h;show jj (QL (kf ?_));let e:s.toks+1+(-k2+1)+1=s.toks+(-k2+3):=!0
 simpa[e] using h
theorem oX{x y:Int×O7}{a b:aG}{P:Fin->bb->Prop}(t:A.units<Qj)(hx:dB prog w s.heap x a)(o:dB prog w s.heap y b)(h:P (.done (.ret (.bool (decide (x=y))))) s) :
  kn (kq prog w) A (Builtin.«tuple.__eq__» ⟨[.ref a,.ref b],[]⟩) P E s:=by
 let e:=o.typeIs
 cbv;let(x1,c):=x;let(y1,d):=y;let(z,ta,p,na,f,_,g,i):=hx;let(ob,tb,q,B,j,_,k,l):=o
 w_up;show kn _ _ (Zq (.ref b) (.type "tuple") >>= _) _ _ s;show jj (QM e Zd ?_);simp only[Mp,Lz,if_false];show jj (Zo f g ?_);show jj (Zo j k ?_);show jj ?_;show Q5 _
  (λrest r s'=>r.1=Pp/\s'=s/\(rest=[(Pm (.int x1 ta) (.int y1 tb)),(Pm (.ref p) (.ref q))]\/(rest=[(Pm (.ref p) (.ref q))]/\x1=y1)\/(rest=[]/\x1=y1/\c=d)))
  _ ?_ ?_ _ _ ⟨rfl,rfl,.inl rfl⟩
 rintro⟨u,v⟩ rest r s' ⟨m,rfl,(hz|⟨hz,e1⟩|⟨hz,_⟩)⟩;simp only[el,ms]at hz;let((rfl,rfl),rfl):=hz;show jj ((QG prog w).eqBool (ft x1 ta) (ft y1 tb) ?_);by_cases hk:x1=y1;subst hk;rw[decide_eq_true rfl];simp only[Mp,Lz,if_false];show kf ⟨rfl,rfl,.inr (.inl (!1))⟩;rw[decide_eq_false hk];simp only[Os,if_true];let n:decide ((Pm x1 c)=(Pm y1 d))=Pr:=by simp[hk]
 rw[n]at h;show jj (kf (kf (kf h)));simp only[el,ms]at hz;let((rfl,rfl),rfl):=hz;show jj (wpAny_eqBool_tuple t i l ?_);by_cases hk:c=d;rw[decide_eq_true hk];simp only[Mp,Lz,if_false];show kf ⟨rfl,rfl,.inr (.inr (by simp[e1,hk]))⟩;rw[decide_eq_false hk];simp only[Os,if_true];let n:decide ((Pm x1 c)=(Pm y1 d))=Pr:=by simp[hk]
 rw[n]at h;show jj (kf (kf (kf h)));cases hz;rintro⟨C,D⟩ s' ⟨m,rfl,(hz|⟨hz,e1⟩|⟨hz,e1,e2⟩)⟩;cases hz;cases hz;simp only at m;subst m;show kf ?_;rw[decide_eq_true (by rw[e1,e2])]at h;show h
theorem ud{x y:Int×O7}{a b:aG}{Q:Bool->bb->Prop}(f:A.units+1<Qj)(hx:dB prog w s.heap x a)(d:dB prog w s.heap y b)(h:Q (decide (x=y)) s) :
  kn (kq prog w) A (eqBool (.ref a) (.ref b)) Q E s:=by
 unfold eqBool
 try with_reducible show qT ?_
 show kn _ _ (if (di a==di b)=Pq then _ else _) Q E s;by_cases c:(di a==di b)=Pq;rw[OG c];let e:a=b:=by let:=eq_of_beq c;injection this
 subst e;obtain rfl:=hx.inj d;show jj (QL (kf (by simpa using h)));rw[OH c];show jj (wpAny_richCompare_same_room (op:=.Eq) hx.typeIs d.typeIs F.slot_tuple_eq
  (zv F.slot_tuple_eq hx.typeIs F.entry_tuple_eq (oX f hx d (_,rfl,(λe=>nomatch e),Qd h)) (F.args_tuple_eq_2 _ _)) (!0))
theorem vP{n:Nat}{ks:O7}{a:aG}{Q:Bool->bb->Prop}(hk:IsTupleKey (QG prog w) s.heap ks a)(h:Q Pq s):kn (kq prog w) A (ZZ (n+1) (.ref a)) Q E s:=by let e:=hk.typeIs;let(o,items,m,ho,_,hd,hi):=hk;unfold ZZ;show jj (Qs e F.slot_tuple_eq.lookup ?_);show kn _ _ (Zq (.ref a) (.type "tuple") >>= _) _ _ s;show jj (QM e Zd ?_);simp only[Mp,Lz,if_false];show jj (QI ho hd ?_);show jj ?_;show kn _ _ (forIn items _ _) _ _ s;rw[<-oo];show Q5 _ (λrest r s'=>r.1=Pp/\s'=s/\∀v∈rest,carriedByValue v=Pq) _ ?_ ?_ _ _ (rfl,rfl,hi.byValue);rintro v rest r s' ⟨c,rfl,b⟩;rw[eqIsQuiet_byValue _ (b v K3)];show jj (kf ?_);simp only[Mp,Lz,if_false];show kf (rfl,rfl,λu d=>b u (K5 _ d));rintro⟨f,g⟩ s' ⟨c,rfl,_⟩;simp only at c;subst c;show kf h
theorem vp{k:Int×O7}{a:aG}{Q:Bool->bb->Prop}(hk:dB prog w s.heap k a)(h:Q Pq s):kn (kq prog w) A (ZZ 8 (.ref a)) Q E s:=by let f:=hk.typeIs;let(o,t,b,n,ho,_,hd,hi):=hk;unfold ZZ;show jj (Qs f F.slot_tuple_eq.lookup ?_);show kn _ _ (Zq (.ref a) (.type "tuple") >>= _) _ _ s;show jj (QM f Zd ?_);simp only[Mp,Lz,if_false];show jj (QI ho hd ?_);show jj ?_;show kn _ _ (forIn _ _ _) _ _ s;rw[<-oo];show Q5 _ (λrest r s'=>r.1=Pp/\s'=s/\∀v∈rest,carriedByValue v=Pq\/v=.ref b) _ ?_ ?_ _ _ (rfl,rfl,λv hv=>?_);rintro v rest r s' ⟨e,rfl,c⟩;rcases c v K3 with hv|rfl;rw[eqIsQuiet_byValue _ hv];show jj (kf ?_);simp only[Mp,Lz,if_false];show kf (rfl,rfl,λu d=>c u (K5 _ d));show jj (vP hi ?_);simp only[Mp,Lz,if_false];show kf (rfl,rfl,λu d=>c u (K5 _ d));rintro⟨g,i⟩ s' ⟨e,rfl,_⟩;simp only at e;subst e;show kf h;simp at hv;rcases hv with rfl|rfl;show .inl rfl;show .inr rfl
end
def bZ(prog:ky)(w:kD):HeapKind prog w (Int×O7) where
 is := dB prog w
 hash:=oY prog w
 draws:=λk=>k.2.length+3
 room:=λA=>A.units+1<Qj
 inj:=λhx a=>hx.inj a
 keeps:=λx ho hd hs=>x.keeps ho hd hs
 pyHash:=λb hk h=>uc b hk h
 eqBool:=λb hx a h=>ud b hx a h
 quiet:=λhk h=>vp hk h
abbrev bc:=Int×O7
abbrev OR:=List (bc×aG×ba)
abbrev OS:=List (bc×aG×V)
abbrev OX:=List (bc×av)
noncomputable def yU(k:bc):Int:=ZO (gs [Zu k.1,ZO (gs (k.2.map Zu))])
def tE(x:bc×aG×ba):DictEntry:=(yU x.1,.ref x.2.1,x.2.2)
theorem kP{prog:ky}{w:kD}{A:Around}(a:A.units+2<Qj):(bZ prog w).room A.in1:=a
section
variable{prog:ky}{w:kD}{A:Around}{E:ba->bb->Prop}{s:bb}{d a:aG}{xs:OR}{k:bc}{v:ba}
def qX(prog:ky)(w:kD)(h:cc)(d:aG)(xs:OR):Prop :=
 ∃o ds ep,h.get? d=Po o/\o.ExactDict/\o.data=.dict ds ep/\ds.toList=xs.map tE/\(∀x∈xs,dB prog w h x.1 x.2.1)/\(xs.map (·.1)).Nodup/\ep=-xs
theorem qX.of{h:cc}(x:qX prog w h d xs):h.DictOfH (bZ prog w) d xs:=by let(o,ds,ep,h1,h2,a,b,c,e,_):=x;show(o,ds,ep,h1,h2,a,b,c,e)
theorem nY{Q:Unit->bb->Prop}(m:A.units+1<Qj)(b:dB prog w s.heap k a)(q:qX prog w s.heap d xs)
  (n:∀h',qX prog w h' d (storedH xs k a v)->lp d s.heap h'->Q () { s with heap:=h',toks:=s.toks+(k.2.length+3) }) (hsz:xs.length<=sizeLine) :
  kn (kq prog w) A (dictSet d (.ref a) v) Q E s:=by
 let(o,es,ep,ho,hc,hd,h,c,hn,hl):=q;unfold dictSet
 try with_reducible show qT ?_
 show jj ((bZ prog w).pyHash m b ?_);unfold dictSetHashed
 try with_reducible show qT ?_
 show jj (wpAny_dictFind_heap (knd:=bZ prog w) (s:={ s with toks:=s.toks+(bZ prog w).draws k }) m b ho hd h c hn ?_ ?_)
 .intro f;let g:k ∉ xs.map (·.1):=not_mem_keys_of_get f;show jj (QL (wpAny_updateDictKeys (hz:=by let e:=size_of_entries (knd:=bZ prog w) h;lia) (s:={ s with toks:=s.toks+(bZ prog w).draws k }) ho hd (n _ (_,_,ep+1,LG _ ho (NW (NL hd _)),
   hc.mapDictKeys _,NL hd _,?_,?_,?_,?_) (dV ..))))
  all_goals rw[storedH_new (atKey_none_of_get f)]
  simp[h,tE,entryOfKey];rfl;intro x hx;rcases K2.mp hx with hx|hx;show(bZ prog w).keeps (c x hx) ho hd (dV ..);simp only[K7]at hx;subst hx;show(bZ prog w).keeps b ho hd (dV ..);rw[Lw,K6];show(hn,!1,λx hx y i=>?_);simp only[Le,FB,K7]at i;subst i
  exactλe=>g (e▸hx)
  rw[hl];simp
 .intro j p hj;show jj (QL (jj (wpAny_updateDict (s:={ s with toks:=s.toks+(bZ prog w).draws k }) ho hd (wpAny_point (n _ (_,_,ep,LG _ ho (NW (Oj hd _)),
   hc.mapDict _,Oj hd _,?_,?_,?_,?_) (dV ..))))))
  all_goals rw[storedH_old (atKey_of_get hn hj)]
  let:=modify_map_putAt tE (λe:DictEntry=>{ e with val:=v }) k v (λY Y=>rfl) hn hj;rw[<-h]at this;let⟨l⟩:=es;simpa using this;intro x hx;let(y,i,rfl):=Lo.mp hx;unfold putAt;split <;> show(bZ prog w).keeps (c y i) ho hd (dV ..)
  rw[keys_map_putAt];show hn;rw[hl];simp
theorem vC{Q:Unit->bb->Prop}(g:A.in1.units+1<Qj)(b:dB prog w s.heap k a)(f:qX prog w s.heap d xs)
  (h:∀h',qX prog w h' d (storedH xs k a v)->lp d s.heap h'->Q () { s with heap:=h',toks:=s.toks+(k.2.length+3) }) (hsz:xs.length<=sizeLine) :
  kn (kq prog w) A (ZJ (.ref d) (.ref a) v) Q E s:=by
 let c:=f.of.typeIs;unfold ZJ
 try with_reducible show qT ?_
 show jj (wpAny_sequenceKey c (!2) ?_);show jj (Qp (name:=dD "__setitem__") c slot_dict_setitem (zv slot_dict_setitem c entry_dict_setitem ?_ (args_dict_setitem _ _ _)));show kn _ _ (Builtin.Dict.notOrdered "__setitem__" ([.ref d,.ref a,v],[]) >>= _) _ _ s;show jj (wpAny_notOrdered_dict c ?_);show kn _ _ (dictSet d (.ref a) v >>= _) _ _ s;show jj (nY g b f (λh' e hs'=>kf (.none,rfl,kf (h h' e hs'))) hsz)
variable{o od:Obj}{es:Array DictEntry}{ep i:Nat}{it:aG}
theorem xu{Q:ba->bb->Prop}(b:(d==Qi)=false)(ho:s.heap.get? d=some o)(hc:o.ExactDict)(a:o.data=.dict es ep)
  (e:Q (.ref s.heap.objs.size) { s with heap:=s.heap.push { cls:=.type "dict_keyiterator",data:=.fields #[.ref d,.int 0 0,.int es.size 0,.int ep 0] } }) :
  kn (kq prog w) A (Z4 (.ref d)) Q E s:=by
 let c:s.TypeIs (.ref d) "dict" := (o,ho,hc.1)
 show wpAny_pyIter_slot c F.slot_dict_iter (zv F.slot_dict_iter c F.entry_dict_iter ?_ (F.args_dict_iter_1 _));unfold Builtin.«dict.__iter__»;show jj ?_;unfold Builtin.Dict.dictSlotNone;show jj (wpAny_notOrdered_dict c ?_);show kn _ _ (pure (di d)) _ _ s;show kf ?_;show kn _ _ (MW d >>= _) _ _ s;unfold MW;rw[OH (by rw[b];show Lq)];show jj (kf ?_);show jj (Zt ho a ?_);show jj (ZH ho a ?_);show jj (KP (kf (_,rfl, "dict_keyiterator",_,(_,Lm _ rfl,rfl),F.slot_dict_keyiterator_next.lookup,?_)));simpa[Qk] using e
theorem zW{Q:O3->bb->Prop}(a:s.heap.IsKeyIter it d i es.size ep)(c:s.heap.get? d=some od)(e:od.data=.dict es ep)(g:i<es.size)
  (h:∀h',h'.IsKeyIter it d (i+1) es.size ep->lp it s.heap h'->Q (some es[i].key) { s with heap:=h' }) :
  kn (kq prog w) A (Zp (.ref it)) Q E s:=by
 let(o,ho,hc,hd):=id a;unfold Zp;show jj (ZT (Qp (name:=dD "__next__") a.typeIs F.slot_dict_keyiterator_next
  (zv F.slot_dict_keyiterator_next a.typeIs F.entry_dict_keyiterator_next ?_ (F.args_dict_keyiterator_next_1 _))))
 show jj (kf ?_);show jj ?_;show jj ?_
 first|show jj (Qr a.typeIs (kf ?_))|show jj (QD a.typeIs (kf ?_))
 show jj (wpAny_fieldsOf ho hd ?_);let f:sH "dict_keyiterator" = Pr:=!2
 simp only[f,Lz,if_false];show kn _ _ (if (di d==dr)=Pq then _ else _) _ _ s;rw[OH (show ¬((di d==dr)=Pq) from Lq)];show jj (kf ?_);show jj (Zt c e ?_);rw[OH (!1)];show jj (kf ?_);show jj (ZH c e ?_);rw[OH (!1)];show kf ?_;simp only[show ¬((i:Int)<0) from by lia,if_false,Mo,M5 g];show jj ?_
 first|show jj (Qr a.typeIs (kf ?_))|show jj (QD a.typeIs (kf ?_))
 show jj (wpAny_isOneOf_keyiter a.typeIs ?_);show kn _ _ (setField (.ref it) 1 (Qk ((i:Int)+1)) >>= _) _ _ s;show jj (Qy ho hd (!1) ?_);let b:(s.heap.update it (lx (·.setIfInBounds 1 (Qk ((i:Int)+1))))).IsKeyIter it d (i+1) es.size ep :=
  (_,LG _ ho (pu (i2 hd _)),(Oc ..).trans hc,by rw[i2 hd];simp[Qk])
 show jj (qT ?_);show jj (wpAny_isOneOf_keyiter (s:={ s with heap:=s.heap.update it (lx (·.setIfInBounds 1 (Qk ((i:Int)+1)))) }) b.typeIs ?_);show kn _ _ (pure es[i].key) _ _ _;show kf (kf (_,rfl,kf (h _ b (dV ..))))
theorem AC{Q:O3->bb->Prop}(j:A.handled=none)(c:s.heap.IsKeyIter it d i es.size ep)(e:s.heap.get? d=some od)(f:od.data=.dict es ep)(h:es.size<=i)
  (k:∀h',MV it s.heap h'->Q none { s with heap:=h' }):kn (kq prog w) A (Zp (.ref it)) Q E s:=by
 let(o,ho,hc,hd):=id c;unfold Zp;show jj (ZT (Qp (name:=dD "__next__") c.typeIs F.slot_dict_keyiterator_next
  (zv F.slot_dict_keyiterator_next c.typeIs F.entry_dict_keyiterator_next ?_ (F.args_dict_keyiterator_next_1 _))))
 show jj (kf ?_);show jj ?_;show jj ?_
 first|show jj (Qr c.typeIs (kf ?_))|show jj (QD c.typeIs (kf ?_))
 show jj (wpAny_fieldsOf ho hd ?_);let g:sH "dict_keyiterator" = Pr:=!2
 simp only[g,Lz,if_false];show kn _ _ (if (di d==dr)=Pq then _ else _) _ _ s;rw[OH (show ¬((di d==dr)=Pq) from Lq)];show jj (kf ?_);show jj (Zt e f ?_);rw[OH (!1)];show jj (kf ?_);show jj (ZH e f ?_);rw[OH (!1)];show kf ?_;simp only[show ¬((i:Int)<0) from by lia,if_false,Mo,Array.getElem?_eq_none h];show jj ?_
 first|show jj (Qr c.typeIs (kf ?_))|show jj (QD c.typeIs (kf ?_))
 show kn _ _ (setField (.ref it) 0 .none >>= _) _ _ s;show jj (Qy ho hd (!1) ?_);show kn _ _ (newExc (.type "StopIteration") [] >>= _) _ _ _;show jj ?_;simp only[newExc,newTuple];show jj (KP ?_ (by size_fits));show jj (m:=Zh _ _) (ZD (a:=dr) (by first|rfl|(simp only[Zh];rfl)) ?_);show KP ?_ (by size_fits);simp only[raiseNew];show jj (wpAny_handled ?_);rw[show A.in1.handled=Pp from j];show jj (kf (wpAny_throw ?_));show jj (QM (T := "StopIteration") (b:=Pq) (_,Lm _ rfl,rfl) isSubtype_stop ?_);show kf (k _ (((dV ..).extBut.push _).push _))
end
def cu(a:aG)(es:OS)(h:cc):Prop :=
 (-es)<=sizeLine/\(a==Qi)=Pr/\∃xs:OR,Paired (λ(p:bc×aG×V) (q:bc×aG×ba)=>p.1=q.1/\p.2.1=q.2.1/\br p.2.2 q.2.2) es xs /\
  ∃o ds ep,h.get? a=Po o/\o.ExactDict/\o.data=.dict ds ep/\ds.toList=xs.map tE/\(xs.map (·.1)).Nodup/\ep=-xs
abbrev dZ(k:bc):av:=.tuple [.int k.1,.tuple (k.2.map .int)]
abbrev fQ(kvs:OX):av:=.dict (kvs.map λp=>(dZ p.1,p.2))
abbrev fzD(ds:Pe):av:=.dict [(.none,.list ds)]
abbrev cR(kvs:OW):av:=.dict ((.none,.none)::kvs.map λp=>(.str p.1,p.2))
abbrev bU(C:aG)(kvs:OW):av:=.dict ((.none,.int (C:Nat))::kvs.map λp=>(.str p.1,p.2))
abbrev dkO(es:O1):HO:=.dK (es.map λp=>(.inr p.1,p.2))
theorem Ja{α:Type}{n:Nat}{l:List α}(h:-l=n+1):∃a t,l=a::t:=List.exists_cons_of_length_eq_add_one h
theorem uE{α:Type}{l:List α}(h:-l=1):∃a,l=[a]:=List.length_eq_one_iff.mp h
theorem Jb{α:Type}{l:List α}(h:-l=2):∃a b,l=[a,b]:=by let(a,t,rfl):=Ja h;let(b,rfl):=uE (l:=t) (M2 h);show(a,b,rfl)
theorem Kc{α:Type}{l:List α}(h:-l=3):∃a b c,l=[a,b,c]:=by let(a,t,rfl):=Ja h;let(b,c,rfl):=Jb (l:=t) (M2 h);show(a,b,c,rfl)
theorem KA{α:Type}{l:List α}(h:-l=4):∃a b c d,l=[a,b,c,d]:=by let(a,t,rfl):=Ja h;let(b,c,d,rfl):=Kc (l:=t) (M2 h);show(a,b,c,d,rfl)
def fC(e C:aG)(dx:O4)(h:cc):Prop:=∃vs sl,h.get? e=Po { cls:=.ref C,dict:=dx,data:=.fields vs,slots:=sl }
abbrev jq(C:aG)(n:Int):av:=.dict [(.int (C:Nat),.int n)]
mutual
inductive DV (K:cp) (H:Hp):V->av->Prop
 |non:DV K H .non .none
 |bl (b:Bool):DV K H (.bl b) (.bool b)
 |int (i:Int):DV K H (.int i) (.int i)
 |str (x:ck):DV K H (.str x) (.str x)
 |lst {a:aG}{xs:Pl}{ds:Pe}:SqL K H a xs->DVs K H xs ds->DV K H (.ref a) (.list ds)
 |tup {a:aG}{xs:Pl}{ds:Pe}:SqT K H a xs->DVs K H xs ds->DV K H (.ref a) (.tuple ds)
 |exc {a C:aG}{dx:O4}{n:Int}:H a=some (.ext (fC a C dx))->DV K H (.ref a) (jq C n)
 |dct {a:aG}{es:OS}{kvs:OX}:H a=some (.ext (cu a es))->DVs K H (es.map λp=>V.ref p.2.1) (kvs.map λp=>dZ p.1)->DVs K H (es.map λp=>p.2.2) (kvs.map λp=>p.2)->es.map (λp=>p.1)=kvs.map (λp=>p.1)->DV K H (.ref a) (fQ kvs)
 |idc {a:aG}{es:O1}{kvs:OW}:H a=some (dkO es)->es.map (·.1)=kvs.map (·.1)->DVs K H (es.map (·.2)) (kvs.map (·.2))->DV K H (.ref a) (cR kvs)
 |dsk {a b C dx:aG}{es:O1}{kvs:OW}:H a=some (.ins C dx [("towns",.ref b)])->H b=some (dkO es)->es.map (·.1)=kvs.map (·.1)->DVs K H (es.map (·.2)) (kvs.map (·.2))->DV K H (.ref a) (bU C kvs)
 |fz {v:V}{ds:Pe}:DV K H v (.list ds)->DV K H v (fzD ds)
inductive DVs (K:cp) (H:Hp):Pl->Pe->Prop
 |nil:DVs K H [] []
 |cons {x:V}{xs:Pl}{d:av}{ds:Pe}:DV K H x d->DVs K H xs ds->DVs K H (x::xs) (d::ds)
end
theorem DV.tupI{K:cp}{H:Hp}{v:V}{ds:Pe}(h:DV K H v (.tuple ds)):∃a xs,v=.ref a/\SqT K H a xs/\DVs K H xs ds:=by
 cases h with
 |tup h q=>show(_,_,rfl,h,q)
theorem DV.lstI{K:cp}{H:Hp}{v:V}{ds:Pe}(h:DV K H v (.list ds)):∃a xs,v=.ref a/\SqL K H a xs/\DVs K H xs ds:=by
 cases h with
 |lst h q=>show(_,_,rfl,h,q)
theorem DV.intI{K:cp}{H:Hp}{v:V}{i:Int}(h:DV K H v (.int i)):v=.int i:=by cases h;rfl
theorem DVs.twoI{K:cp}{H:Hp}{vs:Pl}{d e:av}(h:DVs K H vs [d,e]):∃x y,vs=[x,y]/\DV K H x d/\DV K H y e:=by
 cases h with
 |cons h q =>
  cases q with
  |cons h2 q=>cases q;show(_,_,rfl,h,h2)
section
variable{X:Cx}{pins:OU}{σ:St}{H:Hp}{s:bb}
theorem DV.reads(I:Inv X pins σ H s){x:V}{d:av}{u:ba}(h:DV X.K H x d):br x u->d.canLay0=Pq->∃as,Reads s.heap u d as :=
  DV.rec (motive_1:=λx d Y=>∀u:ba,br x u->d.canLay0=Pq->∃as,Reads s.heap u d as) (motive_2:=λxs ds Y=>∀us:Ph,aU xs us->lc ds=Pq->∃as,ReadsAll s.heap us ds as)
  (λu r Y=>by cases (show _=dr from r);show(_,.none))
  (λb u r Y=>by cases (show _=r4 b from r);show(_,.bool b))
  (λi u r Y=>by let(t,rfl):=r;show(_,.int i t))
   (λx u r Y=>by let(t,rfl):=r;show(_,.str x t))
  (λ{a xs ds} h q i u r l=>by
    cases (show _=di a from r);let(g,k,(o,n,e,c,_,hd),_):=I.list h;let(as,f):=i _ k (by simpa only[eN] using l);show(_,.list e c hd (by simpa using f)))
  (λ{a xs ds} h q i u r l=>by
    cases (show _=di a from r);let(g,k,(o,e,c,n,hd),_):=I.tuple h;let(as,f):=i _ k (by simpa only[eN] using l);show(_,.tuple e c hd (by simpa using f)))
   (λY Y Y l=>by simp[eN]at l)
  (λY Y Y Y Y Y Y Y l=>by simp[eN]at l) (λY Y Y Y Y Y l=>by simp[eN]at l) (λY Y Y Y Y Y Y l=>by simp[eN]at l) (λY Y Y Y l=>by simp[eN]at l)
  (λus r Y=>by rw[aU.zero r];show(_,.nil))
  (λY Y i j us r l=>by
    simp only[lc,LX]at l
    cbv;let(u,vs,rfl,m,p):=aU.consI r;let(as,f):=i u m l.1;let(bs,v):=j vs p l.2
    w_up;show(_,.cons f v)) h u
theorem nj:∀ns:O7,lc (ns.map fy)=Pq
 |[]=>rfl
 |n::ns=>by simp only[Le,lc,eN,Bool.true_and,nj ns]
abbrev shp(d:av):Prop:=pB d=Pq
def IF(K:cp):R2:=λx y H Q=>∃d e,DV K H x d/\DV K H y e/\shp d/\shp e/\Q (.bl (fI d e)) H
def FL(K:cp):R2:=λx y H Q=>∃d e,DV K H x d/\DV K H y e/\shp d/\shp e/\Q (.bl (!PyData.eqv d e)) H
theorem Gx(a:X.A.units+64<Qj):OpR X (q5 .Eq) (IF X.K):=by
 intro pins s σ H x y v u Q I b c h
 cbv;let(d,e,h1,h2,s1,s2,q):=h;let(as,f):=h1.reads I b (oq s1);let(bs,g):=h2.reads I c (oq s2)
 w_up;show eq_dataH f g s1 s2 a (.bl _,H,I,rfl,q)
theorem Gw(a:X.A.units+64<Qj):OpR X (q5 .NotEq) (FL X.K):=by
 intro pins s σ H x y v u Q I b c h
 cbv;let(d,e,h1,h2,s1,s2,q):=h;let(as,f):=h1.reads I b (oq s1);let(bs,g):=h2.reads I c (oq s2)
 w_up;show ne_dataH f g s1 s2 a (.bl _,H,I,rfl,q)
end
def iE:Bool->cc->aG->O8->Prop
 |false,h,a,xs=>h.IsList a xs
 |true,h,a,xs=>h.IsTuple a xs
def iF:Bool->cc->aG->aG->Nat->Prop
 |false,h,it,a,i=>h.IsListIter it a i
 |true,h,it,a,i=>h.IsTupleIter it a i
theorem iE.at{b:Bool}{h h':cc}{a:aG}{xs:O8}(p:iE b h a xs)(k:∀o,h.get? a=Po o->h'.get? a=Po o):iE b h' a xs:=by
 cases b with
 |false=>let(o,e,r):=p;show(o,k o e,r)
 |true=>let(o,e,r):=p;show(o,k o e,r)
theorem iF.at{b:Bool}{h h':cc}{it a:aG}{i:Nat}(p:iF b h it a i)(k:∀o,h.get? it=Po o->h'.get? it=Po o):iF b h' it a i:=by
 cases b with
 |false=>let(o,e,r):=p;show(o,k o e,r)
 |true=>let(o,e,r):=p;show(o,k o e,r)
theorem iE.obj{b:Bool}{h:cc}{a:aG}{xs:O8}(p:iE b h a xs):∃o n,h.get? a=Po o/\o.data=.seq xs n:=by
 cases b with
 |false=>let(o,e,_,n,d):=p;show(o,n,e,d)
 |true=>let(o,e,_,n,d):=p;show(o,n,e,d)
theorem iF.obj{b:Bool}{h:cc}{it a:aG}{i:Nat}(p:iF b h it a i):∃o,h.get? it=Po o/\o.data=.fields #[.ref a,.int i 0]:=by
 cases b with
 |false=>let(o,e,_,d):=p;show(o,e,d)
 |true=>let(o,e,_,d):=p;show(o,e,d)
section
variable{prog:ky}{w:kD}{A:Around}{E:ba->bb->Prop}{s:bb}
theorem zU{it t:aG}{i:Nat}{items:O8}{x:ba}{Q:ba->bb->Prop}(a:s.heap.IsTupleIter it t i)(d:s.heap.IsTuple t items)(hx:items[i]?=some x)
  (e:∀h',h'.IsTupleIter it t (i+1)->lp it s.heap h'->Q x { s with heap:=h' }):kn (kq prog w) A (gV (.ref it)) Q E s:=by let(o,ho,hc,hd):=id a;let(f,b,_,g,c):=d;unfold gV;show jj (Qp (name:=dD "__next__") a.typeIs F.slot_tuple_iterator_next (zv F.slot_tuple_iterator_next a.typeIs F.entry_tuple_iterator_next ?_ (F.args_tuple_iterator_next_1 _)));show kn _ _ (field (.ref it) 0 >>= _) _ _ s;show jj (QH ho hd (x:=.ref t) rfl ?_);show kn _ _ (if (di t==dr)=Pq then _ else _) _ _ s;rw[OH (show ¬((di t==dr)=Pq) from Lq)];show kn _ _ (field (.ref it) 1 >>= _) _ _ s;show jj (QH ho hd (x:=.int i 0) rfl ?_);show kn _ _ (ZV (.ref t) >>= _) _ _ s;show jj (QI b c ?_);simp only[Mo,hx];show jj (Qy ho hd (!1) (kf (x,rfl,kf (e _ ?_ (dV ..)))));show(_,LG _ ho (pu (i2 hd _)),(Oc ..).trans hc,?_);rw[i2 hd];simp[Qk]
theorem pX{it t:aG}{i:Nat}{items:O8}{Q:ba->bb->Prop}(f:A.handled=none)(b:s.heap.IsTupleIter it t i)(g:s.heap.IsTuple t items)(hx:items[i]?=none)
  (h:∀h' e,MV it s.heap h'->(∃o,h'.get? e=some o/\o.cls=.type "StopIteration")->E (.ref e) { s with heap:=h' }):kn (kq prog w) A (gV (.ref it)) Q E s:=by
 let(o,ho,hc,hd):=id b;let(j,c,_,k,d):=g;unfold gV;show jj (Qp (name:=dD "__next__") b.typeIs F.slot_tuple_iterator_next (zv F.slot_tuple_iterator_next b.typeIs F.entry_tuple_iterator_next ?_ (F.args_tuple_iterator_next_1 _)));show kn _ _ (field (.ref it) 0 >>= _) _ _ s;show jj (QH ho hd (x:=.ref t) rfl ?_);show kn _ _ (if (di t==dr)=Pq then _ else _) _ _ s;rw[OH (show ¬((di t==dr)=Pq) from Lq)];show kn _ _ (field (.ref it) 1 >>= _) _ _ s;show jj (QH ho hd (x:=.int i 0) rfl ?_);show kn _ _ (ZV (.ref t) >>= _) _ _ s;show jj (QI c d ?_);simp only[Mo,hx];show jj (QL (jj (Qy ho hd (!1) ?_)));show kn _ _ (newExc (.type "StopIteration") [] >>= _) _ _ _;show jj ?_;simp only[newExc,newTuple];show jj (KP ?_ (by size_fits));show jj (m:=Zh _ _) (ZD (a:=dr) (by first|rfl|(simp only[Zh];rfl)) ?_);show KP ?_ (by size_fits);simp only[raiseNew];show jj (wpAny_handled ?_)
 first|rw[show A.in1.handled=Pp from f]|rw[f]
 show jj (kf (wpAny_throw (h _ _ (((dV ..).extBut.push _).push _) (_,Lm _ rfl,rfl))))
theorem zV{b:Bool}{it a:aG}{i:Nat}{items:O8}{x:ba}{Q:ba->bb->Prop}(c:iF b s.heap it a i)(d:iE b s.heap a items)(hx:items[i]?=some x)
  (e:∀h',iF b h' it a (i+1)->lp it s.heap h'->Q x { s with heap:=h' }):kn (kq prog w) A (gV (.ref it)) Q E s:=by
 cases b with
 |false=>show wpAny_nextOf_list_item c d hx e
 |true=>show zU c d hx e
theorem pY{b:Bool}{it a:aG}{i:Nat}{items:O8}{Q:ba->bb->Prop}(d:A.handled=none)(c:iF b s.heap it a i)(f:iE b s.heap a items)(hx:items[i]?=none)
  (g:∀h' e,MV it s.heap h'->(∃o,h'.get? e=some o/\o.cls=.type "StopIteration")->E (.ref e) { s with heap:=h' }):kn (kq prog w) A (gV (.ref it)) Q E s:=by
 cases b with
 |false=>show wpAny_nextOf_list_end d c f hx g
 |true=>show pX d c f hx g
end
theorem nX{prog:ky}{w:kD}{A:Around}(b:Bool)(g:A.handled=Pp)(it a:aG)(c:a≠it)(items:O8) :
  Draws prog w A it [it,a] items.size (λi v=>items[i]?=Po v) (λi h=>iF b h it a i/\iE b h a items) where
 live:=λY Y st=>by let(o,e,_):=st.1.obj;show(o,e)
 frame:=λY Y Y st hk=>(st.1.at λo e=>hk it (!1) o e,st.2.at λo e=>hk a (!1) o e)
 item:=λi s Q E hi st j=>zV st.1 st.2 (x:=items[i]) (by simp[hi]) λh' d f=>j _ h' s.toks (by simp[hi]) (d,st.2.at λo e=>f.extBut a o c e) f
 done:=λs Q E st k=>pY g st.1 st.2 (!1) k
def SqB(K:cp)(H:Hp):Bool->aG->Pl->Prop
 |false,a,xs=>SqL K H a xs
 |true,a,xs=>SqT K H a xs
section
variable{X:Cx}{pins:OU}{σ:St}{H:Hp}{s:bb}
theorem Inv.seq(I:Inv X pins σ H s){b:Bool}{a:aG}{xs:Pl}(h:SqB X.K H b a xs):∃c:Ph,aU xs c/\iE b s.heap a c.toArray:=by
 cases b with
 |false=>let(c,r,p,_):=I.list h;show(c,r,p.isList)
 |true=>let(c,r,p,_):=I.tuple h;show(c,r,p)
theorem Inv.seq_inj(I:Inv X pins σ H s){b:Bool}{a:aG}{xs ys:Pl}(h:SqB X.K H b a xs)(h':SqB X.K H b a ys):xs=ys:=by
 cases b with
 |false=>show I.list_inj h h'
 |true=>show I.tuple_inj h h'
theorem Inv.turnedN{fp:Pg}{h':cc}{t':Nat}(I:Inv X pins σ H s)(d:∀b∈fp,jD X pins H b)(k:∀b o,b ∉ fp->s.heap.get? b=some o->h'.get? b=some o):Inv X pins σ H { s with heap:=h',toks:=t' }:=by
 let a:∀b u,H b=Po u->b ∉ fp:=λb u e z=>by rw[(d b z).1]at e;cases e
 show I.step (g':=s.gens) (d':=s.drawn) (ch:=fp) (λb f=>?_) (λb o Y Y hc e Y=>k b o hc e) (λb o Y Y hc e Y=>(o.slots,k b o hc e)) (λY Y Y Y n=>n) (λb o hc e=>(o,k b o hc e)) (λY Y e=>e) (λY Y Y e=>e)
  (λY Y e=>e) (λm g=>?_) (λb u e=>?_) I.bare
 let(p,h,t,i,j,l):=d b f;show(i,h,j,l);let(o,es,ep,ho,r):=g;show(o,es,ep,k _ o (λz=>(d _ z).2.1 rfl) ho,r);show(I.hok b u e).stay (λc v hc q=>k c v ?_ q) (λY q=>q) λY Y Y q=>q;rcases hc with z|z;rw[z];show a b u e;show a c _ z
theorem Inv.track{T:aG}{o:HO}(I:Inv X pins σ H s)(f:jD X pins H T)(new:cO X.prog X.w (upd H T o) s.heap T o):Inv X pins σ (upd H T o) s:=by
 cbv;let(g,h,p,i,j,k):=f;let a:∀b u,H b=Po u->b≠T:=λb u e z=>by rw[z,g]at e;cases e
 w_up;let q:=I.step (h':=s.heap) (H':=upd H T o) (g':=s.gens) (d':=s.drawn) (t':=s.toks) (ch:=[T]) (λb d=>by
   let e:b=T:=by simpa using d
   rw[e];show(i,h,j,k)) (λb o Y Y Y e Y=>e) (λb o Y Y Y e Y=>(o.slots,e)) (λb o' hc Y n=>by rw[ao (λz=>hc (by simp[z]))];show n) (λb o' Y e=>(o',e))
  (λb xs e=>by rw[ao (a b _ e)];show e) (λb o' u e=>by rw[ao (a b _ e)];show e) (λb ps e=>by rw[ao (a b _ e)];show e) (λm l=>l) (λb u e=>?_) I.bare
 show q;by_cases d:b=T;subst d;rw[aq]at e;cases e;show new;rw[ao d]at e;show(I.hok b u e).stay (λY Y Y q=>q) (λc q=>by rw[ao (a c _ q)];show q) λc xs Y q=>by rw[ao (a c _ q)];show q
end
def Ite(K:cp)(b:Bool)(a:aG):It :=
 (λi H=>∃xs x,SqB K H b a xs/\xs[i]?=Po x,λi H v H'=>∃p x,v=.ref p/\H p=Pp/\H'=upd H p (.tup [.int i,x])/\∀xs,SqB K H b a xs->xs[i]?=Po x,λi H=>∃xs,SqB K H b a xs/\xs.length=i)
theorem vd{P:ky}{w:kD}{K:cp}{es:Pj}{V:Nat}{pos:Pos}(b:Bool)(a it e:aG)(g:e≠it) :
  Ff P w K (.Tuple es V pos) (Ite K b a) [e,it] e (λi h=>(∃old,IsEnum h e it i old)/\iF b h it a i) where
 mem:=!1
 obj := λi h st c hc=>by
  let((old,f),st):=st;rcases K9.mp hc with rfl|hc;show(_,f,λv z=>by
   let Y:Data.fields _=Data.cell v:=z;cases Y)
  let e':c=it:=by simpa using hc
  subst e';let(o,ho,hd):=st.obj;show(o,ho,λv z=>by rw[hd]at z;cases z)
 keep:=λi h h' st k=>by
  let((old,f),st):=st;show((old,k e (!1) _ f),st.at λo q=>k it (!1) o q)
 item := by
  intro X C hw hK hc i pins s σ H E I t st D
  cbv;subst C hw hK;let(xs,x,B,hx):=D;let((old,f),st):=st;let(d,F,p):=I.seq B;let(u,U,Z):=F.get hx;let(oa,na,j,n):=p.obj;let(oi,ei,G):=st.obj;let l:a≠it:=λz=>by rw[z,ei]at j;cases j;rw[G]at n;cases n
  let J:e≠a:=λz=>by rw[<-z,f]at j;cases j;cases n
  w_up;let L:i<d.toArray.size:=by let:=(Lc.mp U).1;simpa using this
  show wpAny_pyNext_enum_itemD (nX (A:=X.A.in1) b (I.ok.hd hc) it a l d.toArray) f (st,p) L g (by simp[g,J]) λy h1 tk M r N hT hz hk=>?_;let ey:y=u:=by
   let:d[i]?=Po y:=by simpa using M
   rw[U]at this;show(du this).symm
  subst ey;show(_,rfl,wpAny_letOwnedTupleGo_enum r λh2 O m=>?_);let elt:e<(~~~s):=Lh f;let R:it<(~~~s):=Lh ei;let I2:Inv X pins σ H { s with heap:=h2,toks:=tk+1 }:=I.turnedN t λc o hc q=>m.extBut c o (λz=>hc (by simp[z])) (hk c o (λz=>hc (by simp[z])) (λz=>hc (by simp[z])) q);let g2:h2.get? (~~~s)=Po { cls:=.type "tuple",data:=.seq #[.int i tk,y] }:=m.extBut _ _ (L9 elt) hT;let hn:H (~~~s)=Pp:=I.hok.fresh (Lf _);show(.ref (~~~s),upd H (~~~s) (.tup [.int i,x]),I2.track (T:=(~~~s)) (o:=.tup [.int i,x]) (I.fpOk (Lf _) hn) ?_,rfl,?_,((y,O),?_),λc hc=>?_);show(by show 2<=sizeLine;decide,[.int i tk,y],.cons (tk,rfl) (.cons Z .nil),_,g2,rfl,(_,rfl),rfl);show(_,x,rfl,hn,rfl,λys M=>by rw[I.seq_inj M B];show hx);show N.1.at λo q=>m.extBut it o (Ne.symm g) q;let:c<(~~~s):=by
   rcases K9.mp hc with rfl|hc;show elt;let e':c=it:=by simpa using hc
   rw[e'];show R
  rw[ao (Lr this)];show(t c hc).1
 done:=by
  intro X C hw hK hc i pins s σ H E I t st D
  cbv;subst C hw hK;let(xs,B,hx):=D;let((old,f),st):=st;let(d,F,p):=I.seq B;let(oa,na,j,n):=p.obj;let(oi,ei,G):=st.obj;let l:a≠it:=λz=>by rw[z,ei]at j;cases j;rw[G]at n;cases n
  w_up;let hl:=-F;let ez:d.toArray.size=i:=by simp;lia
  show wpAny_pyNext_enum_endD (nX (A:=X.A.in1) b (I.ok.hd hc) it a l d.toArray) f (by rw[ez];show(st,p)) λh' S=>(rfl,?_)
  show I.turnedN (t':=s.toks) t λc o hc q=>S c o (λz=>hc (by simp[z])) q
 self:=λA i s Q E st h=>by
  let((old,f),st):=st;show wpAny_pyIter_enum f h
abbrev ql(b:Bool)(a:aG):Obj:={ cls:=.type (if b then "tuple_iterator" else "list_iterator"),data:=.fields #[.ref a,.int 0 0] }
theorem Ao{b:Bool}{h:cc}{it a:aG}(e:h.get? it=Po (ql b a)):iF b h it a 0:=by
 cases b with
 |false=>show(_,e,rfl,rfl)
 |true=>show(_,e,rfl,rfl)
theorem nB{prog:ky}{w:kD}{A:Around}{E:ba->bb->Prop}{s:bb}{b:Bool}{a:aG}{items:O8}{Q:ba->bb->Prop}(c:iE b s.heap a items)
  (d:Q (.ref s.heap.objs.size) { s with heap:=s.heap.push (ql b a) }):kn (kq prog w) A (Z4 (.ref a)) Q E s:=by
 cases b with
 |false=>show QZ c d
 |true=>show wpAny_pyIter_tuple c d
open AutoSeq1 (wpAny_loadPart') in
set_option tactic.hygienic true in
theorem xL(l:aG)(items:O8)(n:Nat)(dct:O4)(sl:ON) :
  Meets (Builtin.«enumerate.__new__» ([.type "enumerate",.ref l],[])) (λY R s=>s.heap.get? l=some { cls:=.type "tuple",dict:=dct,data:=.seq items n,slots:=sl } /\
   R (.ok (.ret (.ref (s.heap.push (ql true l)).objs.size))) { s with heap:=(s.heap.push (ql true l)).push { cls:=.type "enumerate",data:=.fields #[.none,.bool false,.ref s.heap.objs.size,Qk 0,.none,.none] } }) :=
 .of_wp λprog w A R s h=>by
  let(b,g,d,tk,os):=s;let(hl,h):=h;let a:=sub_enumerate;let hL:iE Pq (Shared.heap (b,g,d,tk,os)) l items:=(_,hl,rfl,n,rfl)
  wp_walk using wpAny_loadPart' hl
  show wpAny_stack_any λst=>kf ?_;split
  .rename_i c _ _ _ _ _;cases (c==nN "enumerate") <;> (wp_walk using wpAny_loadPart' hl,nB hL) <;> show(_,rfl,h)
  .wp_walk using wpAny_loadPart' hl,nB hL
   show(_,rfl,h)
section
variable{prog:ky}{w:kD}{A:Around}{E:ba->bb->Prop}{s:bb}
theorem xM{b:Bool}{l:aG}{items:O8}{Q:ba->bb->Prop}(hL:iE b s.heap l items)
  (h : ∀h',IsEnum h' (s.heap.objs.size+1) s.heap.objs.size 0 .none->iF b h' s.heap.objs.size l 0->h'.objs.size=s.heap.objs.size+2->(∀c o,s.heap.get? c=some o->h'.get? c=some o)->Q (.ref (s.heap.objs.size+1)) { s with heap:=h' }) :
  kn (kq prog w) A (call (.type "enumerate") [.ref l]) Q E s:=by
 cases b with
 |false=>show call_enumerate_list hL h
 |true =>
  let((c,dct,d,sl),hl,hc,n,hd):=hL;replace hc:c=.type "tuple" := hc;replace hd:d=.seq items n:=hd;subst hc hd;show callType_new F.called_enumerate (!2) (F.typeCall_enumerate_1 _) (F.newCall_enumerate_1 _) (λobj=>F.args_object_init_2 obj _) F.entry_enumerate_new (xL l items n dct sl) (hl,?_);let hz:(s.heap.push (ql Pq l)).objs.size=(~~~s)+1:=da ..;show _/\_;rw[hz];let a:IsEnum ((s.heap.push (ql Pq l)).push { cls:=.type "enumerate",data:=.fields #[.none,.bool Pr,.ref (~~~s),Qk 0,.none,.none] }) ((~~~s)+1) (~~~s) 0 .none:=by let q:=Lm (s.heap.push (ql Pq l)) (o:={ cls:=.type "enumerate",data:=.fields #[.none,.bool Pr,.ref (~~~s),Qk 0,.none,.none] }) rfl;rw[hz]at q;show q
  show((_,a,rfl),h _ a (Ao (La _ (Lm _ rfl))) (by rw[da,hz]) λc o x=>La _ (La _ x))
end
section
variable{X:Cx}
def G4(K:cp)(b:Bool)(ta:TA):TI:=λσ H R=>ta σ H λvs H1=>∃a xs,vs=[.ref a]/\SqB K H1 b a xs/\R (Ite K b a) H1
theorem Df(b:Bool){es:Pj}{m:Nat}{f:Pos}{a:bi}{ta:TA}{p pos:Pos}(n:Gl X "enumerate")(o:X.mg "enumerate" = none)(g:Ql "enumerate" = some (.type "enumerate"))(r:PA X [a] ta)(hs:kh [a] X.env=[(false,eval a X.env)]⊕'Pt) :
  PI X (.Tuple es m f) (.Call (.Name "enumerate" p) [a] [] pos) (G4 X.K b ta):=by
 intro pins s σ H R I h;show Call_ (ie I n o g (lA (thn (r pos pins s σ H _ I h) λus s1 i=>?_) hs rfl))
 cbv;let(vs,H1,d,t,q1):=i;let(l,xs,rfl,v,q):=q1;let(u,rfl,w):=jG t
 w_up;cases (show u=di l from w);let(x,z,hL):=d.seq v;show xM hL λh' k j hz hk=>wpAny_pyIter_enum k ?_;let y:Inv X pins σ H1 { s1 with heap:=h' }:=d.kept (t':=s1.toks) hk;show((~~~s1)+1,[(~~~s1)+1,(~~~s1)],_,_,H1,rfl,y,vd b l (~~~s1) ((~~~s1)+1) (L9 (LR _)),((_,k),j),λc hc=>?_,q);rcases K9.mp hc with rfl|hc;show d.fpOk (L3 _) (d.hok.fresh (L3 _));let e:c=(~~~s1):=by simpa using hc
 rw[e];show d.fpOk (Lf _) (d.hok.fresh (Lf _))
end
def SnL(K:cp)(N:aG->Prop)(H:Hp)(a:aG)(xs:Pl):Prop :=
 (Rd H a (.lst xs)/\¬N a)\/∃(o:Obj) (b:O8) (n:Nat),K.lookup a=Po o/\o.cls=.type "list" /\ o.dict=Pp/\o.data=.seq b n/\b.size<=sizeLine/\aU xs b.toList
def SnT(K:cp)(N:aG->Prop)(H:Hp)(a:aG)(xs:Pl):Prop :=
 (Rd H a (.tup xs)/\¬N a)\/∃(o:Obj) (b:O8) (n:Nat),K.lookup a=Po o/\(o.cls=.type "tuple" /\ o.dict=Pp)/\o.data=.seq b n/\b.size<=sizeLine/\aU xs b.toList
def aM(N:aG->Prop)(H H':Hp):Prop:=∀b o,¬N b->H b=Po o->H' b=Po o
theorem aM.refl{N:aG->Prop}{H:Hp}:aM N H H:=λY Y Y e=>e
theorem aM.trans{N:aG->Prop}{H H1 H2:Hp}(a:aM N H H1)(b:aM N H1 H2):aM N H H2:=λc o n e=>b c o n (a c o n e)
theorem aM.own{N:aG->Prop}{H:Hp}{p:aG}{o:HO}(h:N p):aM N H (upd H p o):=λb u n e=>by
 let q:b≠p:=λz=>n (by rw[z];show h);rw[ao q];show e
theorem aM.mono{N M:aG->Prop}{H H':Hp}(a:aM N H H')(h:∀b,N b->M b):aM M H H':=λb o n e=>a b o (λz=>n (h b z)) e
theorem aM.same{N:aG->Prop}{H H':Hp}(a:aA H H'):aM N H H':=λb o Y e=>a b o e
abbrev N0:aG->Prop:=λY=>False
abbrev N1(d:aG):aG->Prop:=λb=>b=d
theorem aM.none{H H':Hp}(a:aM N0 H H'):aA H H':=λb o e=>a b o (λz=>z) e
section
variable{K:cp}{N M:aG->Prop}{H H':Hp}{a:aG}{xs:Pl}
theorem SnL.of(h:H a=Po (.lst xs))(n:¬N a):SnL K N H a xs:=.inl (.inl h,n)
theorem SnT.of(h:H a=Po (.tup xs))(n:¬N a):SnT K N H a xs:=.inl (.inl h,n)
theorem SnL.sq(h:SnL K N H a xs):SqL K H a xs:=by rcases h with⟨h,_⟩|h;show .inl h;show .inr h
theorem SnT.sq(h:SnT K N H a xs):SqT K H a xs:=by rcases h with⟨h,_⟩|h;show .inl h;show .inr h
theorem SnL.keep(h:SnL K N H a xs)(k:aM N H H'):SnL K N H' a xs:=by rcases h with⟨h|⟨o,h⟩,n⟩|h;show .inl (.inl (k _ _ n h),n);show .inl (.inr (o,k _ _ n h),n);show .inr h
theorem SnT.keep(h:SnT K N H a xs)(k:aM N H H'):SnT K N H' a xs:=by rcases h with⟨h|⟨o,h⟩,n⟩|h;show .inl (.inl (k _ _ n h),n);show .inl (.inr (o,k _ _ n h),n);show .inr h
theorem SnL.to(h:SnL K N H a xs)(m:∀b o,H b=Po o->M b->N b):SnL K M H a xs:=by rcases h with⟨h|⟨o,h⟩,n⟩|h;show .inl (.inl h,λz=>n (m _ _ h z));show .inl (.inr (o,h),λz=>n (m _ _ h z));show .inr h
theorem SnT.to(h:SnT K N H a xs)(m:∀b o,H b=Po o->M b->N b):SnT K M H a xs:=by rcases h with⟨h|⟨o,h⟩,n⟩|h;show .inl (.inl h,λz=>n (m _ _ h z));show .inl (.inr (o,h),λz=>n (m _ _ h z));show .inr h
end
mutual
inductive DN (K:cp) (N:aG->Prop) (H:Hp):V->av->Prop
 |non:DN K N H .non .none
 |bl (b:Bool):DN K N H (.bl b) (.bool b)
 |int (i:Int):DN K N H (.int i) (.int i)
 |str (x:ck):DN K N H (.str x) (.str x)
 |lst {a:aG}{xs:Pl}{ds:Pe}:SnL K N H a xs->DNs K N H xs ds->DN K N H (.ref a) (.list ds)
 |tup {a:aG}{xs:Pl}{ds:Pe}:SnT K N H a xs->DNs K N H xs ds->DN K N H (.ref a) (.tuple ds)
 |exc {a C:aG}{dx:O4}{n:Int}:¬N a->H a=some (.ext (fC a C dx))->DN K N H (.ref a) (jq C n)
 |dct {a:aG}{es:OS}{kvs:OX}:¬N a->H a=some (.ext (cu a es))->DNs K N H (es.map λp=>V.ref p.2.1) (kvs.map λp=>dZ p.1)->DNs K N H (es.map λp=>p.2.2) (kvs.map λp=>p.2)->es.map (λp=>p.1)=kvs.map (λp=>p.1)->DN K N H (.ref a) (fQ kvs)
 |idc {a:aG}{es:O1}{kvs:OW}:¬N a->H a=some (dkO es)->es.map (·.1)=kvs.map (·.1)->DNs K N H (es.map (·.2)) (kvs.map (·.2))->DN K N H (.ref a) (cR kvs)
 |dsk {a b C dx:aG}{es:O1}{kvs:OW}:¬N a->¬N b->H a=some (.ins C dx [("towns",.ref b)])->H b=some (dkO es)->es.map (·.1)=kvs.map (·.1)->DNs K N H (es.map (·.2)) (kvs.map (·.2))->DN K N H (.ref a) (bU C kvs)
 |fz {v:V}{ds:Pe}:DN K N H v (.list ds)->DN K N H v (fzD ds)
inductive DNs (K:cp) (N:aG->Prop) (H:Hp):Pl->Pe->Prop
 |nil:DNs K N H [] []
 |cons {x:V}{xs:Pl}{d:av}{ds:Pe}:DN K N H x d->DNs K N H xs ds->DNs K N H (x::xs) (d::ds)
end
section
variable{K:cp}{N M:aG->Prop}{H H':Hp}
theorem DN.dv{v:V}{d:av}(h:DN K N H v d):DV K H v d :=
  DN.rec (motive_1:=λv d Y=>DV K H v d) (motive_2:=λv d Y=>DVs K H v d)
  .non (λb=>.bl b) (λi=>.int i)
   (λx=>.str x)
  (λh Y q=>.lst h.sq q) (λh Y q=>.tup h.sq q)
   (λY h=>.exc h)
  (λY h Y Y e q r=>.dct h q r e) (λY h e Y q=>.idc h e q) (λY Y h g e Y q=>.dsk h g e q) (λY h=>.fz h) .nil (λY Y h q=>.cons h q) h
theorem DNs.dv{v:Pl}{d:Pe}(h:DNs K N H v d):DVs K H v d :=
  DNs.rec (motive_1:=λv d Y=>DV K H v d) (motive_2:=λv d Y=>DVs K H v d)
  .non (λb=>.bl b) (λi=>.int i)
   (λx=>.str x)
  (λh Y q=>.lst h.sq q) (λh Y q=>.tup h.sq q)
   (λY h=>.exc h)
  (λY h Y Y e q r=>.dct h q r e) (λY h e Y q=>.idc h e q) (λY Y h g e Y q=>.dsk h g e q) (λY h=>.fz h) .nil (λY Y h q=>.cons h q) h
theorem DN.keep(k:aM N H H'){v:V}{d:av}(h:DN K N H v d):DN K N H' v d :=
  DN.rec (motive_1:=λv d Y=>DN K N H' v d) (motive_2:=λv d Y=>DNs K N H' v d)
  .non (λb=>.bl b) (λi=>.int i)
   (λx=>.str x)
  (λh Y q=>.lst (h.keep k) q) (λh Y q=>.tup (h.keep k) q)
   (λa h=>.exc a (k _ _ a h))
  (λn h Y Y e q r=>.dct n (k _ _ n h) q r e) (λn h e Y q=>.idc n (k _ _ n h) e q) (λn c h g e Y q=>.dsk n c (k _ _ n h) (k _ _ c g) e q) (λY h=>.fz h) .nil (λY Y h q=>.cons h q) h
theorem DNs.keep(k:aM N H H'){v:Pl}{d:Pe}(h:DNs K N H v d):DNs K N H' v d :=
  DNs.rec (motive_1:=λv d Y=>DN K N H' v d) (motive_2:=λv d Y=>DNs K N H' v d)
  .non (λb=>.bl b) (λi=>.int i)
   (λx=>.str x)
  (λh Y q=>.lst (h.keep k) q) (λh Y q=>.tup (h.keep k) q)
   (λa h=>.exc a (k _ _ a h))
  (λn h Y Y e q r=>.dct n (k _ _ n h) q r e) (λn h e Y q=>.idc n (k _ _ n h) e q) (λn c h g e Y q=>.dsk n c (k _ _ n h) (k _ _ c g) e q) (λY h=>.fz h) .nil (λY Y h q=>.cons h q) h
theorem DN.to(m:∀b o,H b=Po o->M b->N b){v:V}{d:av}(h:DN K N H v d):DN K M H v d :=
  DN.rec (motive_1:=λv d Y=>DN K M H v d) (motive_2:=λv d Y=>DNs K M H v d)
  .non (λb=>.bl b) (λi=>.int i)
   (λx=>.str x)
  (λh Y q=>.lst (h.to m) q) (λh Y q=>.tup (h.to m) q)
   (λa h=>.exc (λz=>a (m _ _ h z)) h)
  (λn h Y Y e q r=>.dct (λz=>n (m _ _ h z)) h q r e) (λn h e Y q=>.idc (λz=>n (m _ _ h z)) h e q) (λn c h g e Y q=>.dsk (λz=>n (m _ _ h z)) (λz=>c (m _ _ g z)) h g e q) (λY h=>.fz h) .nil (λY Y h q=>.cons h q) h
theorem DNs.to(m:∀b o,H b=Po o->M b->N b){v:Pl}{d:Pe}(h:DNs K N H v d):DNs K M H v d :=
  DNs.rec (motive_1:=λv d Y=>DN K M H v d) (motive_2:=λv d Y=>DNs K M H v d)
  .non (λb=>.bl b) (λi=>.int i)
   (λx=>.str x)
  (λh Y q=>.lst (h.to m) q) (λh Y q=>.tup (h.to m) q)
   (λa h=>.exc (λz=>a (m _ _ h z)) h)
  (λn h Y Y e q r=>.dct (λz=>n (m _ _ h z)) h q r e) (λn h e Y q=>.idc (λz=>n (m _ _ h z)) h e q) (λn c h g e Y q=>.dsk (λz=>n (m _ _ h z)) (λz=>c (m _ _ g z)) h g e q) (λY h=>.fz h) .nil (λY Y h q=>.cons h q) h
theorem DNs.ind{C:Pl->Pe->Prop}(n:C [] [])(c:∀{x:V}{xs:Pl}{d:av}{ds:Pe},DN K N H x d->DNs K N H xs ds->C xs ds->C (x::xs) (d::ds)){v:Pl}{d:Pe}(h:DNs K N H v d):C v d :=
  DNs.rec (motive_1:=λY Y Y=>True) (motive_2:=λv d Y=>C v d) trivial (λY=>trivial) (λY=>trivial)
   (λY=>trivial)
  (λY Y Y=>trivial) (λY Y Y=>trivial)
   (λY Y=>trivial)
  (λY Y Y Y Y Y Y=>trivial) (λY Y Y Y Y=>trivial) (λY Y Y Y Y Y Y=>trivial) (λY Y=>trivial) n (λh q Y i=>c h q i) h
theorem DNs.len{v:Pl}{d:Pe}(h:DNs K N H v d):-v=-d:=DNs.ind (C:=λv d=>-v=-d) rfl (λY Y i=>by rw[Lu,Lu,i]) h
theorem DNs.get:∀{v:Pl}{d:Pe}{i:Nat}{x:V},DNs K N H v d->v[i]?=Po x->∃e,d[i]?=Po e/\DN K N H x e
 |_,_,_,_,.nil,e=>by simp at e
 |_,_,0,_,.cons h _,e=>by simp at e;subst e;show(_,rfl,h)
 |_,_,i+1,_,.cons _ q,e=>by
  let(d,h1,h2):=DNs.get (i:=i) q (by simpa using e);show(d,by simpa using h1,h2)
theorem DNs.app{v w:Pl}{d e:Pe}(h:DNs K N H v d)(q:DNs K N H w e):DNs K N H (v++w) (d++e):=DNs.ind (C:=λv d=>DNs K N H (v++w) (d++e)) q (λh Y i=>.cons h i) h
abbrev pI(ns:O7):av:=.list (ns.map .int)
theorem l5:∀ns:O7,DNs K N H (ns.map V.int) (ns.map .int)
 |[]=>.nil
 |n::r=>.cons (.int n) (l5 r)
theorem DNs.ints:∀{ns:O7}{v:Pl},DNs K N H v (ns.map .int)->v=ns.map V.int
 |[],_,.nil=>rfl
 |n::r,_,.cons h q=>by
  cases h;rw[q.ints];rfl
theorem DN.ofI{a:aG}{ns:O7}(h:SnL K N H a (ns.map V.int)):DN K N H (.ref a) (pI ns):=.lst h (l5 ns)
theorem DN.list{v:V}{ds:Pe}(h:DN K N H v (.list ds)):∃a xs,v=.ref a/\SnL K N H a xs/\DNs K N H xs ds:=by cases h with|lst h q=>show(_,_,rfl,h,q)
theorem DN.tuple{v:V}{ds:Pe}(h:DN K N H v (.tuple ds)):∃a xs,v=.ref a/\SnT K N H a xs/\DNs K N H xs ds:=by cases h with|tup h q=>show(_,_,rfl,h,q)
theorem DN.int'{v:V}{i:Int}(h:DN K N H v (.int i)):v=.int i:=by cases h;rfl
theorem DN.of2{a:aG}{x y:V}{d e:av}(s:SnT K N H a [x,y])(h1:DN K N H x d)(h2:DN K N H y e):DN K N H (.ref a) (.tuple [d,e]):=.tup s (.cons h1 (.cons h2 .nil))
end
theorem jr:∀a b:O7,ny (a.map .int) (b.map .int)=decide (a=b)
 |[],[]=>by simp[ny]
 |[],_::_=>by simp[ny]
 |_::_,[]=>by simp[ny]
 |x::a,y::b=>by
  rw[Le,Le,ny,jr a b];simp only[fI];by_cases h:x=y <;> by_cases h':a=b <;> simp[h,h']
theorem Hi(a b:O7):fI (pI a) (pI b)=decide (a=b):=by show ny _ _=_;show jr a b
theorem lU(a:O7):lc (a.map .int)=Pq:=PySem.W.ke_canLayAll0 a
theorem AF(a:O7):MK (a.map .int)=0:=PySem.W.ke_depthAll a
theorem Ir(a:O7):shp (pI a):=by simp[shp,pB,eN,su,lU,AF]
def Cal(P:ky)(w:kD)(K:cp)(mg:ck->O3)(base:cc)(x:ck)(k:Nat)(sp:Sp):Prop :=
 ∃(f:aG) (fd:kx) (ps:Pi),aY P w K mg base CX0 k f fd ps sp/\bE K fd ps []/\eE K (.ref f)=Pq/\mg x=Po (.ref f)
theorem Cal.mono{P:ky}{w:kD}{K:cp}{mg:ck->O3}{base:cc}{x:ck}{j k:Nat}{sp:Sp}(C:Cal P w K mg base x j sp)(h:j<=k):Cal P w K mg base x k sp:=by let(f,fd,ps,F,b,kp,m):=C;show(f,fd,ps,F.mono h,b,kp,m)
section
variable{X:Cx}{x:ck}{p pos:Pos}{e:bi}{es:Pj}{t:TA}{k:Nat}{sp:Sp}
theorem dj(C:Cal X.prog X.w X.K X.mg X.base x k sp)(c:bW k X.A)(d:Gl X x)(g:PA X (e::es) t)(hd:(x==("__debug__" : ck))=false⊕'Pu)
  (h:kh (e::es) X.env=(false,eval e X.env)::kh es X.env⊕'Pt) (a:(qr pos (kh es X.env)).any (·.1)=false⊕'Pt):PE X (.Call (.Name x p) (e::es) [] pos) (jH sp [] E0 t):=by let(f,fd,ps,F,b,kp,m):=C;show pM F c d m kp b .nil ja g hd h a
end
noncomputable def bOk(N:Pi)(sc0:Qc)(N':Pi)(ix:OM)(sc:Qc):Bool :=
 decide (sc.kind=.function)&&decide ((sc.names.map (·.1)).Nodup)&&sc.names.all (λy=>!(y.2==.free) ||decide (sc0.names.lookup y.1=Po .cell) ||decide (sc0.names.lookup y.1=Po .free))&&decide (-ix=-N') &&
 (ix.zip N').all λq=>match q.1 with
  |none=>Pq
  |some j=>decide (N[j]?=Po q.2)&&decide (sc.names.lookup q.2=Po .free)
theorem oH{X:Cx}{N N':Pi}{ix:OM}{sc sc0:Qc}(hN:X.N=N)(h0:X.env.scope=sc0)(h:bOk N sc0 N' ix sc=Pq):bX X.N X.env N' ix sc:=by
 rw[<-hN]at h;unfold bOk at h;simp only[LX,decide_eq_true_eq]at h;let((((h1,h2),c),d),f):=h;show(h1,h2,λy g k=>?_,d,λi j a=>?_);let q:=LN.mp c y g;rw[k]at q;let e:∀z,X.env.kindOf z=sc0.names.lookup z:=λz=>by
  show X.env.scope.names.lookup z=_;rw[h0]
 rw[e];simpa using q;let hi:i< -ix:=(Lc.mp a).1;let b:i< -N':=!0
 let l:(Po j,N'[i])∈ix.zip N':=by rw[Nu];show(i,?_);rw[M9];show(a,K8 b)
 let q:=LN.mp f _ l;simp only[LX,decide_eq_true_eq]at q;show(N'[i],K8 b,q.1,q.2)
structure Bn(mg:ck->O3):Prop where
 len:mg "len" = none
 range:mg "range" = none
 min:mg "min" = none
 max:mg "max" = none
 enumerate:mg "enumerate" = none
 zip:mg "zip" = none
 all:mg "all" = none
 any:mg "any" = none
 isinstance:mg "isinstance" = none
 bool:mg "bool" = none
 int:mg "int" = none
 list:mg "list" = none
 tuple:mg "tuple" = none
 sorted:mg "sorted" = none
 str:mg "str" = none
 sum:mg "sum" = none
 abs:mg "abs" = none
 reversed:mg "reversed" = none
 dict:mg "dict" = none
theorem aA.new{H:Hp}{p:aG}{o:HO}(h:H p=Pp):aA H (upd H p o):=λb u e=>by rw[ao (ay e h)];show e
theorem Cal.mk{P:ky}{w:kD}{K:cp}{mg:ck->O3}{base:cc}{x:ck}{st:Stmt}{f:aG}{fd:kx}{k:Nat}{ps:Pi}{sp:Sp}(F:Fun K x x st f fd)(m:mg x=Po (.ref f))(b:bE K fd ps [])
  (G : aY P w K mg base CX0 k f fd ps sp):Cal P w K mg base x k sp:=(f,fd,ps,G,b,F.kp,m)
theorem ar:1000000<=sizeLine:=!2
section
variable{X:Cx}{K:cp}(hK:X.K=K)
include hK
theorem KF:fU X (.builtin "len") (λxs H Q=>∃p ys,xs=[.ref p]/\(SqL K H p ys\/SqT K H p ys)/\Q (.int (-ys)) H):=by subst hK;show oC
theorem KG:IxR X (IA K):=by subst hK;show xq
theorem Jd:SlR X (J5 K):=by subst hK;show Cv
theorem Bz(a:X.A.units+64<Qj):OpR X (q5 .Eq) (IF K):=by subst hK;show Gx a
theorem Je(a:X.A.units+64<Qj):OpR X (q5 .NotEq) (FL K):=by subst hK;show Gw a
theorem kIn:OpR X (q5 .In) (rIn K Pr):=by subst hK;show wM
theorem Jf:fU X (.type "list") (λxs H Q=>∃p ys,xs=[.ref p]/\(SqL K H p ys\/SqT K H p ys)/\∀l,H l=Pp->Q (.ref l) (upd H l (.lst ys))):=by subst hK;show oB
theorem GS:fU X (.type "tuple") (λxs H Q=>∃p ys,xs=[.ref p]/\((SqL K H p ys/\∀l,H l=Pp->Q (.ref l) (upd H l (.tup ys)))\/(SqT K H p ys/\Q (.ref p) H))):=by subst hK;show mh
variable{tg:bi}
theorem GM{l:bi}{tl:TE}(hl:PE X l tl):PI X tg l (D5 K tl):=by subst hK;show gM hl
theorem GN(b:Bool){es:Pj}{d:Nat}{c:Pos}{a:bi}{ta:TA}{p pos:Pos}(e:Gl X "enumerate")(f:X.mg "enumerate" = none)(g:PA X [a] ta)(hs:kh [a] X.env=[(false,eval a X.env)]⊕'Pt) :
  PI X (.Tuple es d c) (.Call (.Name "enumerate" p) [a] [] pos) (G4 K b ta):=by subst hK;show Df b e f PyProof.Rows.boot_enumerate g hs
theorem Jc{pos:Pos}{es:Pj}{k:Nat}{t:TGs}{n:Nat}(hc:X.calm=true)(h:PGs X es t)(hn:(Qg es X.env).length=n⊕'Pt)(a:(Qg es X.env).findIdx? (·.1)=none⊕'Pt):PG X (.Tuple es k pos) (Kd K n t):=by subst hK;show Gn hc h hn a
theorem By{a:bi}{ta:TE}(c:PE X a ta)(d:∀b,Zg a X.env b=(do let v <-b;Qn a.pos;Qf [v] (ZM v))):PT X a (λσ H Q=>ta σ H λx H'=>∃k,H9 K x H' k/\Q k H'):=by subst hK;show zj c d
variable{o e:bi}{es:Pj}{to:TE}{t:TA}{name:ck}{apos cpos:Pos}{T id:String}{r:V->Pl->Hp->VK->Prop}
theorem Jh(d:ZQ T)(slot:Slot T name id)(c:Zz (.builtin id)=pure (.type "method_descriptor"))(e:MtR X id r)(ho:PE X o to)
  (a:zp o name X.env (eval o X.env)=eval o X.env⊕'Pt) (b:(apos.endLine==cpos.line)=true⊕'Pt):PE X (.Call (.Attribute o name apos) [] [] cpos) (Ip K T r to):=by subst hK;show Gu d slot c e ho a b
theorem kBm(g:ZQ T)(slot:Slot T name id)(f:Zz (.builtin id)=pure (.type "method_descriptor"))(h:MtR X id r)(ho:PE X o to)(i:PA X (e::es) t)
  (b:zp o name X.env (eval o X.env)=eval o X.env⊕'Pt)
  (d:((qr cpos (kh (e::es) X.env)).all (λx=>!x.1)&&(Qq cpos (zz [] X.env)).all (λx=>x.1.isSome)&&decide ((e::es).length+([]:Pk).length+(if ([]:Pk).isEmpty then 0 else 1)<30))=true⊕'Pt)
  (c:(apos.endLine==cpos.line)=true⊕'Pt) (hs:kh (e::es) X.env=(false,eval e X.env)::kh es X.env⊕'Pt) (a:(qr cpos (kh es X.env)).any (·.1)=false⊕'Pt) :
  PE X (.Call (.Attribute o name apos) (e::es) [] cpos) (tBM K T r to t):=by subst hK;show zu g slot f h ho i b d c hs a
end
theorem DZ{n j:Nat}(h:j<n):ixN n (j:Int)=Po j:=by unfold ixN;rw[OG (!0),OG (!0),Mo]
def Kr(t u:TS):TS:=λD σ H=>∃R:St->Hp->Prop,t { D with nx:=R } σ H/\∀σ' H',R σ' H'->u D σ' H'
theorem C5{X:Cx}{st:Stmt}{rest:O6}{t u:TS}(h1:PS X st t)(h2:PSs X rest u):PSs X (st::rest) (Kr t u):=by
 intro pins s σ H D I h;let(R,h,a):=h;show Q6 (thn (h1 pins s σ H { D with nx:=R } I h) λf s1 q=>?_);cases f with
 |next =>
  let(σ',H',b,q):=q;show h2 pins s1 σ' H' D b (a _ _ q)
 |ret v=>show q
 |brk=>show q
 |cont=>show q
theorem aM.put{N:aG->Prop}{H H':Hp}{p:aG}{o:HO}(k:aM N H H')(h:H p=Nk):aM N H (upd H' p o):=λb u n e=>by
 rw[ao (ay e h)];show k b u n e
theorem DN.sqL{K:cp}{H:Hp}{a:aG}{ns:O7}(h:SqL K H a (ns.map V.int)):DN K N0 H (.ref a) (pI ns):=DN.ofI (by
 rcases h with h|h;show .inl (h,λz=>z);show .inr h)
mutual
inductive OT (K:cp) (N:aG->Prop) (H:Hp):V->av->Pg->Prop
 |non:OT K N H .non .none []
 |bl (b:Bool):OT K N H (.bl b) (.bool b) []
 |int (i:Int):OT K N H (.int i) (.int i) []
 |str (x:ck):OT K N H (.str x) (.str x) []
 |lst {a:aG}{xs:Pl}{ds:Pe}{S:Pg}:H a=some (.lst xs)->OTs K N H xs ds S->OT K N H (.ref a) (.list ds) (a::S)
 |tup {a:aG}{xs:Pl}{ds:Pe}{S:Pg}:SnT K N H a xs->OTs K N H xs ds S->OT K N H (.ref a) (.tuple ds) S
 |dct {a:aG}{es:OS}{kvs:OX}:H a=some (.ext (cu a es))->DNs K N H (es.map λp=>V.ref p.2.1) (kvs.map λp=>dZ p.1)->DNs K N H (es.map λp=>p.2.2) (kvs.map λp=>p.2)->es.map (λp=>p.1)=kvs.map (λp=>p.1)->OT K N H (.ref a) (fQ kvs) [a]
 |idc {a:aG}{es:O1}{kvs:OW}{S:Pg}:H a=some (dkO es)->es.map (·.1)=kvs.map (·.1)->OTs K N H (es.map (·.2)) (kvs.map (·.2)) S->OT K N H (.ref a) (cR kvs) (a::S)
 |dsk {a b C dx:aG}{es:O1}{kvs:OW}{S:Pg}:H a=some (.ins C dx [("towns",.ref b)])->H b=some (dkO es)->es.map (·.1)=kvs.map (·.1)->OTs K N H (es.map (·.2)) (kvs.map (·.2)) S->OT K N H (.ref a) (bU C kvs) (a::b::S)
 |fz {v:V}{ds:Pe}:DN K N H v (.list ds)->OT K N H v (fzD ds) []
inductive OTs (K:cp) (N:aG->Prop) (H:Hp):Pl->Pe->Pg->Prop
 |nil:OTs K N H [] [] []
 |cons {x:V}{xs:Pl}{d:av}{ds:Pe}{S S':Pg}:OT K N H x d S->OTs K N H xs ds S'->OTs K N H (x::xs) (d::ds) (S++S')
end
section
variable{K:cp}{N M:aG->Prop}{H H':Hp}
mutual
theorem OT.dv:∀{v:V}{d:av}{S:Pg},OT K N H v d S->DV K H v d
 |_,_,_,.non=>.non
 |_,_,_,.bl b=>.bl b
 |_,_,_,.int i=>.int i
 |_,_,_,.str x=>.str x
 |_,_,_,.lst h q=>.lst (SqL.of h) q.dv
 |_,_,_,.tup h q=>.tup h.sq q.dv
 |_,_,_,.dct h q r e=>.dct h q.dv r.dv e
 |_,_,_,.idc h e q=>.idc h e q.dv
 |_,_,_,.dsk h g e q=>.dsk h g e q.dv
 |_,_,_,.fz h=>.fz h.dv
theorem OTs.dv:∀{v:Pl}{d:Pe}{S:Pg},OTs K N H v d S->DVs K H v d
 |_,_,_,.nil=>.nil
 |_,_,_,.cons h q=>.cons h.dv q.dv
end
theorem OT.keep(k:aM N H H'){v:V}{d:av}{S:Pg}(h:OT K N H v d S):(∀a∈S,H' a=H a)->OT K N H' v d S :=
  OT.rec (motive_1:=λv d S Y=>(∀a∈S,H' a=H a)->OT K N H' v d S) (motive_2:=λv d S Y=>(∀a∈S,H' a=H a)->OTs K N H' v d S)
  (λY=>.non) (λb Y=>.bl b) (λi Y=>.int i)
   (λx Y=>.str x)
  (λh Y q s=>.lst ((s _ K3).trans h) (q λa c=>s a (K5 _ c))) (λh Y q s=>.tup (h.keep k) (q s))
  (λh q r e s=>.dct ((s _ K3).trans h) (q.keep k) (r.keep k) e) (λh e Y q s=>.idc ((s _ K3).trans h) e (q λa c=>s a (K5 _ c)))
  (λh g e Y q s=>.dsk ((s _ K3).trans h) ((s _ (K5 _ K3)).trans g) e (q λa c=>s a (K5 _ (K5 _ c)))) (λh s=>.fz (h.keep k)) (λY=>.nil) (λY Y h q s=>.cons (h λa c=>s a (K1 _ c)) (q λa c=>s a (K0 _ c))) h
theorem OTs.keep(k:aM N H H'){v:Pl}{d:Pe}{S:Pg}(h:OTs K N H v d S):(∀a∈S,H' a=H a)->OTs K N H' v d S :=
  OTs.rec (motive_1:=λv d S Y=>(∀a∈S,H' a=H a)->OT K N H' v d S) (motive_2:=λv d S Y=>(∀a∈S,H' a=H a)->OTs K N H' v d S)
  (λY=>.non) (λb Y=>.bl b) (λi Y=>.int i)
   (λx Y=>.str x)
  (λh Y q s=>.lst ((s _ K3).trans h) (q λa c=>s a (K5 _ c))) (λh Y q s=>.tup (h.keep k) (q s))
  (λh q r e s=>.dct ((s _ K3).trans h) (q.keep k) (r.keep k) e) (λh e Y q s=>.idc ((s _ K3).trans h) e (q λa c=>s a (K5 _ c)))
  (λh g e Y q s=>.dsk ((s _ K3).trans h) ((s _ (K5 _ K3)).trans g) e (q λa c=>s a (K5 _ (K5 _ c)))) (λh s=>.fz (h.keep k)) (λY=>.nil) (λY Y h q s=>.cons (h λa c=>s a (K1 _ c)) (q λa c=>s a (K0 _ c))) h
theorem OT.to(m:∀b o,H b=Po o->M b->N b){v:V}{d:av}{S:Pg}(h:OT K N H v d S):OT K M H v d S :=
  OT.rec (motive_1:=λv d S Y=>OT K M H v d S) (motive_2:=λv d S Y=>OTs K M H v d S)
  .non (λb=>.bl b) (λi=>.int i)
   (λx=>.str x)
  (λh Y q=>.lst h q) (λh Y q=>.tup (h.to m) q)
  (λh q r e=>.dct h (q.to m) (r.to m) e) (λh e Y q=>.idc h e q) (λh g e Y q=>.dsk h g e q) (λh=>.fz (h.to m)) .nil (λY Y h q=>.cons h q) h
theorem OTs.to(m:∀b o,H b=Po o->M b->N b){v:Pl}{d:Pe}{S:Pg}(h:OTs K N H v d S):OTs K M H v d S :=
  OTs.rec (motive_1:=λv d S Y=>OT K M H v d S) (motive_2:=λv d S Y=>OTs K M H v d S)
  .non (λb=>.bl b) (λi=>.int i)
   (λx=>.str x)
  (λh Y q=>.lst h q) (λh Y q=>.tup (h.to m) q)
  (λh q r e=>.dct h (q.to m) (r.to m) e) (λh e Y q=>.idc h e q) (λh g e Y q=>.dsk h g e q) (λh=>.fz (h.to m)) .nil (λY Y h q=>.cons h q) h
theorem OT.lives{v:V}{d:av}{S:Pg}(h:OT K N H v d S):∀a∈S,∃o,H a=Po o :=
  OT.rec (motive_1:=λv d S Y=>∀a∈S,∃o,H a=Po o) (motive_2:=λv d S Y=>∀a∈S,∃o,H a=Po o)
  (λY h=>nomatch h) (λY Y h=>nomatch h) (λY Y h=>nomatch h)
   (λY Y h=>nomatch h)
  (λh Y q a b=>(K9.mp b).elim (λe=>(_,e▸h)) (q a)) (λY Y q=>q)
  (λh Y Y Y a b=>(_,(K7.mp b)▸h)) (λh Y Y q a b=>(K9.mp b).elim (λe=>(_,e▸h)) (q a))
  (λh g Y Y q a b=>(K9.mp b).elim (λe=>(_,e▸h)) λb=>(K9.mp b).elim (λe=>(_,e▸g)) (q a)) (λY Y h=>nomatch h) (λY h=>nomatch h) (λY Y h q a b=>(K2.mp b).elim (h a) (q a)) h
theorem OTs.lives{v:Pl}{d:Pe}{S:Pg}(h:OTs K N H v d S):∀a∈S,∃o,H a=Po o :=
  OTs.rec (motive_1:=λv d S Y=>∀a∈S,∃o,H a=Po o) (motive_2:=λv d S Y=>∀a∈S,∃o,H a=Po o)
  (λY h=>nomatch h) (λY Y h=>nomatch h) (λY Y h=>nomatch h)
   (λY Y h=>nomatch h)
  (λh Y q a b=>(K9.mp b).elim (λe=>(_,e▸h)) (q a)) (λY Y q=>q)
  (λh Y Y Y a b=>(_,(K7.mp b)▸h)) (λh Y Y q a b=>(K9.mp b).elim (λe=>(_,e▸h)) (q a))
  (λh g Y Y q a b=>(K9.mp b).elim (λe=>(_,e▸h)) λb=>(K9.mp b).elim (λe=>(_,e▸g)) (q a)) (λY Y h=>nomatch h) (λY h=>nomatch h) (λY Y h q a b=>(K2.mp b).elim (h a) (q a)) h
theorem OT.dn(n:∀b,M b->N b){v:V}{d:av}{S:Pg}(h:OT K N H v d S):(∀a∈S,¬M a)->DN K M H v d :=
  OT.rec (motive_1:=λv d S Y=>(∀a∈S,¬M a)->DN K M H v d) (motive_2:=λv d S Y=>(∀a∈S,¬M a)->DNs K M H v d)
  (λY=>.non) (λb Y=>.bl b) (λi Y=>.int i)
   (λx Y=>.str x)
  (λh Y q s=>.lst (SnL.of h (s _ K3)) (q λa c=>s a (K5 _ c))) (λh Y q s=>.tup (h.to λb Y Y z=>n b z) (q s))
  (λh q r e s=>.dct (s _ K3) h (q.to λb Y Y z=>n b z) (r.to λb Y Y z=>n b z) e) (λh e Y q s=>.idc (s _ K3) h e (q λa c=>s a (K5 _ c)))
  (λh g e Y q s=>.dsk (s _ K3) (s _ (K5 _ K3)) h g e (q λa c=>s a (K5 _ (K5 _ c)))) (λh Y=>.fz (h.to λb Y Y z=>n b z)) (λY=>.nil) (λY Y h q s=>.cons (h λa c=>s a (K1 _ c)) (q λa c=>s a (K0 _ c))) h
theorem OTs.dn(n:∀b,M b->N b){v:Pl}{d:Pe}{S:Pg}(h:OTs K N H v d S):(∀a∈S,¬M a)->DNs K M H v d :=
  OTs.rec (motive_1:=λv d S Y=>(∀a∈S,¬M a)->DN K M H v d) (motive_2:=λv d S Y=>(∀a∈S,¬M a)->DNs K M H v d)
  (λY=>.non) (λb Y=>.bl b) (λi Y=>.int i)
   (λx Y=>.str x)
  (λh Y q s=>.lst (SnL.of h (s _ K3)) (q λa c=>s a (K5 _ c))) (λh Y q s=>.tup (h.to λb Y Y z=>n b z) (q s))
  (λh q r e s=>.dct (s _ K3) h (q.to λb Y Y z=>n b z) (r.to λb Y Y z=>n b z) e) (λh e Y q s=>.idc (s _ K3) h e (q λa c=>s a (K5 _ c)))
  (λh g e Y q s=>.dsk (s _ K3) (s _ (K5 _ K3)) h g e (q λa c=>s a (K5 _ (K5 _ c)))) (λh Y=>.fz (h.to λb Y Y z=>n b z)) (λY=>.nil) (λY Y h q s=>.cons (h λa c=>s a (K1 _ c)) (q λa c=>s a (K0 _ c))) h
theorem OTs.ind{C:Pl->Pe->Pg->Prop}(n:C [] [] [])(c:∀{x:V}{xs:Pl}{d:av}{ds:Pe}{S S':Pg},OT K N H x d S->OTs K N H xs ds S'->C xs ds S'->C (x::xs) (d::ds) (S++S')){v:Pl}{d:Pe}{S:Pg}(h:OTs K N H v d S):C v d S :=
  OTs.rec (motive_1:=λY Y Y Y=>True) (motive_2:=λv d S Y=>C v d S) trivial (λY=>trivial) (λY=>trivial)
   (λY=>trivial)
  (λY Y Y=>trivial) (λY Y Y=>trivial) (λY Y Y Y=>trivial) (λY Y Y Y=>trivial) (λY Y Y Y Y=>trivial) (λY=>trivial) n (λh q Y i=>c h q i) h
theorem OTs.len{v:Pl}{d:Pe}{S:Pg}(h:OTs K N H v d S):-v=-d:=OTs.ind (C:=λv d Y=>-v=-d) rfl (λY Y i=>by rw[Lu,Lu,i]) h
theorem OTs.app{v w:Pl}{d e:Pe}{S T:Pg}(h:OTs K N H v d S)(q:OTs K N H w e T):OTs K N H (v++w) (d++e) (S++T):=OTs.ind (C:=λv d S=>OTs K N H (v++w) (d++e) (S++T)) q (λh Y i=>by rw[LQ];show .cons h i) h
end
inductive Sl where
 |un|fr (d:av)|ow (ds:Pe)|io (ds:Pe)|vw (i:Nat)|tr (S:Pg) (d:av)
abbrev O0:=List (V×Sl)
abbrev Pf:=List Sl
abbrev Ent:=Pb×Sl
abbrev O9:=List Ent
noncomputable def cn:Ent->Pg
 |(Po (.ref a),.ow _)=>[a]
 |(Po (.ref a),.io _)=>[a]
 |(Po _,.tr S _)=>S
 |_=>[]
def oas(E:O9):Pg:=E.flatMap cn
def Nw(M:aG->Prop)(E:O9):aG->Prop:=λa=>M a\/a∈oas E
abbrev tmp(ts:O0):O9:=ts.map λt=>(Po t.1,t.2)
noncomputable def aw(σ:St)(env:Pf)(ts:O0):O9:=σ.zip env++tmp ts
theorem ac(A B:O9):oas (A++B)=oas A++oas B:=NQ
theorem ad(e:Ent)(B:O9):oas (e::B)=cn e++oas B:=N8 ..
theorem aL{a:aG}{E:O9}:a∈oas E↔∃e∈E,a∈cn e:=Og
theorem bP(x:Pb):cn (x,.un)=[]:=by
 cases x with
 |none=>rfl
 |some v=>cases v <;> rfl
theorem jb(x:Pb)(i:Nat):cn (x,.vw i)=[]:=by
 cases x with
 |none=>rfl
 |some v=>cases v <;> rfl
theorem dS(x:Pb)(d:av):cn (x,.fr d)=[]:=by
 cases x with
 |none=>rfl
 |some v=>cases v <;> rfl
theorem am(v:V)(S:Pg)(d:av):cn (Po v,.tr S d)=S:=by cases v <;> rfl
theorem gl{e:Ent}{a:aG}(h:a∈cn e):(e.1=Po (.ref a)/\((∃ds,e.2=.ow ds)\/∃ds,e.2=.io ds))\/∃S d,e.2=.tr S d/\a∈S:=by
 let(x,s):=e;cases s with
 |un=>rw[bP]at h;show absurd h Lv
 |vw i=>rw[jb]at h;show absurd h Lv
 |fr d=>rw[dS]at h;show absurd h Lv
 |tr S d =>
  cases x with
  |none=>show absurd h Lv
  |some v=>rw[am]at h;show .inr (S,d,rfl,h)
 |ow ds =>
  cases x with
  |none=>show absurd h Lv
  |some v=>cases v with
   |ref b=>rw[K7.mp h];show .inl (rfl,.inl (ds,rfl))
   |_=>show absurd h Lv
 |io ds =>
  cases x with
  |none=>show absurd h Lv
  |some v=>cases v with
   |ref b=>rw[K7.mp h];show .inl (rfl,.inr (ds,rfl))
   |_=>show absurd h Lv
structure aS(K:cp)(M P:aG->Prop)(H0:Hp)(E:O9)(H:Hp):Prop where
 keep:aM P H0 H
 live:∀a,H0 a≠none->H a≠none
 mt : ∀a,M a->H0 a≠none
 pm : ∀a,P a->M a
 fr : ∀x d,(x,Sl.fr d)∈E->∃v,x=some v/\DN K (Nw M E) H v d
 ow : ∀x ds,(x,Sl.ow ds)∈E->∃a vs,x=some (.ref a)/\H a=some (.lst vs)/\DNs K (Nw M E) H vs ds/\H0 a=none
 io : ∀x ds,(x,Sl.io ds)∈E->∃a vs,x=some (.ref a)/\H a=some (.lst vs)/\DNs K (Nw M E) H vs ds/\P a
 tr : ∀x S d,(x,Sl.tr S d)∈E->∃v,x=some v/\OT K (Nw M E) H v d S/\∀a∈S,H0 a=none
 nd : (oas E).Nodup
section
variable{K:cp}{M P:aG->Prop}{H0 H H':Hp}{E E' A B:O9}{e:Ent}
theorem aS.own(h:aS K M P H0 E H){a:aG}(f:a∈oas E):∃o,H a=Po o/\(H0 a=Pp\/P a):=by
 let((x,s),c,g):=aL.mp f;rcases gl g with⟨e1,e2⟩|⟨S,d,e2,e⟩
 rotate_left
 .cbv;simp only at e2;subst e2;let(v,_,q,r):=h.tr _ _ _ c;let(vs,z):=q.lives a e
  w_up;show(vs,z,.inl (r a e))
 rcases e2 with⟨ds,e2⟩|⟨ds,e2⟩
 .cbv;simp only at e1 e2;subst e1 e2;let(b,vs,z,q,_,r):=h.ow _ _ c;cases z
  w_up;show(_,q,.inl r)
 .cbv;simp only at e1 e2;subst e1 e2;let(b,vs,z,q,_,r):=h.io _ _ c;cases z
  w_up;show(_,q,.inr r)
theorem Nw.sub(h:∀a,a∈oas E'->a∈oas E):∀b,Nw M E' b->Nw M E b:=λb z=>by
 rcases z with z|z;show .inl z;show .inr (h b z)
theorem aS.sub(h:aS K M P H0 E H)(c:∀x s,(x,s)∈E'->(x,s)∈E\/s=.un\/∃i,s=.vw i)(nd:(oas E').Nodup):aS K M P H0 E' H:=by
 let os:∀a,a∈oas E'->a∈oas E:=λa g=>by
  let((x,s),j,f):=aL.mp g;rcases c x s j with q|q|⟨i,q⟩
  show aL.mpr (_,q,f);subst q;rw[bP]at f;cases f;subst q;rw[jb]at f;cases f
 let up:=Nw.sub (M:=M) os;show(h.keep,h.live,h.mt,h.pm,λx d m=>?_,λx d m=>?_,λx d m=>?_,λx S d m=>?_,nd)
 rotate_right
 rcases c _ _ m with q|q|⟨i,q⟩
 let(v,e,dn,r):=h.tr x S d q;show(v,e,dn.to λb Y Y z=>up b z,r);cases q;cases q;rcases c _ _ m with q|q|⟨i,q⟩
 let(v,e,dn):=h.fr x d q;show(v,e,dn.to λb Y Y z=>up b z);cases q;cases q;rcases c _ _ m with q|q|⟨i,q⟩
 let(a,vs,e,e2,dn,r):=h.ow x d q;show(a,vs,e,e2,dn.to λb Y Y z=>up b z,r);cases q;cases q;rcases c _ _ m with q|q|⟨i,q⟩
 let(a,vs,e,e2,dn,r):=h.io x d q;show(a,vs,e,e2,dn.to λb Y Y z=>up b z,r);cases q;cases q
theorem aS.drop(h:aS K M P H0 (E++B) H):aS K M P H0 E H:=h.sub (λx s m=>.inl (K1 _ m)) (by
 let:=h.nd;rw[ac]at this;show(K6.mp this).1)
theorem aS.same(h:aS K M P H0 E H)(k:aA H H'):aS K M P H0 E H':=by
 show(h.keep.trans (aM.same k),λa q z=>?_,h.mt,h.pm,λx d m=>?_,λx d m=>?_,λx d m=>?_,λx S d m=>?_,h.nd)
 rotate_right
 let(v,e,dn,r):=h.tr x S d m;show(v,e,dn.keep (aM.same k) λa b=>by
  let(xs,z):=dn.lives a b;rw[k a _ z,z],r)
 let q1:=h.live a q;cases e:H a with
 |none=>show q1 e
 |some o=>rw[k a o e]at z;cases z
 let(v,e,dn):=h.fr x d m;show(v,e,dn.keep (aM.same k));let(a,vs,e,e2,dn,r):=h.ow x d m;show(a,vs,e,k _ _ e2,dn.keep (aM.same k),r);let(a,vs,e,e2,dn,r):=h.io x d m;show(a,vs,e,k _ _ e2,dn.keep (aM.same k),r)
theorem aS.addFr(h:aS K M P H0 E H){v:V}{d:av}(dn:DN K (Nw M E) H v d):aS K M P H0 (E++[(Po v,.fr d)]) H:=by
 let oe:oas (E++[(Po v,Sl.fr d)])=oas E:=by rw[ac,ad,dS];simp[oas]
 let ne:Nw M (E++[(Po v,Sl.fr d)])=Nw M E:=by unfold Nw;rw[oe]
 show(h.keep,h.live,h.mt,h.pm,λx d' m=>?_,λx d' m=>?_,λx d' m=>?_,λx S d' m=>?_,by rw[oe];show h.nd)
 rotate_right
 rw[ne];rcases K2.mp m with m|m;show h.tr x S d' m;rw[K7]at m;cases m;rw[ne];rcases K2.mp m with m|m;show h.fr x d' m;rw[K7]at m;cases m;show(v,rfl,dn);rw[ne];rcases K2.mp m with m|m;show h.ow x d' m;rw[K7]at m;cases m;rw[ne];rcases K2.mp m with m|m;show h.io x d' m;rw[K7]at m;cases m
theorem aS.addVw(h:aS K M P H0 E H){v:V}{i:Nat}:aS K M P H0 (E++[(Po v,.vw i)]) H:=by show h.sub (λx s m=>?_) ?_;rcases K2.mp m with m|m;show .inl m;rw[K7]at m;cases m;show .inr (.inr (i,rfl));rw[ac,ad,jb];simpa[oas] using h.nd
theorem aS.addOw(h:aS K M P H0 E H){p:aG}{vs:Pl}{ds:Pe}(c:H p=Pp)(dns:DNs K (Nw M E) H vs ds):aS K M P H0 (E++[(Po (.ref p),.ow ds)]) (upd H p (.lst vs)):=by
 let oe:oas (E++[(Po (.ref p),Sl.ow ds)])=oas E++[p]:=by rw[ac];rfl
 let g:p ∉ oas E:=λz=>by
  let(vs',q,_):=h.own z;rw[c]at q;cases q
 let h0:H0 p=Pp:=by
  cases e:H0 p with
  |none=>rfl
  |some o=>show absurd c (h.live p (by rw[e];simp))
 let up:∀b o,H b=Po o->Nw M (E++[(Po (.ref p),Sl.ow ds)]) b->Nw M E b:=λb o e z=>by
  rcases z with z|z;show .inl z;rw[oe]at z;rcases K2.mp z with z|z;show .inr z;rw[K7.mp z,c]at e;cases e
 let h':=h.same (aA.new (o:=.lst vs) c);show(h'.keep,h'.live,h.mt,h.pm,λx d' m=>?_,λx d' m=>?_,λx d' m=>?_,λx S d' m=>?_,?_)
 rotate_right 2
 rcases K2.mp m with m|m;let(v,e,dn,r):=h.tr x S d' m;show(v,e,(dn.to up).keep (aM.same (aA.new c)) λa d=>by
  let(xs,z):=dn.lives a d;rw[aA.new c _ _ z,z],r)
 rw[K7]at m;cases m
 rotate_left
 rcases K2.mp m with m|m;let(v,e,dn):=h.fr x d' m;show(v,e,(dn.to up).keep (aM.same (aA.new c)));rw[K7]at m;cases m;rcases K2.mp m with m|m;let(a,f,e,e2,dn,r):=h.ow x d' m;show(a,f,e,aA.new c _ _ e2,(dn.to up).keep (aM.same (aA.new c)),r);rw[K7]at m;cases m;show(p,vs,rfl,aq,(dns.to up).keep (aM.same (aA.new c)),h0);rcases K2.mp m with m|m;let(a,f,e,e2,dn,r):=h.io x d' m;show(a,f,e,aA.new c _ _ e2,(dn.to up).keep (aM.same (aA.new c)),r);rw[K7]at m;cases m;rw[oe];show K6.mpr (h.nd,!1,λa d b i=>by rw[K7.mp i];exactλz=>g (z▸d))
theorem aS.freeze{a:aG}{ds:Pe}(h:aS K M P H0 (A++(Pm (Po (.ref a)) (.ow ds))::B) H):aS K M P H0 (A++(Pm (Po (.ref a)) (.fr (.list ds)))::B) H:=by
 let oe:oas (A++(Pm (Po (.ref a)) (Sl.ow ds))::B)=oas A++a::oas B:=by rw[ac,ad];rfl
 let c:oas (A++(Pm (Po (.ref a)) (Sl.fr (.list ds)))::B)=oas A++oas B:=by rw[ac,ad];rfl
 let nd:=h.nd;rw[oe]at nd
 cbv;let(i,j,g):=K6.mp nd;let(k,l):=Ll.mp j;let up:∀b,Nw M (A++(Pm (Po (.ref a)) (Sl.fr (.list ds)))::B) b->Nw M (A++(Pm (Po (.ref a)) (Sl.ow ds))::B) b:=Nw.sub λb z=>by
  rw[c]at z;rw[oe];rcases K2.mp z with z|z;show K1 _ z;show K0 _ (K5 _ z)
 let n:(Pm (Po (.ref a)) (Sl.ow ds))∈A++(Pm (Po (.ref a)) (Sl.ow ds))::B:=K0 _ K3;let(a',vs,z,o,dns,h0):=h.ow _ _ n;cases z
 w_up;let na:¬Nw M (A++(Pm (Po (.ref a)) (Sl.fr (.list ds)))::B) a:=λz=>by
  rcases z with z|z;show h.mt a z h0;rw[c]at z;rcases K2.mp z with z|z;show g a z a K3 rfl;show k z
 let old:∀x s,(Pm x s)∈A++(Pm (Po (.ref a)) (Sl.fr (.list ds)))::B->(Pm x s)=(Pm (Po (.ref a)) (Sl.fr (.list ds)))\/(Pm x s)∈A++(Pm (Po (.ref a)) (Sl.ow ds))::B:=λx s m=>by
  rcases K2.mp m with m|m;show .inr (K1 _ m);rcases K9.mp m with m|m;show .inl m;show .inr (K0 _ (K5 _ m))
 show⟨h.keep,h.live,h.mt,h.pm,λx d m=>?_,λx d m=>?_,λx d m=>?_,λx S d m=>?_,?_⟩
 rotate_right 2
 rcases old _ _ m with m|m;cases m;let(v,e,dn,r):=h.tr x S d m;show⟨v,e,dn.to λb Y Y z=>up b z,r⟩
 rotate_left
 rcases old _ _ m with m|m;cases m;show⟨_,rfl,.lst (SnL.of o na) (dns.to λb Y Y z=>up b z)⟩;let(v,e,dn):=h.fr x d m;show⟨v,e,dn.to λb Y Y z=>up b z⟩;rcases old _ _ m with m|m;cases m;let(b,f,e,e2,dn,r):=h.ow x d m;show⟨b,f,e,e2,dn.to λb Y Y z=>up b z,r⟩;rcases old _ _ m with m|m;cases m;let(b,f,e,e2,dn,r):=h.io x d m;show⟨b,f,e,e2,dn.to λb Y Y z=>up b z,r⟩;rw[c];show K6.mpr ⟨i,l,λx hx y p=>g x hx y (K5 _ p)⟩
theorem aS.freezeT{v:V}{S:Pg}{d:av}(h:aS K M P H0 (A++(Pm (Po v) (.tr S d))::B) H):aS K M P H0 (A++(Pm (Po v) (.fr d))::B) H:=by
 let oe:oas (A++(Pm (Po v) (Sl.tr S d))::B)=oas A++(S++oas B):=by rw[ac,ad,am]
 let c:oas (A++(Pm (Po v) (Sl.fr d))::B)=oas A++oas B:=by rw[ac,ad,dS];rfl
 let nd:=h.nd;rw[oe]at nd
 cbv;let(j,k,i):=K6.mp nd;let(q,l,n):=K6.mp k;let up:∀b,Nw M (A++(Pm (Po v) (Sl.fr d))::B) b->Nw M (A++(Pm (Po v) (Sl.tr S d))::B) b:=Nw.sub λb z=>by
  rw[c]at z;rw[oe];rcases K2.mp z with z|z;show K1 _ z;show K0 _ (K0 _ z)
 let o:(Pm (Po v) (Sl.tr S d))∈A++(Pm (Po v) (Sl.tr S d))::B:=K0 _ K3;let(v',z,ot,h0):=h.tr _ _ _ o;cases z
 w_up;let na:∀a∈S,¬Nw M (A++(Pm (Po v) (Sl.fr d))::B) a:=λa f z=>by
  rcases z with z|z;show h.mt a z (h0 a f);rw[c]at z;rcases K2.mp z with z|z;show i a z a (K1 _ f) rfl;show n a f a z rfl
 let old:∀x s,(Pm x s)∈A++(Pm (Po v) (Sl.fr d))::B->(Pm x s)=(Pm (Po v) (Sl.fr d))\/(Pm x s)∈A++(Pm (Po v) (Sl.tr S d))::B:=λx s m=>by
  rcases K2.mp m with m|m;show .inr (K1 _ m);rcases K9.mp m with m|m;show .inl m;show .inr (K0 _ (K5 _ m))
 show⟨h.keep,h.live,h.mt,h.pm,λx d' m=>?_,λx d' m=>?_,λx d' m=>?_,λx S' d' m=>?_,?_⟩;rcases old _ _ m with m|m;cases m;show⟨_,rfl,ot.dn up na⟩;let(v,e,dn):=h.fr x d' m;show⟨v,e,dn.to λb Y Y z=>up b z⟩;rcases old _ _ m with m|m;cases m;let(b,g,e,e2,dn,r):=h.ow x d' m;show⟨b,g,e,e2,dn.to λb Y Y z=>up b z,r⟩;rcases old _ _ m with m|m;cases m;let(b,g,e,e2,dn,r):=h.io x d' m;show⟨b,g,e,e2,dn.to λb Y Y z=>up b z,r⟩;rcases old _ _ m with m|m;cases m;let(v,e,dn,r):=h.tr x S' d' m;show⟨v,e,dn.to λb Y Y z=>up b z,r⟩;rw[c];show K6.mpr ⟨j,l,λx hx y p=>i x hx y (K0 _ p)⟩
def GX:Sl->Pe->Sl->Prop
 |.ow _,ds',s'=>s'=.ow ds'
 |.io _,ds',s'=>s'=.io ds'
 |_,_,_=>False
theorem gq{s s':Sl}{l:Pe}(h:GX s l s'):(∃d,s=.ow d/\s'=.ow l)\/∃d,s=.io d/\s'=.io l:=by
 cases s with
 |ow d=>show .inl (d,rfl,h)
 |io d=>show .inr (d,rfl,h)
 |_=>show h.elim
theorem sS{s s':Sl}{l:Pe}{a:aG}(h:GX s l s'):cn (Po (.ref a),s)=[a]/\cn (Po (.ref a),s')=[a]:=by rcases gq h with⟨_,rfl,rfl⟩|⟨_,rfl,rfl⟩ <;> show(rfl,rfl)
theorem aS.muted{a:aG}{s s':Sl}{vs':Pl}{ds':Pe}(h:aS K M P H0 (A++(Pm (Po (.ref a)) s)::B) H)(hs:GX s ds' s')(k:aM (λb=>b=a) H H')(u:∀b,H b≠Pp->H' b≠Pp)
  (j:H' a=Po (.lst vs')) (dns:DNs K (Nw M (A++(Pm (Po (.ref a)) s)::B)) H' vs' ds'):aS K M P H0 (A++(Pm (Po (.ref a)) s')::B) H':=by
 let l:cn (Pm (Po (.ref a)) s)=[a]/\cn (Pm (Po (.ref a)) s')=[a]:=sS hs;let oe:oas (A++(Pm (Po (.ref a)) s)::B)=oas A++a::oas B:=by rw[ac,ad,l.1];rfl
 let f:oas (A++(Pm (Po (.ref a)) s')::B)=oas A++a::oas B:=by rw[ac,ad,l.2];rfl
 let ne:Nw M (A++(Pm (Po (.ref a)) s')::B)=Nw M (A++(Pm (Po (.ref a)) s)::B):=by unfold Nw;rw[oe,f]
 let na:Nw M (A++(Pm (Po (.ref a)) s)::B) a:=.inr (by rw[oe];simp);let nd:=h.nd;rw[oe]at nd;let(E,w,y):=K6.mp nd;let(C,F):=Ll.mp w;let kN:aM (Nw M (A++(Pm (Po (.ref a)) s)::B)) H H':=k.mono λb z=>by rw[z];show na
 let(G,hw,D):=h.own (a:=a) (by rw[oe];simp);let other:∀x t b,(Pm x t)∈A\/(Pm x t)∈B->b∈cn (Pm x t)->b≠a:=λx t b m n z=>by
  subst z;rcases m with m|m;show y b (aL.mpr ⟨_,m,n⟩) b K3 rfl;show C (aL.mpr ⟨_,m,n⟩)
 let old:∀x t,(Pm x t)∈A++(Pm (Po (.ref a)) s')::B->(Pm x t)=(Pm (Po (.ref a)) s')\/((Pm x t)∈A\/(Pm x t)∈B):=λx t m=>by
  rcases K2.mp m with m|m;show .inr (.inl m);rcases K9.mp m with m|m;show .inl m;show .inr (.inr m)
 let c:∀x t,(Pm x t)∈A\/(Pm x t)∈B->(Pm x t)∈A++(Pm (Po (.ref a)) s)::B:=λx t m=>by
  rcases m with m|m;show K1 _ m;show K0 _ (K5 _ m)
 let I:(Pm (Po (.ref a)) s)∈A++(Pm (Po (.ref a)) s)::B:=K0 _ K3;show⟨?_,λb q=>u b (h.live b q),h.mt,h.pm,λx d m=>?_,λx d m=>?_,λx d m=>?_,λx S d m=>?_,by rw[f];show nd⟩
 rotate_right
 rw[ne];rcases old _ _ m with m|m;rcases gq hs with⟨_,_,e⟩|⟨_,_,e⟩ <;> (rw[e]at m;cases m)
 let(v,e,dn,r):=h.tr x S d (c _ _ m);subst e;show⟨v,rfl,dn.keep kN λb g=>?_,r⟩;let(xs,z):=dn.lives b g;rw[k _ _ (other _ _ b m (by rw[am];show g)) z,z];intro b o p e;by_cases g:b=a;subst g;rcases D with q|q;rw[q]at e;cases e;show absurd q p;show k b o g (h.keep b o p e);rw[ne];rcases old _ _ m with m|m;rcases gq hs with⟨_,_,e⟩|⟨_,_,e⟩ <;> (rw[e]at m;cases m)
 let(v,e,dn):=h.fr x d (c _ _ m);show⟨v,e,dn.keep kN⟩
 .rw[ne];rcases old _ _ m with m|m
  .rcases gq hs with⟨i,e1,e2⟩|⟨_,_,e2⟩ <;> (rw[e2]at m;cases m)
   cbv;let(b,us,e,_,_,r):=h.ow (Po (.ref a)) i (K0 _ (by rw[e1];show K3));cases e
   w_up;show⟨a,vs',rfl,j,dns,r⟩
  let(b,us,e,e2,dn,r):=h.ow x d (c _ _ m);subst e;show⟨b,us,rfl,k _ _ (other _ _ b m (K7.mpr rfl)) e2,dn.keep kN,r⟩
 .rw[ne];rcases old _ _ m with m|m
  .rcases gq hs with⟨_,_,e2⟩|⟨i,e1,e2⟩ <;> (rw[e2]at m;cases m)
   cbv;let(b,us,e,_,_,r):=h.io (Po (.ref a)) i (K0 _ (by rw[e1];show K3));cases e
   w_up;show⟨a,vs',rfl,j,dns,r⟩
  let(b,us,e,e2,dn,r):=h.io x d (c _ _ m);subst e;show⟨b,us,rfl,k _ _ (other _ _ b m (K7.mpr rfl)) e2,dn.keep kN,r⟩
theorem aS.mut{a:aG}{s s':Sl}{vs':Pl}{ds':Pe}(h:aS K M P H0 (A++(Po (.ref a),s)::B) H)(hs:GX s ds' s')(dns:DNs K (Nw M (A++(Po (.ref a),s)::B)) H vs' ds') :
  aS K M P H0 (A++(Po (.ref a),s')::B) (upd H a (.lst vs')) :=
 let d:cn (Po (.ref a),s)=[a]:=(sS hs).1
 h.muted hs (λb o c e=>by rw[ao c];show e) (λb q z=>by
  by_cases c:b=a;rw[c,aq]at z;cases z;rw[ao c]at z;show q z) aq (dns.keep (aM.own (.inr (aL.mpr (_,K0 _ K3,by rw[d];show K7.mpr rfl)))))
theorem aS.move{t:Ent}(h:aS K M P H0 (A++e::(B++[t])) H):aS K M P H0 (A++t::B) H:=by
 show h.sub (λx s m=>.inl ?_) ?_;rcases K2.mp m with m|m;show K1 _ m;rcases K9.mp m with m|m;show K0 _ (K5 _ (K0 _ (by rw[m];simp)));show K0 _ (K5 _ (K1 _ m))
 .let nd:=h.nd;let b:oas (A++e::(B++[t]))=oas A++(oas [e]++(oas B++oas [t])):=by
   rw[ac,show e::(B++[t])=[e]++(B++[t]) from rfl,ac,ac]
  let c:oas (A++t::B)=oas A++(oas [t]++oas B):=by rw[ac,show t::B=[t]++B from rfl,ac]
  rw[b]at nd;rw[c]
  cbv;let(d,f,g):=K6.mp nd;let(_,i,_):=K6.mp f;let(j,k,l):=K6.mp i
  w_up;show K6.mpr (d,K6.mpr (k,j,λx hx y a z=>l y a x hx z.symm),λx hx y a=>?_);show g x hx y (K0 _ ?_);rcases K2.mp a with a|a;show K0 _ a;show K1 _ a
theorem aS.kill{x:Pb}{s:Sl}(h:aS K M P H0 (A++(x,s)::B) H){y:Pb}:aS K M P H0 (A++(y,.un)::B) H:=by
 show h.sub (λl s' m=>?_) ?_;rcases K2.mp m with m|m;show .inl (K1 _ m);rcases K9.mp m with m|m;cases m;show .inr (.inl rfl);show .inl (K0 _ (K5 _ m));let nd:=h.nd;let c:oas (A++(x,s)::B)=oas A++(oas [(x,s)]++oas B):=by rw[ac,show(x,s)::B=[(x,s)]++B from rfl,ac]
 let d:oas (A++(y,.un)::B)=oas A++oas B:=by
  rw[ac,ad];cases y with
  |none=>rfl
  |some v=>cases v <;> rfl
 rw[c]at nd;rw[d];let(e,f,g):=K6.mp nd;let(_,i,_):=K6.mp f;show K6.mpr (e,i,λa j b k=>g a j b (K0 _ k))
end
structure Rel(K:cp)(M P:aG->Prop)(H0:Hp)(σ0 σ:St)(env:Pf)(ts:O0)(H:Hp):Prop where
 e : aS K M P H0 (aw σ env ts) H
 len:σ.length=env.length
 vw : ∀(v:V) (i:Nat),(v,Sl.vw i)∈ts->σ[i]?=some (some v)
 ios:∀(i:Nat) (ds:Pe),env[i]?=some (Sl.io ds)->σ[i]?=σ0[i]?
inductive Vw (K:cp) (N:aG->Prop) (H:Hp):V->av->Prop
 |dn {v d}:DN K N H v d->Vw K N H v d
 |ow {a vs ds}:H a=some (.lst vs)->DNs K N H vs ds->Vw K N H (.ref a) (.list ds)
 |dct {a:aG}{es:OS}{kvs:OX}:H a=some (.ext (cu a es))->DNs K N H (es.map λp=>V.ref p.2.1) (kvs.map λp=>dZ p.1)->DNs K N H (es.map λp=>p.2.2) (kvs.map λp=>p.2)->es.map (λp=>p.1)=kvs.map (λp=>p.1)->Vw K N H (.ref a) (fQ kvs)
 |ot {p:av×av}{l:List (av×av)}{S:Pg}:p.1=.none->OT K N H v (.dict (p::l)) S->Vw K N H v (.dict (p::l))
noncomputable def slD:Sl->Option av
 |.fr d=>Po d
 |.ow ds=>Po (.list ds)
 |.io ds=>Po (.list ds)
 |.tr _ (.dict kvs)=>Po (.dict kvs)
 |_=>Pp
def aZ(env:Pf):Sl->Option av
 |.vw i=>(env[i]?).bind slD
 |.fr d=>Po d
 |.ow ds=>Po (.list ds)
 |.io ds=>Po (.list ds)
 |.tr _ (.dict kvs)=>Po (.dict kvs)
 |_=>Pp
noncomputable def slK:Sl->Option av
 |.fr d=>Po d
 |_=>Pp
def aK(env:Pf):Sl->Option av
 |.vw i=>(env[i]?).bind slK
 |.fr d=>Po d
 |.ow ds=>Po (.list ds)
 |.tr _ d=>Po d
 |_=>Pp
section
variable{K:cp}{M P N:aG->Prop}{H0 H H':Hp}{σ0 σ:St}{env:Pf}{ts tt:O0}{v:V}{s:Sl}{d:av}
theorem au:aw σ env (ts++tt)=aw σ env ts++tmp tt:=by unfold aw;rw[LQ];simp[tmp]
theorem OT.dict_view{S:Pg}{kvs:List (av×av)}(h:OT K N H v (.dict kvs) S):Vw K N H v (.dict kvs):=by
 generalize e:Ov kvs=d at h;cases h with
 |dct h q r e2=>show .dct h q r e2
 |fz h=>show .dn (.fz h)
 |idc h e3 q=>show .ot rfl (.idc h e3 q)
 |dsk h g e3 q=>show .ot rfl (.dsk h g e3 q)
 |_=>cases e
theorem Vw.dv(h:Vw K N H v d):DV K H v d:=by
 cases h with
 |dn h=>show h.dv
 |ow h q=>show .lst (SqL.of h) q.dv
 |dct h q r e=>show .dct h q.dv r.dv e
 |ot _ h=>show h.dv
theorem Vw.list{ds:Pe}(h:Vw K N H v (.list ds)):∃a vs,v=.ref a/\SqL K H a vs/\DNs K N H vs ds:=by
 cases h with
 |dn h=>let(a,vs,e,s,q):=h.list;show(a,vs,e,s.sq,q)
 |ow h q=>show(_,_,rfl,SqL.of h,q)
theorem Vw.tuple{ds:Pe}(h:Vw K N H v (.tuple ds)):∃a vs,v=.ref a/\SqT K H a vs/\DNs K N H vs ds:=by
 cases h with
 |dn h=>let(a,vs,e,s,q):=h.tuple;show(a,vs,e,s.sq,q)
theorem Vw.int{i:Int}(h:Vw K N H v (.int i)):v=.int i:=by
 cases h with
 |dn h=>cases h;rfl
theorem Vw.bool{i:Bool}(h:Vw K N H v (.bool i)):v=.bl i:=by
 cases h with
 |dn h=>cases h;rfl
theorem Vw.none(h:Vw K N H v .none):v=.non:=by
 cases h with
 |dn h=>cases h;rfl
theorem Vw.str{i:ck}(h:Vw K N H v (.str i)):v=.str i:=by
 cases h with
 |dn h=>cases h;rfl
theorem u5(h:-σ=-env){i:Nat}(e:env[i]?=Po s):∃x,σ[i]?=Po x/\(x,s)∈σ.zip env:=by
 let hi:i< -env:=(Lc.mp e).1;let hj:i< -σ:=!0
 show(σ[i],K8 hj,?_);let hz:i<(σ.zip env).length:=by rw[L4];lia
 let:=cE hz;rw[Ma]at this;rwa [(Lc.mp e).2]at this
theorem eY(m:(v,s)∈ts):((Po v,s):Ent)∈aw σ env ts:=K0 _ (Lo.mpr ((v,s),m,rfl))
theorem Rel.slot(h:Rel K M P H0 σ0 σ env ts H){i:Nat}(e:env[i]?=Po s):∃x,σ[i]?=Po x/\(x,s)∈aw σ env ts:=by let(x,e1,m):=u5 h.len e;show(x,e1,K1 _ m)
theorem aS.viewE{E:O9}(h:aS K M P H0 E H){x:Pb}(m:(x,s)∈E)(e:slD s=Po d):∃v,x=Po v/\Vw K (Nw M E) H v d:=by
 cases s with
 |fr d' =>
  cbv;cases e;let(v,e1,dn):=h.fr _ _ m
  w_up;show(v,e1,.dn dn)
 |ow ds =>
  cbv;cases e;let(a,vs,e1,e2,dn,_):=h.ow _ _ m
  w_up;show(_,e1,.ow e2 dn)
 |io ds =>
  cbv;cases e;let(a,vs,e1,e2,dn,_):=h.io _ _ m
  w_up;show(_,e1,.ow e2 dn)
 |un=>cases e
 |vw i=>cases e
 |tr S d' =>
  cases d' with
  |dict kvs =>
   cbv;cases e;let(v,e1,ot,_):=h.tr _ _ _ m
   w_up;show(v,e1,ot.dict_view)
  |_=>cases e
theorem Rel.there(h:Rel K M P H0 σ0 σ env ts H){i:Nat}(e:(env[i]?).bind slD=Po d):∃v,σ[i]?=Po (Po v)/\Vw K (Nw M (aw σ env ts)) H v d:=by
 cases q:env[i]? with
 |none=>rw[q]at e;cases e
 |some s =>
  rw[q]at e;let(x,e1,m):=h.slot q;let(v,e2,w):=h.e.viewE m e;show(v,by rw[e1,e2],w)
theorem Rel.view(h:Rel K M P H0 σ0 σ env ts H)(m:(v,s)∈ts)(e:aZ env s=Po d):Vw K (Nw M (aw σ env ts)) H v d:=by
 cases s with
 |vw i =>
  cbv;let(w,e1,q):=h.there e;rw[h.vw v i m]at e1;cases e1
  w_up;show q
 |un=>cases e
 |tr S d' =>
  cases d' with
  |dict kvs=>let(w,e1,q):=h.e.viewE (s:=.tr S (.dict kvs)) (eY m) e;cases e1;show q
  |_=>cases e
 |fr d'=>let(w,e1,q):=h.e.viewE (eY m) e;cases e1;show q
 |ow d'=>let(w,e1,q):=h.e.viewE (eY m) e;cases e1;show q
 |io d'=>let(w,e1,q):=h.e.viewE (eY m) e;cases e1;show q
theorem sv{E B:O9}{b:aG}(h:Nw M E b):Nw M (E++B) b:=by rcases h with h|h;show .inl h;show .inr (by rw[ac];show K1 _ h)
theorem Rel.drop(h:Rel K M P H0 σ0 σ env (ts++tt) H):Rel K M P H0 σ0 σ env ts H :=
 (by let:=h.e;rw[au]at this;show this.drop,h.len,λv i m=>h.vw v i (K1 _ m),h.ios)
theorem Rel.same(h:Rel K M P H0 σ0 σ env ts H)(k:aA H H'):Rel K M P H0 σ0 σ env ts H':=(h.e.same k,h.len,h.vw,h.ios)
theorem Rel.addFr(h:Rel K M P H0 σ0 σ env ts H)(dn:DN K (Nw M (aw σ env ts)) H v d):Rel K M P H0 σ0 σ env (ts++[(v,.fr d)]) H :=
 (by rw[au];show h.e.addFr dn,h.len,(λw i m=>by
  rcases K2.mp m with m|m;show h.vw w i m;rw[K7]at m;cases m),h.ios)
theorem Rel.addVw(h:Rel K M P H0 σ0 σ env ts H){i:Nat}(e:σ[i]?=Po (Po v)):Rel K M P H0 σ0 σ env (ts++[(v,.vw i)]) H :=
 (by rw[au];show h.e.addVw,h.len,(λw i m=>by
  rcases K2.mp m with m|m;show h.vw w i m;rw[K7]at m;cases m;show e),h.ios)
theorem Rel.addOw(h:Rel K M P H0 σ0 σ env ts H){p:aG}{vs:Pl}{ds:Pe}(a:H p=Pp)(dns:DNs K (Nw M (aw σ env ts)) H vs ds):Rel K M P H0 σ0 σ env (ts++[(.ref p,.ow ds)]) (upd H p (.lst vs)) :=
 (by rw[au];show h.e.addOw a dns,h.len,(λw i m=>by
  rcases K2.mp m with m|m;show h.vw w i m;rw[K7]at m;cases m),h.ios)
theorem Rel.res(h:Rel K M P H0 σ0 σ env (ts++tt) H)(k:aA H H')(dn:DN K (Nw M (aw σ env (ts++tt))) H' v d):Rel K M P H0 σ0 σ env (ts++[(v,.fr d)]) H' :=
 (h.drop.same k).addFr (dn.to λb Y Y z=>by rw[au];show sv z)
theorem Rel.resOw(h:Rel K M P H0 σ0 σ env (ts++tt) H){p:aG}{vs:Pl}{ds:Pe}(a:H p=Pp)(dns:DNs K (Nw M (aw σ env (ts++tt))) H vs ds):Rel K M P H0 σ0 σ env (ts++[(.ref p,.ow ds)]) (upd H p (.lst vs)) :=
 h.drop.addOw a (dns.to λb Y Y z=>by rw[au];show sv z)
end
abbrev DE:=Pf->(Sl->Pf->Prop)->Prop
abbrev DT:=Pf->(Bool->Pf->Prop)->Prop
abbrev DA:=Pf->(Pf->Pf->Prop)->Prop
structure Wn{α:Type}(a:α):Type
def dK(R:Sl->Pf->Prop)(_:Wn R):Sl->Pf->Prop:=R
theorem BZ(R:Sl->Pf->Prop)(w:Wn R)(s:Sl)(env:Pf):dK R w s env=R s env:=rfl
def dI(W:Pf->Prop)(_:Wn W):Pf->Prop:=W
theorem Hz(W:Pf->Prop)(w:Wn W)(env:Pf):dI W w env=W env:=rfl
abbrev Wk(G Q:Prop):Prop:=(G->Q)->(Q->G)->Q->G
theorem u6{c:Bool}{p A A' B B':Prop} [Decidable p](e:c=decide p)(a:A'->A)(b:B'->B)(h:if p then A' else B'):if c=Pq then A else B:=by subst e;by_cases q:p;rw[OG q]at h;rw[OG (decide_eq_true q)];show a h;rw[OH q]at h;rw[OH λz=>q (of_decide_eq_true z)];show b h
inductive up (K:cp) (t:DE) (σ:St) (H:Hp) (Q:VK):Prop
 |mk (M P:aG->Prop) (H0:Hp) (σ0:St) (env:Pf) (ts:O0) (R:Sl->Pf->Prop):Rel K M P H0 σ0 σ env ts H->t env R ->
 (∀s env' v H',R s env'->Rel K M P H0 σ0 σ env' (ts++[(v,s)]) H'->Q v H')->up K t σ H Q
inductive upT (K:cp) (t:DT) (σ:St) (H:Hp) (Q:Bool->Hp->Prop):Prop
 |mk (M P:aG->Prop) (H0:Hp) (σ0:St) (env:Pf) (ts:O0) (R:Bool->Pf->Prop):Rel K M P H0 σ0 σ env ts H->t env R ->
 (∀b env' H',R b env'->Rel K M P H0 σ0 σ env' ts H'->Q b H')->upT K t σ H Q
inductive upA (K:cp) (t:DA) (σ:St) (H:Hp) (Q:Pl->Hp->Prop):Prop
 |mk (M P:aG->Prop) (H0:Hp) (σ0:St) (env:Pf) (ts:O0) (R:Pf->Pf->Prop):Rel K M P H0 σ0 σ env ts H->t env R ->
 (∀ss env' vs H',R ss env'->vs.length=ss.length->Rel K M P H0 σ0 σ env' (ts++vs.zip ss) H'->Q vs H')->upA K t σ H Q
theorem PE.imp{X:Cx}{e:bi}{t t':TE}(h:PE X e t)(k:∀σ H Q,t' σ H Q->t σ H Q):PE X e t':=λpins s σ H Q I hw=>h pins s σ H Q I (k σ H Q hw)
theorem PT.imp{X:Cx}{e:bi}{t t':TT}(h:PT X e t)(k:∀σ H Q,t' σ H Q->t σ H Q):PT X e t':=λpins s σ H Q I hw=>h pins s σ H Q I (k σ H Q hw)
theorem PW.imp{X:Cx}{e:bi}{t t':TT}(h:PW X e t)(k:∀σ H Q,t' σ H Q->t σ H Q):PW X e t':=λwh pins s σ H Q I hw=>h wh pins s σ H Q I (k σ H Q hw)
theorem PA.imp{X:Cx}{e:Pj}{t t':TA}(h:PA X e t)(k:∀σ H Q,t' σ H Q->t σ H Q):PA X e t':=λpos pins s σ H Q I hw=>h pos pins s σ H Q I (k σ H Q hw)
section
variable{X:Cx}{K:cp}{pos:Pos}{a b c:bi}{ta tb:DE}{es:Pj}{tA tB':DT}{tl:DA}
def HV(i:Nat):DE:=λenv R=>∃d,(env[i]?).bind slD=Po d/\R (.vw i) env
theorem qv(i:Nat){x:ck}(hN:X.N[i]?=some x⊕'Pt)(hv:Vis X.env.scope x⊕'Pw)(hd:(x==("__debug__" : ck))=false⊕'Pu)
  (b:(x==("__classdict__" : ck))=false⊕'Pu):PE X (.Name x pos) (up K (HV i)):=(ah hN hv hd b).imp λσ H Q h=>by
 let(M,P,H0,σ0,env,ts,R,a,(d,e,c),f):=h;let(v,e1,_):=a.there e;show(v,e1,f _ _ _ _ c (a.addVw e1))
theorem eZ{α:Type}:∀{l:List α}{i:Nat}{x:α},l[i]?=Po x->∃A B,l=A++x::B/\∀y,l.set i y=A++y::B
 |[],i,x,h=>by simp at h
 |z::l,0,x,h=>by
  simp at h;subst h;show([],l,rfl,λy=>rfl)
 |z::l,i+1,x,h=>by
  let(A,B,e1,e2):=eZ (l:=l) (i:=i) (x:=x) (by simpa using h);show(z::A,B,by rw[e1];rfl,λy=>by rw[List.set_cons_succ,e2 y];rfl)
theorem eB{α β:Type}(l:List α)(m:List β)(j:Nat):(l.zip m)[j]?=(l[j]?).bind λa=>(m[j]?).map λb=>(a,b):=by rw[p7,Nv];cases l[j]? <;> cases m[j]? <;> rfl
theorem u4{σ:St}{env:Pf}{i:Nat}{x:Pb}{s':Sl}(h:σ[i]?=Po x):σ.zip (env.set i s')=(σ.zip env).set i (x,s'):=by apply F0;intro j;by_cases hj:i=j;subst hj;rw[Mu,eB,eB,h];by_cases hi:i< -env;rw[Lp hi,K8 hi];rfl;rw[Nx (by simp;lia),Nx (!0)];rfl;rw[Lj hj,eB,eB,Lj hj]
theorem Rel.split{M P:aG->Prop}{H0 H:Hp}{σ0 σ:St}{env:Pf}{ts:O0}{i:Nat}{s:Sl}(h:Rel K M P H0 σ0 σ env ts H)(e:env[i]?=Po s) :
  ∃x A B,σ[i]?=Po x/\aw σ env ts=A++(x,s)::B/\∀s',aw σ (env.set i s') ts=A++(x,s')::B:=by
 let(x,e1,m):=u5 h.len e;let a:(σ.zip env)[i]?=Po (x,s):=by rw[p7,Nv,e1,e]
 let(A,B,q1,b):=eZ a;show(x,A,B++tmp ts,e1,by unfold aw;rw[q1];simp,λs'=>?_);unfold aw;rw[u4 e1,b];simp
def Fe(i:Nat):DE:=λenv R=>match env[i]? with
 |some (.fr d)=>R (.fr d) env
 |some (.tr _ d)=>R (.fr d) (env.set i (.fr d))
 |some (.ow ds)=>R (.fr (.list ds)) (env.set i (.fr (.list ds)))
 |_=>False
theorem Rel.frz{M P:aG->Prop}{H0 H:Hp}{σ0 σ:St}{env:Pf}{ts:O0}{i:Nat}{ds:Pe}(h:Rel K M P H0 σ0 σ env ts H)(e:env[i]?=Po (.ow ds)):Rel K M P H0 σ0 σ (env.set i (.fr (.list ds))) ts H:=by
 cbv;let(x,A,B,e1,q1,b):=h.split e;let r:=h.e;rw[q1]at r;let(a,vs,z,_):=r.ow _ _ (K0 _ K3);subst z
 w_up;show(by rw[b];show r.freeze,by simp[h.len],h.vw,λj ds' e'=>?_);by_cases hj:i=j;subst hj;let hi:i< -env:=(Lc.mp e).1;rw[Lp hi]at e';cases e';rw[Lj hj]at e';show h.ios j ds' e'
theorem Rel.frzT{M P:aG->Prop}{H0 H:Hp}{σ0 σ:St}{env:Pf}{ts:O0}{i:Nat}{S:Pg}{d:av}(h:Rel K M P H0 σ0 σ env ts H)(e:env[i]?=Po (.tr S d)):Rel K M P H0 σ0 σ (env.set i (.fr d)) ts H:=by
 cbv;let(x,A,B,e1,q1,a):=h.split e;let r:=h.e;rw[q1]at r;let(v,z,_):=r.tr _ _ _ (K0 _ K3);subst z
 w_up;show(by rw[a];show r.freezeT,by simp[h.len],h.vw,λj ds' e'=>?_);by_cases hj:i=j;subst hj;let hi:i< -env:=(Lc.mp e).1;rw[Lp hi]at e';cases e';rw[Lj hj]at e';show h.ios j ds' e'
set_option tactic.hygienic true in
theorem qf(i:Nat){x:ck}(hN:X.N[i]?=some x⊕'Pt)(hv:Vis X.env.scope x⊕'Pw)(hd:(x==("__debug__" : ck))=false⊕'Pu)
  (f:(x==("__classdict__" : ck))=false⊕'Pu):PE X (.Name x pos) (up K (Fe i)):=(ah hN hv hd f).imp λσ H Q h=>by
 let(M,P,H0,σ0,env,ts,R,b,c,g):=h;let key:∀env' d,Rel K M P H0 σ0 σ env' ts H->env'[i]?=Po (.fr d)->R (.fr d) env'->d5 i σ H Q:=λenv' d a e' j=>by
  cbv;let(k,e1,m):=a.slot e';let(v,e2,dn):=a.e.fr _ _ m;subst e2
  w_up;show(v,e1,g _ _ _ _ j (a.addFr dn))
 unfold Fe at c;split at c;rename_i d e;show key env d b e c;rename_i S d e;let hi:i< -env:=(Lc.mp e).1;show key _ _ (b.frzT e) (Lp hi) c;rename_i ds e;let hi:i< -env:=(Lc.mp e).1;show key _ _ (b.frz e) (Lp hi) c;show c.elim
def dC(d:av):DE:=λenv R=>R (.fr d) env
theorem ap{i j}:PE X (.Constant (.int i) j pos) (up K (dC (.int i))):=ci.imp λσ H Q h=>by
 let(M,P,H0,σ0,env,ts,R,a,b,c):=h;show c _ _ _ _ b (a.addFr (.int i))
theorem sg{i j}:PE X (.Constant (.bool i) j pos) (up K (dC (.bool i))):=IN.imp λσ H Q h=>by
 let(M,P,H0,σ0,env,ts,R,a,b,c):=h;show c _ _ _ _ b (a.addFr (.bl i))
theorem fN{j}:PE X (.Constant .none j pos) (up K (dC .none)):=j7.imp λσ H Q h=>by
 let(M,P,H0,σ0,env,ts,R,a,b,c):=h;show c _ _ _ _ b (a.addFr .non)
theorem gL{i j}:PE X (.Constant (.str i) j pos) (up K (dC (.str i))):=Gp.imp λσ H Q h=>by
 let(M,P,H0,σ0,env,ts,R,a,b,c):=h;show c _ _ _ _ b (a.addFr (.str i))
abbrev G2:=av->av->(av->Prop)->Prop
def dOp(g:G2)(ta tb:DE):DE:=λenv R=>ta env λs1 b=>tb b λs2 a=>∃d1 d2,aZ a s1=Po d1/\aZ a s2=Po d2/\g d1 d2 λd=>R (.fr d) a
def dA(K:cp)(r:R2)(g:G2):Prop:=∀(N:aG->Prop) (H:Hp) (x y:V) (d1 d2:av) (R:av->Prop) (Q:VK),Vw K N H x d1->Vw K N H y d2->g d1 d2 R->(∀d v,R d->DN K N H v d->Q v H)->r x y H Q
theorem zy{r:R2}{g:G2}(m:dA K r g):∀σ H Q,up K (dOp g ta tb) σ H Q->tOp r (up K ta) (up K tb) σ H Q:=λσ H Q h=>by
 let(M,P,H0,σ0,env,ts,R,i,l,n):=h;show(M,P,H0,σ0,env,ts,_,i,l,λs1 c j H1 h1 e=>(M,P,H0,σ0,c,ts++[(j,s1)],_,e,h1,λs2 f k H2 h2 a=>?_));let(d1,d2,e1,e2,g):=h2;show m _ H2 j k d1 d2 _ Q (a.view (!1) e1) (a.view (!1) e2) g λd v o dn=>n _ _ _ _ o ?_;let b:Rel K M P H0 σ0 σ f (ts++[(j,s1),(k,s2)]) H2:=by simpa using a
 show b.res (aA.refl _) (by simpa using dn)
theorem bJ{op:Zi}{r:R2}{g:G2}(ho:OpR X (QK op) r)(m:dA K r g)(c:PE X a (up K ta))(d:PE X b (up K tb)):PE X (.BinOp a op b pos) (up K (dOp g ta tb)):=(Dj ho c d).imp (zy m)
theorem wm{op:CmpOp}{r:R2}{g:G2}(ho:OpR X (q5 op) r)(m:dA K r g)(c:PE X a (up K ta))(d:PE X b (up K tb))(e:Qw op b=false⊕'PD):PE X (.Compare a [op] [b] pos) (up K (dOp g ta tb)):=(Do ho c d e).imp (zy m)
def l6(t:DE):DT:=λenv R=>t env λs a=>∃k,aZ a s=Po (.bool k)/\R k a
theorem kJ{t:TE}{c:DE}(h:∀σ H Q,up K c σ H Q->t σ H Q):∀σ H Q,upT K (l6 c) σ H Q->vg t σ H Q:=λσ H Q f=>by
 let(M,P,H0,σ0,env,ts,R,b,g,i):=f;show h σ H _ (M,P,H0,σ0,env,ts,_,b,g,λs1 d l H1 h1 a=>?_);let(k,e,j):=h1;show(k,(a.view (!1) e).bool,i _ _ _ j a.drop)
theorem aC{op:CmpOp}{r:R2}{g:G2}(ho:OpR X (q5 op) r)(m:dA K r g)(c:PE X a (up K ta))(d:PE X b (up K tb))(e:Qw op b=false⊕'PD):PT X (.Compare a [op] [b] pos) (upT K (l6 (dOp g ta tb))):=(cm ho c d e).imp (kJ (zy m))
theorem HJ{r:R2}{g:G2}(c:IxR X r)(m:dA K r g)(d:PE X a (up K ta))(e:PE X b (up K tb))(hs:cr b⊕'Py):PE X (.Subscript a b pos) (up K (dOp g ta tb)):=(gi c d e hs).imp (zy m)
theorem cw{e:bi}{t:DE}(h:PE X e (up K t))(b:(∀a,Zg e X.env a=(do let v <-a;Qn e.pos;Qf [v] (ZM v)))⊕'Pv):PT X e (upT K (l6 t)):=(sh h b).imp (kJ λY Y Y h=>h)
def JK(t u:DT):DT:=λenv R=>t env λk a=>if k=Pq then u a R else R Pr a
def dOr(t u:DT):DT:=λenv R=>t env λk a=>if k=Pq then R Pq a else u a R
def JB(t:DT):DT:=λenv R=>t env λk a=>R (!k) a
theorem eO(b:PT X a (upT K tA)):PW X (.BoolOp .And [a] pos) (upT K tA):=wn b
theorem Bc(b:PT X a (upT K tA)):PW X (.BoolOp .Or [a] pos) (upT K tA):=Gg b
theorem gY(g:PT X a (upT K tA))(i:PW X (.BoolOp .And (b::es) pos) (upT K tB')):PW X (.BoolOp .And (a::b::es) pos) (upT K (JK tA tB')):=(Bi g i).imp λσ H Q h=>by
 let(M,P,H0,σ0,env,ts,R,e,j,f):=h;show(M,P,H0,σ0,env,ts,_,e,j,λk d H1 h1 c=>?_);cases k with
 |true=>show(M,P,H0,σ0,d,ts,R,c,h1,f)
 |false=>show f _ _ _ h1 c
theorem FO(g:PT X a (upT K tA))(i:PW X (.BoolOp .Or (b::es) pos) (upT K tB')):PW X (.BoolOp .Or (a::b::es) pos) (upT K (dOr tA tB')):=(IL g i).imp λσ H Q h=>by
 let(M,P,H0,σ0,env,ts,R,e,j,f):=h;show(M,P,H0,σ0,env,ts,_,e,j,λk d H1 h1 c=>?_);cases k with
 |false=>show(M,P,H0,σ0,d,ts,R,c,h1,f)
 |true=>show f _ _ _ h1 c
theorem fG(e:PT X a (upT K tA)):PT X (.UnaryOp .Not a pos) (upT K (JB tA)):=(Gh e).imp λσ H Q h=>by
 let(M,P,H0,σ0,env,ts,R,c,f,g):=h;show(M,P,H0,σ0,env,ts,_,c,f,λk d H1 h1 b=>g _ _ _ h1 b)
def EW(t u:DE):DE:=λenv R=>t env λs a=>∃k,aZ a s=Po (.bool k)/\if k=Pq then u a R else R (.fr (.bool Pr)) a
def EF(t:DE):DE:=λenv R=>t env λs a=>∃k,aZ a s=Po (.bool k)/\R (.fr (.bool (!k))) a
theorem CY{op}(h:PE X a (up K ta)):PE X (.BoolOp op [a] pos) (up K ta):=Gq h
theorem zf(i:PE X a (up K ta))(j:PE X (.BoolOp .And (b::es) pos) (up K tb)):PE X (.BoolOp .And (a::b::es) pos) (up K (EW ta tb)):=(Gv i j).imp λσ H Q h=>by
 let(M,P,H0,σ0,env,ts,R,f,l,g):=h;show(M,P,H0,σ0,env,ts,_,f,l,λs1 d m H1 h1 c=>?_);let(k,e,h1):=h1;show(k,(c.view (!1) e).bool,?_);cases k with
 |true=>show(M,P,H0,σ0,d,ts,R,c.drop,h1,g)
 |false=>show g _ _ _ _ h1 (c.drop.addFr (.bl Pr))
theorem II(f:PE X a (up K ta)):PE X (.UnaryOp .Not a pos) (up K (EF ta)):=(Gr f).imp λσ H Q h=>by
 let(M,P,H0,σ0,env,ts,R,c,g,i):=h;show(M,P,H0,σ0,env,ts,_,c,g,λs1 d j H1 h1 b=>?_);let(k,e,h1):=h1;show(k,(b.view (!1) e).bool,i _ _ _ _ h1 (b.drop.addFr (.bl _)))
def dIf(t:DT)(ta tb:DE):DE:=λenv R=>t env λk a=>if k=Pq then ta a R else tb a R
theorem wj(hc:PT X c (upT K tA))(i:PE X a (up K ta))(j:PE X b (up K tb)):PE X (.IfExp c a b pos) (up K (dIf tA ta tb)):=(zt hc i j).imp λσ H Q h=>by
 let(M,P,H0,σ0,env,ts,R,f,l,g):=h;show(M,P,H0,σ0,env,ts,_,f,l,λk d H1 h1 e=>?_);cases k with
 |true=>show(M,P,H0,σ0,d,ts,R,e,h1,g)
 |false=>show(M,P,H0,σ0,d,ts,R,e,h1,g)
abbrev G1:=av->(av->Prop)->Prop
def dUn(g:G1)(ta:DE):DE:=λenv R=>ta env λs1 a=>∃d1,aZ a s1=Po d1/\g d1 λd=>R (.fr d) a
theorem HI{op:UnaryOp}{r:V->Hp->VK->Prop}{g:G1}(ho:UnR X (unaryOp op) r)(m:∀(N:aG->Prop) (H:Hp) (x:V) (d1:av) (R:av->Prop) (Q:VK),Vw K N H x d1->g d1 R->(∀d v,R d->DN K N H v d->Q v H)->r x H Q)
  (f:PE X a (up K ta)):PE X (.UnaryOp op a pos) (up K (dUn g ta)):=(Go ho f).imp λσ H Q h=>by
 let(M,P,H0,σ0,env,ts,R,c,i,j):=h;show(M,P,H0,σ0,env,ts,_,c,i,λs1 e k H1 h1 b=>?_);let(d1,e1,g):=h1;show m _ H1 k d1 _ Q (b.view (!1) e1) g λd v l dn=>j _ _ _ _ l (b.res (aA.refl _) dn)
def yK:DA:=λenv R=>R [] env
def ju(t:DE)(u:DA):DA:=λenv R=>t env λs a=>u a λss b=>R (s::ss) b
theorem ag:PA X [] (upA K yK):=aH.imp λσ H Q h=>by
 let(M,P,H0,σ0,env,ts,R,a,b,c):=h;show c [] env [] H b rfl (by simpa using a)
theorem aa(i:PE X a (up K ta))(j:PA X es (upA K tl))(hs:kh (a::es) X.env=(false,eval a X.env)::kh es X.env⊕'Pt):PA X (a::es) (upA K (ju ta tl)):=(ak i j hs).imp λσ H Q h=>by
 let(M,P,H0,σ0,env,ts,R,f,k,l):=h;show(M,P,H0,σ0,env,ts,_,f,k,λs1 b g H1 h1 c=>(M,P,H0,σ0,b,ts++[(g,s1)],_,c,h1,λss d vs H2 h2 hl e=>?_));show l (s1::ss) d (g::vs) H2 h2 (by simp[hl]) (by simpa using e)
end
section
variable{K:cp}{M P N:aG->Prop}{H0 H:Hp}{σ0 σ:St}{env:Pf}{ts tt:O0}{v:V}{s:Sl}{d:av}
def gI(f:Int->Int->Int):G2:=λd e R=>∃i j,d=.int i/\e=.int j/\R (.int (f i j))
def gIC(C:Int->Int->Prop)(f:Int->Int->Int):G2:=λd e R=>∃i j,d=.int i/\e=.int j/\C i j/\R (.int (f i j))
def gB(f:Int->Int->Bool):G2:=λd e R=>∃i j,d=.int i/\e=.int j/\R (.bool (f i j))
theorem mI{f:Int->Int->Int}:dA K (rI0 λi j=>.int (f i j)) (gI f):=by rintro N H x y d e R Q a b ⟨i,j,rfl,rfl,c⟩ g;show(i,j,a.int,b.int,g _ _ c (.int _))
theorem mIC{C:Int->Int->Prop}{f:Int->Int->Int}:dA K (rI C λi j=>.int (f i j)) (gIC C f):=by rintro N H x y d e R Q a b ⟨i,j,rfl,rfl,c,g⟩ h;show(i,j,a.int,b.int,c,h _ _ g (.int _))
theorem mB{f:Int->Int->Bool}:dA K (rI0 λi j=>.bl (f i j)) (gB f):=by rintro N H x y d e R Q a b ⟨i,j,rfl,rfl,c⟩ g;show(i,j,a.int,b.int,g _ _ c (.bl _))
theorem gQ:dA K rEq (gB λi j=>decide (i=j)):=by rintro N H x y d e R Q a b ⟨i,j,rfl,rfl,c⟩ f;rw[a.int,b.int];show(rfl,?_);let q:=f _ _ c (.bl _);rwa [show decide (V.int i=V.int j)=decide (i=j) by simp]
theorem Kw:dA K rNe (gB λi j=>!decide (i=j)):=by rintro N H x y d e R Q a b ⟨i,j,rfl,rfl,c⟩ f;rw[a.int,b.int];show(rfl,?_);let q:=f _ _ c (.bl _);rwa [show decide (V.int i=V.int j)=decide (i=j) by simp]
def gEq:G2:=λd e R=>shp d/\shp e/\R (.bool (fI d e))
def gNe:G2:=λd e R=>shp d/\shp e/\R (.bool (!PyData.eqv d e))
theorem mEq:dA K (IF K) gEq:=λN H x y d e R Q a b ⟨h1,h2,c⟩ f=>(d,e,a.dv,b.dv,h1,h2,f _ _ c (.bl _))
theorem mNe:dA K (FL K) gNe:=λN H x y d e R Q a b ⟨h1,h2,c⟩ f=>(d,e,a.dv,b.dv,h1,h2,f _ _ c (.bl _))
def ku:av->Bool
 |.none=>Pq
 |_=>Pr
theorem Vw.isNon(w:Vw K N H v d):decide (v=.non)=ku d:=by
 cases w with
 |dn h =>
  cases h with
  |fz h=>let(a,xs,e,_):=h.list;subst e;simp[ku]
  |_=>simp[ku]
 |ow h q=>simp[ku]
 |dct h q r e=>simp[ku]
 |ot _ h =>
  let e:v≠.non:=by
   intro z;subst z;generalize hd:Ov _=d' at h;cases h with
   |fz h =>
    let(a,xs,e,_):=h.list;cases e
   |_=>cases hd
  simp[ku,e]
def HR:G2:=λd e R=>e=.none/\R (.bool (ku d))
def Az:G2:=λd e R=>e=.none/\R (.bool (!ku d))
theorem IW:dA K (λx y H Q=>y=.non/\Q (.bl (decide (x=.non))) H) HR:=by rintro N H x y d e R Q a b ⟨rfl,c⟩ f;show(b.none,by rw[a.isNon];show f _ _ c (.bl _))
theorem z6:dA K (λx y H Q=>y=.non/\Q (.bl (!decide (x=.non))) H) Az:=by rintro N H x y d e R Q a b ⟨rfl,c⟩ f;show(b.none,by rw[a.isNon];show f _ _ c (.bl _))
def iB:av->OP
 |.list ds=>Po ds
 |.tuple ds=>Po ds
 |_=>Pp
noncomputable def G3:av->O2
 |.int i=>Po i
 |_=>Pp
def cj:Pe->OO
 |[]=>Po []
 |d::ds=>(G3 d).bind λi=>(cj ds).map (i::·)
theorem bt:∀ns:O7,cj (ns.map .int)=Po ns
 |[]=>rfl
 |n::ns=>by rw[Le,cj,bt ns];rfl
theorem dX:∀{ds:Pe}{ns:O7},cj ds=Po ns->ds=ns.map .int
 |[],ns,h=>by cases h;rfl
 |d::ds,ns,h=>by
  unfold cj at h;cases d <;> simp[G3]at h
  let(a,h1,rfl):=h;rw[dX h1];rfl
theorem Vw.seq{ds:Pe}(w:Vw K N H v d)(e:iB d=Po ds):∃a vs,v=.ref a/\(SqL K H a vs\/SqT K H a vs)/\DNs K N H vs ds:=by
 cases d <;> simp[iB]at e
 subst e;let(a,vs,e1,s,q):=w.list;show(a,vs,e1,.inl s,q);subst e;let(a,vs,e1,s,q):=w.tuple;show(a,vs,e1,.inr s,q)
theorem Ap(i:Int)(ns:O7):inV (.int i) (ns.map V.int)=decide (i∈ns):=by
 unfold inV
 induction ns with
 |nil=>rfl
 |cons n r ih =>
  rw[Le,Mx,ih];let:eqV (.int n) (.int i)=decide (n=i):=(show eqV (.int n) (.int i)=(n==i) from rfl).trans (by rw[ME];simp);rw[this];by_cases h1:n=i;simp[h1];let:¬i=n:=λz=>h1 z.symm;simp[h1,this]
theorem xF(ns:O7):(ns.map V.int).all l0=Pq:=by rw[LN];intro x hx;let(n,_,rfl):=Lo.mp hx;rfl
def gIn:G2:=λd e R=>∃i ds ns,d=.int i/\iB e=Po ds/\cj ds=Po ns/\R (.bool (decide (i∈ns)))
theorem mIn:dA K (rIn K Pr) gIn:=by rintro N H x y d e R Q b c ⟨i,ds,ns,rfl,e1,e2,f⟩ g;let(a,vs,rfl,s,q):=c.seq e1;rw[dX e2]at q;rw[q.ints]at s;rw[b.int];show(a,_,rfl,s,rfl,xF ns,?_);rw[Ap];show g _ _ f (.bl _)
theorem DNs.atI{vs:Pl}{ds:Pe}{i:Int}{e:av}(q:DNs K N H vs ds)(h:_L.atI ds i=Po e):∃v,_L.atI vs i=Po v/\DN K N H v e:=by
 unfold _L.atI at h ⊢;rw[q.len];cases hj:ixN (-ds) i with
 |none=>rw[hj]at h;cases h
 |some j =>
  rw[hj]at h;let h:ds[j]?=Po e:=h;let a:j< -vs:=by rw[q.len];show(Lc.mp h).1
  cbv;let(e',h1,h2):=q.get (K8 a);rw[h]at h1;cases h1
  w_up;show(vs[j],K8 a,h2)
def gIx:G2:=λd e R=>∃ds i x,iB d=Po ds/\e=.int i/\atI ds i=Po x/\R x
def ID(K:cp):R2:=λx y H Q=>IA K x y H Q\/J7 K x y H Q
theorem ff{X:Cx}(hK:X.K=K):IxR X (ID K):=by subst hK;show IxR.or xq GT
theorem mIx:dA K (ID K) gIx:=by rintro N H x y d e R Q g b ⟨ds,i,z,e1,rfl,e2,c⟩ f;let(a,vs,rfl,s,q):=g.seq e1;let(u,e3,dn):=q.atI e2;rcases s with s|s;show .inl (a,vs,i,u,rfl,b.int,s,e3,f _ _ c dn);show .inr (a,vs,i,u,rfl,b.int,s,e3,f _ _ c dn)
inductive Vws (K:cp) (N:aG->Prop) (H:Hp):Pl->Pe->Prop
 |nil:Vws K N H [] []
 |cons {v d vs ds}:Vw K N H v d->Vws K N H vs ds->Vws K N H (v::vs) (d::ds)
def fX(env:Pf):Pf->OP
 |[]=>Po []
 |s::ss=>(aZ env s).bind λd=>(fX env ss).bind λds=>Po (d::ds)
theorem Rel.views(h:Rel K M P H0 σ0 σ env ts H):∀{vs:Pl}{ss:Pf}{ds:Pe},-vs=-ss->(∀p∈vs.zip ss,p∈ts)->fX env ss=Po ds->Vws K (Nw M (aw σ env ts)) H vs ds
 |[],[],_,_,_,e=>by cases e;show .nil
 |v :: vs,s::ss,ds,hl,a,e=>by
  unfold fX at e;cases e1:aZ env s with
  |none=>rw[e1]at e;cases e
  |some d =>
   rw[e1]at e;cases e2:fX env ss with
   |none=>rw[e2]at e;cases e
   |some ds' =>
    rw[e2]at e;cases e;show .cons (h.view (a _ (!1)) e1) (h.views (by simpa using hl) (λp b=>a p (by simp[b])) e2)
 |[],_::_,_,hl,_,_=>by simp at hl
 |_::_,[],_,hl,_,_=>by simp at hl
abbrev GB:=Pe->(av->Prop)->Prop
def dCB(g:GB)(t:DA):DE:=λenv R=>t env λss a=>∃ds,fX a ss=Po ds/\g ds λd=>R (.fr d) a
def tX(K:cp)(r:Pl->Hp->VK->Prop)(g:GB):Prop:=∀(N:aG->Prop) (H:Hp) (xs:Pl) (ds:Pe) (R:av->Prop) (Q:VK),Vws K N H xs ds->g ds R->(∀d v,R d->DN K N H v d->Q v H)->r xs H Q
theorem JM{r:Pl->Hp->VK->Prop}{g:GB}{tl:DA}(m:tX K r g):∀σ H Q,up K (dCB g tl) σ H Q->tCB r (upA K tl) σ H Q:=λσ H Q h=>by
 let(M,P,H0,σ0,env,ts,R,b,f,i):=h;show(M,P,H0,σ0,env,ts,_,b,f,λss c vs H1 h1 hl a=>?_);let(ds,e,g):=h1;show m _ H1 vs ds _ Q (a.views hl (λp j=>K0 _ j) e) g λd v k dn=>i _ _ _ _ k (a.res (aA.refl _) dn)
section
variable{X:Cx}{x:ck}{p pos:Pos}{e:bi}{es:Pj}{tl:DA}{id:String}{r:Pl->Hp->VK->Prop}{g:GB}
theorem HK(hc:fU X (.builtin id) r)(m:tX K r g)(c:Gl X x)(d:X.mg x=none)(hv:Ql x=some (.builtin id))(f:PA X (e::es) (upA K tl))(hn:x ≠ "__name__"⊕'Pu)(a:(x==("__debug__" : ck))=false⊕'Pu)
  (h:kh (e::es) X.env=(false,eval e X.env)::kh es X.env⊕'Pt) (b:(qr pos (kh es X.env)).any (·.1)=false⊕'Pt):PE X (.Call (.Name x p) (e::es) [] pos) (up K (dCB g tl)) :=
 (cY hc c d hv f hn a h b).imp (JM m)
end
def G5:GB:=λds R=>∃d es,ds=[d]/\iB d=Po es/\R (.int (-es))
theorem Kx:tX K (λxs H Q=>∃p ys,xs=[.ref p]/\(SqL K H p ys\/SqT K H p ys)/\Q (.int (-ys)) H) G5:=by
 rintro N H xs ds R Q w ⟨d,es,rfl,e1,b⟩ c;cases w with
 |cons e f =>
  cbv;cases f;let(a,vs,rfl,s,q):=e.seq e1
  w_up;show(a,vs,rfl,s,?_);rw[q.len];show c _ _ b (.int _)
def bh(env:Pf):Pf->OP
 |[]=>Po []
 |s::ss=>(aK env s).bind λd=>(bh env ss).bind λds=>Po (d::ds)
theorem Rel.kept(h:Rel K M P H0 σ0 σ env (ts++tt) H)(m:(v,s)∈tt)(e:aK env s=Po d):DN K (Nw M (aw σ env ts)) H v d:=by
 let c:=h.e;rw[au]at c;let sub:∀b,Nw M (aw σ env ts) b->Nw M (aw σ env ts++tmp tt) b:=λb z=>sv z;let mm:((Po v,s):Ent)∈aw σ env ts++tmp tt:=K0 _ (Lo.mpr ((v,s),m,rfl));cases s with
 |fr d' =>
  cbv;cases e;let(v',e1,dn):=c.fr _ _ mm;cases e1
  w_up;show dn.to λb Y Y z=>sub b z
 |ow ds =>
  cbv;cases e;let(a,vs,e1,e2,dn,h0):=c.ow _ _ mm;cases e1
  w_up;show .lst (SnL.of e2 ?_) (dn.to λb Y Y z=>sub b z);rintro(z|z);show c.mt a z h0;let nd:=c.nd;rw[ac]at nd;show(K6.mp nd).2.2 a z a (aL.mpr (_,Lo.mpr (_,m,rfl),K7.mpr rfl)) rfl
 |tr S d' =>
  cbv;cases e;let(v',e1,ot,h0):=c.tr _ _ _ mm;cases e1
  w_up;show ot.dn sub λa f=>?_;rintro(z|z);show c.mt a z (h0 a f);let nd:=c.nd;rw[ac]at nd;show(K6.mp nd).2.2 a z a (aL.mpr (_,Lo.mpr (_,m,rfl),by rw[am];show f)) rfl
 |vw i =>
  let e:(env[i]?).bind slK=Po d:=e;cases q:env[i]? with
  |none=>rw[q]at e;cases e
  |some s' =>
   rw[q]at e;cases s' with
   |fr d' =>
    cbv;cases e;let(x,e1,m1):=h.slot q;rw[au]at m1;let(v',e2,dn):=c.fr _ _ m1;let e3:=h.vw v i (K0 _ m);rw[e1,e2]at e3;cases e3
    w_up;show dn.to λb Y Y z=>sub b z
   |_=>cases e
 |_=>cases e
theorem Rel.keptAll(h:Rel K M P H0 σ0 σ env (ts++tt) H):∀{vs:Pl}{ss:Pf}{ds:Pe},-vs=-ss->(∀p∈vs.zip ss,p∈tt)->bh env ss=Po ds->DNs K (Nw M (aw σ env ts)) H vs ds
 |[],[],_,_,_,e=>by cases e;show .nil
 |v :: vs,s::ss,ds,hl,a,e=>by
  unfold bh at e;cases e1:aK env s with
  |none=>rw[e1]at e;cases e
  |some d =>
   rw[e1]at e;cases e2:bh env ss with
   |none=>rw[e2]at e;cases e
   |some ds' =>
    rw[e2]at e;cases e;show .cons (h.kept (a _ (!1)) e1) (h.keptAll (by simpa using hl) (λp b=>a p (by simp[b])) e2)
 |[],_::_,_,hl,_,_=>by simp at hl
 |_::_,[],_,hl,_,_=>by simp at hl
theorem Rel.newAddr(h:Rel K M P H0 σ0 σ env ts H){p:aG}(a:H p=Pp):¬Nw M (aw σ env ts) p:=by rintro(z|z);show h.e.live p (h.e.mt p z) a;let(vs,q,_):=h.e.own z;rw[a]at q;cases q
theorem Rel.resTup(h:Rel K M P H0 σ0 σ env (ts++tt) H){p:aG}{vs:Pl}{ds:Pe}(a:H p=Pp)(dns:DNs K (Nw M (aw σ env ts)) H vs ds):Rel K M P H0 σ0 σ env (ts++[(.ref p,.fr (.tuple ds))]) (upd H p (.tup vs)) :=
 (h.drop.same (aA.new a)).addFr (.tup (SnT.of aq (h.drop.newAddr a)) (dns.keep (aM.same (aA.new a))))
section
variable{X:Cx}{p pos:Pos}{e:bi}{es:Pj}{tl:DA}
def Fb(t:DA):DE:=λenv R=>t env λss a=>∃ds,bh a ss=Po ds/\ss.length<=sizeLine/\R (.fr (.tuple ds)) a
def Fd(t:DA):DE:=λenv R=>t env λss a=>∃ds,bh a ss=Po ds/\ss.length<=sizeLine/\R (.ow ds) a
theorem zd{x1}(h:PA X es (upA K tl)):PE X (.Tuple es x1 pos) (up K (Fb tl)):=(hJ h).imp λσ H Q h=>by
 let(M,P,H0,σ0,env,ts,R,b,f,g):=h;show(M,P,H0,σ0,env,ts,_,b,f,λss d vs H1 h1 hl a=>?_);let(ds,e,hz,i):=h1;show(!0,λp c=>g _ _ _ _ i (a.resTup c (a.keptAll hl (λp c=>c) e)))
theorem dR(h:PA X es (upA K tl)):PE X (.List es pos) (up K (Fd tl)):=(Bl h).imp λσ H Q h=>by
 let(M,P,H0,σ0,env,ts,R,b,f,g):=h;show(M,P,H0,σ0,env,ts,_,b,f,λss d vs H1 h1 hl a=>?_);let(ds,e,hz,i):=h1;show(!0,λp c=>g _ _ _ _ i (a.drop.addOw c (a.keptAll hl (λp c=>c) e)))
end
end
def FN(K:cp):R2:=λx y H Q=>∃l b xs a,x=.ref l/\y=.ref b/\SqL K H l xs/\SqL K H b a/\xs.length+-a<=sizeLine/\∀p,H p=Pp->Q (.ref p) (upd H p (.lst (xs++a)))
theorem lB{X:Cx}{K:cp}(hK:X.K=K):OpR X (QK .Add) (FN K):=by
 subst hK;intro pins s σ H x y v u Q I m o h
 cbv;let(l,b,xs,C,rfl,rfl,p,t,hz,q):=h;cases m;cases o;let(c,r,((cls,dd,data,sl),n,ho,hc,_,hd),z):=I.list p;let(a,j,((k,g,data2,i),w,d,e,_,f),z2):=I.list t;simp only at hc hd e f;subst hc hd e f
 w_up;let hl:=-r;let A:=-j;show concat_meets (_,ho,rfl) (_,d,rfl) noFill_list_add seq_list_add PySem.F.slot_list_add PySem.F.entry_list_add (PySem.F.args_list_add_2 _ _) (list_addW l b c.toArray a.toArray n w dd g sl i (by rw[Li,Li];lia)) (ho,d,?_);let B:c.toArray++a.toArray=(c++a).toArray:=!1
 rw[B];show(.ref _,_,I.lnew (t':=s.toks) (r.append j) (by rw[LB];lia),rfl,q _ I.fresh)
section
variable{K:cp}{M P N:aG->Prop}{H0 H H':Hp}{σ0 σ:St}{env:Pf}{ts:O0}{v:V}{s:Sl}{d:av}
variable{X:Cx}{x:ck}{p pos:Pos}{a b e:bi}{es:Pj}{ta tb:DE}{tl:DA}
def Ht(g:av->av->(Pe->Prop)->Prop)(ta tb:DE):DE:=λenv R=>ta env λs1 b=>tb b λs2 a=>∃d1 d2,aZ a s1=Po d1/\aZ a s2=Po d2/\g d1 d2 λds=>R (.ow ds) a
def yC(K:cp)(r:R2)(g:av->av->(Pe->Prop)->Prop):Prop:=∀(N:aG->Prop) (H:Hp) (x y:V) (d1 d2:av) (R:Pe->Prop) (Q:VK),Vw K N H x d1->Vw K N H y d2->g d1 d2 R ->
 (∀ds vs p,R ds->DNs K N H vs ds->H p=Pp->Q (.ref p) (upd H p (.lst vs)))->r x y H Q
theorem Gy{r:R2}{g:av->av->(Pe->Prop)->Prop}(m:yC K r g):∀σ H Q,up K (Ht g ta tb) σ H Q->tOp r (up K ta) (up K tb) σ H Q:=λσ H Q h=>by
 let(M,P,H0,σ0,env,ts,R,f,k,l):=h;show(M,P,H0,σ0,env,ts,_,f,k,λs1 c i H1 h1 d=>(M,P,H0,σ0,c,ts++[(i,s1)],_,d,h1,λs2 e j H2 h2 a=>?_));let(d1,d2,e1,e2,g):=h2;show m _ H2 i j d1 d2 _ Q (a.view (!1) e1) (a.view (!1) e2) g λds vs p n dns o=>l _ _ _ _ n ?_;let b:Rel K M P H0 σ0 σ e (ts++[(i,s1),(j,s2)]) H2:=by simpa using a
 show b.resOw o (by simpa using dns)
theorem CW{op:Zi}{r:R2}{g:av->av->(Pe->Prop)->Prop}(ho:OpR X (QK op) r)(m:yC K r g)(c:PE X a (up K ta))(d:PE X b (up K tb)):PE X (.BinOp a op b pos) (up K (Ht g ta tb)):=(Dj ho c d).imp (Gy m)
def HS:av->av->(Pe->Prop)->Prop:=λd e R=>∃xs ys,d=.list xs/\e=.list ys/\xs.length+-ys<=sizeLine/\R (xs++ys)
theorem IY:yC K (FN K) HS:=by rintro N H x y d e R Q b c ⟨xs,ys,rfl,rfl,hz,f⟩ g;let(a1,h,rfl,s1,q1):=b.list;let(a2,i,rfl,s2,a):=c.list;show(a1,a2,h,i,rfl,rfl,s1,s2,by rw[q1.len,a.len];show hz,λp j=>g _ _ p f (q1.app a) j)
abbrev DO:=Pf->(O2->Pf->Prop)->Prop
inductive upO (K:cp) (t:DO) (σ:St) (H:Hp) (Q:O2->Hp->Prop):Prop
 |mk (M P:aG->Prop) (H0:Hp) (σ0:St) (env:Pf) (ts:O0) (R:O2->Pf->Prop):Rel K M P H0 σ0 σ env ts H->t env R ->
 (∀o env' H',R o env'->Rel K M P H0 σ0 σ env' ts H'->Q o H')->upO K t σ H Q
theorem PO.imp{e:Option bi}{t t':TO}(h:PO X e t)(k:∀σ H Q,t' σ H Q->t σ H Q):PO X e t':=λpins s σ H Q I hw=>h pins s σ H Q I (k σ H Q hw)
def l8:DO:=λenv R=>R Pp env
def AI(t:DE):DO:=λenv R=>t env λs a=>∃i,aZ a s=Po (.int i)/\R (Po i) a
theorem vU:PO X Pp (upO K l8):=pH.imp λσ H Q h=>by
 let(M,P,H0,σ0,env,ts,R,a,b,c):=h;show c _ _ _ b a
theorem vT(h:PE X e (up K ta)):PO X (Po e) (upO K (AI ta)):=(pG h).imp λσ H Q h=>by
 let(M,P,H0,σ0,env,ts,R,b,d,f):=h;show(M,P,H0,σ0,env,ts,_,b,d,λs1 c j H1 h1 a=>?_);let(i,e1,g):=h1;show(i,(a.view (!1) e1).int,f _ _ _ g a.drop)
def B0{α:Type}(xs:List α)(lo hi:O2):List α:=(xs.drop (HT.sIx (-xs) 0 lo)).take (HT.sIx (-xs) (-xs) hi-HT.sIx (-xs) 0 lo)
theorem DNs.drop:∀{vs:Pl}{ds:Pe} (n:Nat),DNs K N H vs ds->DNs K N H (vs.drop n) (ds.drop n)
 |_,_,0,q=>q
 |_,_,_+1,.nil=>.nil
 |_,_,n+1,.cons _ q=>q.drop n
theorem DNs.take:∀{vs:Pl}{ds:Pe} (n:Nat),DNs K N H vs ds->DNs K N H (vs.take n) (ds.take n)
 |_,_,0,_=>.nil
 |_,_,_+1,.nil=>.nil
 |_,_,n+1,.cons h q=>.cons h (q.take n)
theorem DNs.cut{vs:Pl}{ds:Pe}(q:DNs K N H vs ds)(lo hi:O2):DNs K N H (yM vs lo hi) (B0 ds lo hi):=by unfold yM B0;rw[q.len];show(q.drop _).take _
def HW(te:DE)(tl th:DO):DE:=λenv R=>te env λs b=>tl b λl c=>th c λh a=>∃ds,aZ a s=Po (.list ds)/\R (.ow (B0 ds l h)) a
variable{lo hi:Option bi}{tlo thi:DO}{p2:Pos}
theorem FV(hK:X.K=K)(m:PE X e (up K ta))(hl:PO X lo (upO K tlo))(n:PO X hi (upO K thi)):PE X (.Subscript e (.Slice lo hi Pp p2) pos) (up K (HW ta tlo thi)):=(lw (Jd (K:=K) hK) m hl n).imp λσ H Q h=>by
 let(M,P,H0,σ0,env,ts,R,i,o,r):=h;show(M,P,H0,σ0,env,ts,_,i,o,λs1 c j H1 h1 d=>(M,P,H0,σ0,c,ts++[(j,s1)],_,d,h1,λl f H2 h2 g=>(M,P,H0,σ0,f,ts++[(j,s1)],_,g,h2,λu k H3 s b=>?_)));let(ds,e1,t):=s;let(a,vs,rfl,sq,q):=(b.view (v:=j) (!1) e1).list;show(a,vs,rfl,sq,λp w=>r _ _ _ _ t (b.resOw w (q.cut l u)))
def qA(t:DA):DE:=λenv R=>t env λss a=>∃s d ds,ss=[s]/\aZ a s=Po d/\iB d=Po ds/\R (.ow ds) a
theorem fj(hK:X.K=K)(i:Gl X "list")(j:X.mg "list" = none)(k:PA X [e] (upA K tl))(m:kh [e] X.env=[(false,eval e X.env)]⊕'Pt):PE X (.Call (.Name "list" p) [e] [] pos) (up K (qA tl)) :=
 (mU (Jf (K:=K) hK) i j ls k (!2) (!2) m rfl).imp λσ H Q h=>by
 let(M,P,H0,σ0,env,ts,R,c,n,o):=h;show(M,P,H0,σ0,env,ts,_,c,n,λss g vs H1 h1 hl b=>?_)
 cbv;let(s,d,ds,rfl,e1,e2,r):=h1;let(v,rfl):=uE hl;let(a,us,rfl,sq,q):=(b.view (v:=v) (!1) e1).seq e2
 w_up;show(a,us,rfl,sq,λl f=>o _ _ _ _ r (b.resOw f q))
def xW(t:DA):DE:=λenv R=>t env λss a=>∃s d ds,ss=[s]/\aZ a s=Po d/\iB d=Po ds/\R (.fr (.tuple ds)) a
theorem v5(hK:X.K=K)(m:Gl X "tuple")(n:X.mg "tuple" = none)(o:PA X [e] (upA K tl))(r:kh [e] X.env=[(false,eval e X.env)]⊕'Pt):PE X (.Call (.Name "tuple" p) [e] [] pos) (up K (xW tl)) :=
 (mU (GS (K:=K) hK) m n pE o (!2) (!2) r rfl).imp λσ H Q h=>by
 let(M,P,H0,σ0,env,ts,R,f,t,i):=h;show(M,P,H0,σ0,env,ts,_,f,t,λss j vs H1 h1 hl c=>?_);let(s,d,ds,rfl,e1,e2,k):=h1;let(v,rfl):=uE hl;let w:=c.view (v:=v) (!1) e1;cases d <;> simp[iB]at e2
 subst e2;let(a,us,rfl,sq,q):=w.list;show(a,us,rfl,.inl (sq,λl g=>i _ _ _ _ k (c.resTup g (q.to λb Y Y z=>by rw[au];show sv z))));subst e2;let(a,us,rfl,sq,q):=w.tuple;show(a,us,rfl,.inr (sq,i _ _ _ _ k ?_));cases w with
 |dn dn=>show c.res (aA.refl _) dn
noncomputable def kY:Sl->Pe->Option Sl
 |.ow _,ds=>Po (.ow ds)
 |.io _,ds=>Po (.io ds)
 |_,_=>Pp
def pO:Sl->OP
 |.ow ds=>Po ds
 |.io ds=>Po ds
 |_=>Pp
theorem FC{s s':Sl}{l:Pe}(h:kY s l=Po s'):GX s l s'/\pO s'=Po l:=by
 cases s with
 |ow _=>cases h;show(rfl,rfl)
 |io _=>cases h;show(rfl,rfl)
 |_=>cases h
theorem FE{s:Sl}{l d:Pe}(h:kY s l=Po (.io d)):∃a,s=.io a:=by
 cases s with
 |io a=>show(a,rfl)
 |_=>cases h
theorem Rel.mut{i:Nat}{s s':Sl}{ds ds':Pe}(h:Rel K M P H0 σ0 σ env ts H)(e:env[i]?=Po s)(es:kY s ds'=Po s'){a:aG}(d:σ[i]?=Po (Po (.ref a))){vs':Pl}(dns:DNs K (Nw M (aw σ env ts)) H vs' ds') :
  Rel K M P H0 σ0 σ (env.set i s') ts (upd H a (.lst vs')):=by
 cbv;let(x,A,B,e1,q1,f):=h.split e;rw[d]at e1;cases e1
 w_up;let r:=h.e;rw[q1]at r dns;show(by rw[f];show r.mut (FC es).1 dns,by simp[h.len],h.vw,λj b e'=>?_);by_cases hj:i=j
 .cbv;subst hj;let hi:i< -env:=(Lc.mp e).1;rw[Lp hi]at e';cases e';let(c,rfl):=FE es
  w_up;show h.ios i c e
 rw[Lj hj]at e';show h.ios j b e'
theorem Rel.mine{i:Nat}{s:Sl}{ds:Pe}(h:Rel K M P H0 σ0 σ env ts H)(e:env[i]?=Po s)(b:pO s=Po ds):∃a vs,σ[i]?=Po (Po (.ref a))/\H a=Po (.lst vs)/\DNs K (Nw M (aw σ env ts)) H vs ds:=by
 let(x,e1,m):=h.slot e;cases s with
 |ow d =>
  cbv;cases b;let(a,vs,z,q1,c,_):=h.e.ow _ _ m;subst z
  w_up;show(a,vs,e1,q1,c)
 |io d =>
  cbv;cases b;let(a,vs,z,q1,c,_):=h.e.io _ _ m;subst z
  w_up;show(a,vs,e1,q1,c)
 |_=>cases b
def HY(i:Nat)(te:DE):DE:=λenv R=>(∃ds,(env[i]?).bind pO=Po ds)/\te env λs a=>∃d b ds s',aK a s=Po d/\a[i]?=Po b/\pO b=Po ds/\ds.length<sizeLine/\kY b (ds++[d])=Po s'/\R (.fr .none) (a.set i s')
theorem tV{i:Nat}{ds:Pe}(h:(env[i]?).bind pO=Po ds):∃s,env[i]?=Po s/\pO s=Po ds:=by
 cases e:env[i]? with
 |none=>rw[e]at h;cases h
 |some s=>rw[e]at h;show(s,rfl,h)
theorem jK(i:Nat){y:ck}{apos cpos npos:Pos}(hK:X.K=K)(hN:X.N[i]?=some y)(w:PE X e (up K ta))
  (hv:Vis X.env.scope y⊕'Pw) (hd:(y==("__debug__" : ck))=false⊕'Pu)
  (o:(y==("__classdict__" : ck))=false⊕'Pu)
  (j:kh [e] X.env=[(false,eval e X.env)]⊕'Pt)
  (f:zp (.Name y npos) "append" X.env (eval (.Name y npos) X.env)=eval (.Name y npos) X.env⊕'Pt)
  (l:((qr cpos (kh [e] X.env)).all (λx=>!x.1)&&(Qq cpos (zz [] X.env)).all (λx=>x.1.isSome)&&decide ([e].length+([]:Pk).length+(if ([]:Pk).isEmpty then 0 else 1)<30))=true⊕'Pt)
  (g:(apos.endLine==cpos.line)=true⊕'Pt) (c:(qr cpos (kh [] X.env)).any (·.1)=false⊕'Pt) :
  PE X (.Call (.Attribute (.Name y npos) "append" apos) [e] [] cpos) (up K (HY i ta)) :=
 (kBm (K:=K) hK ef h5 hY dw (ah hN hv hd o) (ak w aH j) f l g j c).imp λσ H Q h=>by
 cbv;let(M,P,H0,σ0,env,ts,R,m,((z,h0),A),B):=h;let(J,C,D):=tV h0;let(a,vs,p,E,_):=m.mine C D
 w_up;show(.ref a,p,.inl (rfl,vs,SqL.of E),M,P,H0,σ0,env,ts,_,m,A,λs1 t u H1 h1 b=>?_)
 cbv;let(d,s2,ds,s',k,e2,G,hz,es,I):=h1;let(a',us,n,r,q):=b.drop.mine e2 G;rw[p]at n;cases n
 w_up;show(a,us,u,rfl,rfl,r,by rw[q.len];show hz,?_);let dn:=b.kept (v:=u) (s:=s1) (!1) k;show B _ _ _ _ I ((b.drop.mut (ds:=ds) e2 es p (q.app (.cons dn .nil))).addFr .non)
def Jz(i:Nat):DE:=λenv R=>∃a ds d s',env[i]?=Po a/\pO a=Po ds/\ds.getLast? = Po d/\kY a ds.dropLast=Po s'/\R (.fr d) (env.set i s')
theorem DNs.dropLast:∀{vs:Pl}{ds:Pe},DNs K N H vs ds->DNs K N H vs.dropLast ds.dropLast:=λ{vs ds} q=>by
 rw[Nz,Nz,q.len];show q.take _
theorem IH(i:Nat){y:ck}{apos cpos npos:Pos}(hK:X.K=K)(hN:X.N[i]?=some y)
  (hv:Vis X.env.scope y⊕'Pw) (hd:(y==("__debug__" : ck))=false⊕'Pu)
  (j:(y==("__classdict__" : ck))=false⊕'Pu)
  (b:zp (.Name y npos) "pop" X.env (eval (.Name y npos) X.env)=eval (.Name y npos) X.env⊕'Pt) (c:(apos.endLine==cpos.line)=true⊕'Pt) :
  PE X (.Call (.Attribute (.Name y npos) "pop" apos) [] [] cpos) (up K (Jz i)) :=
 (Jh (K:=K) hK ef oG oy wX (ah hN hv hd j) b c).imp λσ H Q h=>by
 let(M,P,H0,σ0,env,ts,R,e,(t,ds,d,s',k,o,hl,es,p),s):=h;let(a,vs,l,n,q):=e.mine k o;let hn:-ds-1< -ds:=by
  cases ds with
  |nil=>simp at hl
  |cons z r=>simp
 rw[M8]at hl;let f:-vs-1< -vs:=by rw[q.len];show hn
 cbv;let(d',h1,dn):=q.get (K8 f);rw[q.len,hl]at h1;cases h1
 w_up;show(.ref a,l,.inl (rfl,vs,SqL.of n),a,vs,vs[vs.length-1],rfl,rfl,n,K8 f,?_);let g:=e.addFr dn;let m:=g.mut (ds:=ds) (vs':=vs.dropLast) (ds':=ds.dropLast) k es l (by
  let : Nw M (aw σ env (ts++[(vs[vs.length-1],Sl.fr d)]))=Nw M (aw σ env ts):=by
   rw[au];unfold Nw;let:oas (aw σ env ts++tmp [(vs[vs.length-1],Sl.fr d)])=oas (aw σ env ts):=by
    rw[ac];let:oas (tmp [(vs[vs.length-1],Sl.fr d)])=[]:=by
     show oas [(Po vs[vs.length-1],Sl.fr d)]=[]
     rw[ad];cases vs[vs.length-1] <;> rfl
    rw[this,Ls]
   rw[this]
  rw[this];show q.dropLast)
 show s _ _ _ _ p m
end
abbrev DSp:=Pf->(Sl->Pf->Prop)->Prop
def jO:Sl->Bool
 |.fr _=>Pq
 |.ow _=>Pq
 |.tr _ _=>Pq
 |_=>Pr
def oV(vs:Pl)(ss:Pf):aG->Prop:=λa=>a∈oas (tmp (vs.zip ss))
def spD(K:cp)(sp:DSp):Sp:=λvs H Q Y=>∃(M:aG->Prop) (ss:Pf) (R:Sl->Pf->Prop),-vs=-ss/\aS K M (oV vs ss) H (tmp (vs.zip ss)) H/\sp ss R /\
 ∀r a v H',R r a->jO r=Pq->aS K M (oV vs ss) H (tmp ((v,r)::vs.zip a)) H'->Q v H'
section
variable{K:cp}{M P N:aG->Prop}{H0 H H':Hp}{E:O9}{σ0 σ:St}{env:Pf}{ts:O0}{v:V}{s:Sl}{d:av}
theorem h8:∀(vs:Pl) (ds:Pe),oas (tmp (vs.zip (ds.map Sl.fr)))=[]
 |[],_=>by simp[oas,tmp]
 |_::_,[]=>by simp[oas,tmp]
 |v::vs,d::ds=>by
  show oas ((Po v,Sl.fr d)::tmp (vs.zip (ds.map Sl.fr)))=[]
  rw[ad,dS,h8 vs ds];rfl
theorem lR{vs:Pl}{ds:Pe}{x:Pb}{s:Sl}(h:DNs K N H vs ds):(x,s)∈tmp (vs.zip (ds.map Sl.fr))->∃v d,x=Po v/\s=.fr d/\DN K N H v d:=DNs.ind (C:=λvs ds=>(x,s)∈tmp (vs.zip (ds.map Sl.fr))->∃v d,x=Po v/\s=.fr d/\DN K N H v d) (λm=>by simp[tmp]at m) (λ{v vs d ds} h _ i m=>by
  let m:(x,s)∈(Po v,Sl.fr d)::tmp (vs.zip (ds.map Sl.fr)):=m;rcases K9.mp m with m|m;cases m;show(v,d,rfl,rfl,h);show i m) h
inductive d8 (K:cp) (N:aG->Prop) (Hc H':Hp):V->Sl->Prop
 |fr {v:V}{d:av}:DN K N H' v d->d8 K N Hc H' v (.fr d)
 |ow {a:aG}{vs:Pl}{ds:Pe}:H' a=some (.lst vs)->DNs K (λb=>N b\/b=a) H' vs ds->Hc a=none->¬N a->d8 K N Hc H' (.ref a) (.ow ds)
 |tr {v:V}{d:av}{S:Pg}:OT K (λb=>N b\/b∈S) H' v d S->(∀a∈S,Hc a=none/\¬N a)->S.Nodup->d8 K N Hc H' v (.tr S d)
theorem aS.resOk{Hc:Hp}{f:aG->Prop}{r:Sl}{T:O9}(hc:aS K N f Hc ((Po v,r)::T) H')(g:jO r=Pq):d8 K N Hc H' v r:=by
 cases r with
 |fr d =>
  cbv;let(w,e,dn):=hc.fr _ _ K3;cases e
  w_up;show .fr (dn.to λb Y Y z=>.inl z)
 |ow ds =>
  cbv;let(a,vs,e,c,dns,hn):=hc.ow _ _ K3;cases e
  w_up;show .ow c (dns.to λb Y Y z=>?_) hn λz=>hc.mt a z hn;rcases z with z|z;show .inl z;rw[z];show .inr (by rw[ad];show K1 _ (K7.mpr rfl))
 |tr S d =>
  cbv;let(w,e,ot,hn):=hc.tr _ _ _ K3;cases e
  w_up;show .tr (ot.to λb Y Y z=>?_) (λa c=>(hn a c,λz=>hc.mt a z (hn a c))) ?_;rcases z with z|z;show .inl z;show .inr (by rw[ad,am];show K1 _ z);let nd:=hc.nd;rw[ad,am]at nd;show(K6.mp nd).1
 |_=>cases g
theorem d8.own{r:Sl}{Hc:Hp}(h:d8 K N Hc H' v r):(∀b∈cn (Po v,r),Hc b=Pp/\¬N b)/\(cn (Po v,r)).Nodup:=by
 cases h with
 |fr dn=>rw[dS];show(λb a=>absurd a Lv,LI)
 |ow d dns hn c=>show(λb a=>by rw[K7.mp a];show(hn,c),Ll.mpr (!1,LI))
 |tr ot hn nd=>rw[am];show(hn,nd)
theorem d8.frD{d:av}{Hc:Hp}(h:d8 K N Hc H' v (.fr d)):DN K N H' v d:=by
 cases h with
 |fr dn=>show dn
theorem d8.owD{ds:Pe}{Hc:Hp}(h:d8 K N Hc H' v (.ow ds)):∃a vs,v=.ref a/\H' a=Po (.lst vs)/\DNs K (λb=>N b\/b=a) H' vs ds/\Hc a=Pp:=by
 cases h with
 |ow c dns hn d=>show(_,_,rfl,c,dns,hn)
theorem d8.ioD{ds:Pe}{Hc:Hp}(h:d8 K N Hc H' v (.io ds)):False:=by cases h
theorem d8.trD{d:av}{S:Pg}{Hc:Hp}(h:d8 K N Hc H' v (.tr S d)):OT K (λb=>N b\/b∈S) H' v d S/\∀a∈S,Hc a=Pp/\¬N a:=by
 cases h with
 |tr ot hn nd=>show(ot,hn)
theorem aS.getRes{r:Sl}(h:aS K M P H0 E H'){Hc:Hp}(j:∀b,H0 b≠Pp->Hc b≠Pp)(f:d8 K (Nw M E) Hc H' v r)
  (frs:∀x d,(x,Sl.fr d)∈E->∃w,x=Po w/\DN K (λb=>Nw M E b\/(b∈cn (Po v,r)/\Hc b=Pp)) H' w d)
  (k:∀x s ds,(x,s)∈E->pO s=Po ds->∃a vs,x=Po (.ref a)/\H' a=Po (.lst vs)/\DNs K (λb=>Nw M E b\/(b∈cn (Po v,r)/\Hc b=Pp)) H' vs ds)
  (ots:∀x S d,(x,Sl.tr S d)∈E->∃w,x=Po w/\OT K (λb=>Nw M E b\/(b∈cn (Po v,r)/\Hc b=Pp)) H' w d S):aS K M P H0 (E++[(Po v,r)]) H':=by
 let(i,l):=f.own;let oe:oas (E++[(Po v,r)])=oas E++cn (Po v,r):=by rw[ac,ad];simp[oas]
 let up:∀b,Nw M (E++[(Po v,r)]) b->Nw M E b\/b∈cn (Po v,r):=λb z=>by
  rcases z with z|z;show .inl (.inl z);rw[oe]at z;rcases K2.mp z with z|z;show .inl (.inr z);show .inr z
 let g:∀b,Nw M (E++[(Po v,r)]) b->Nw M E b\/(b∈cn (Po v,r)/\Hc b=Pp):=λb z=>(up b z).elim .inl λz=>.inr (z,(i b z).1);let h0:∀b,Hc b=Pp->H0 b=Pp:=λb hn=>by
  cases e:H0 b with
  |none=>rfl
  |some o=>show absurd hn (j b (by rw[e];simp))
 show(h.keep,h.live,h.mt,h.pm,λx d' m=>?_,λx d' m=>?_,λx d' m=>?_,λx S d' m=>?_,?_);rcases K2.mp m with m|m;let(w,e,dn):=frs x d' m;show(w,e,dn.to λb Y Y z=>g b z);rw[K7]at m;let(e1,rfl):=ip m;show(v,e1,f.frD.to λb Y Y z=>(up b z).elim id λz=>by rw[dS]at z;show absurd z Lv)
 .rcases K2.mp m with m|m
  .cbv;let(b,us,e,e2,dn):=k x _ d' m rfl;let(b',n,e',p,_,r):=h.ow x d' m;rw[e]at e';cases e'
   w_up;show(b,us,e,e2,dn.to λb Y Y z=>g b z,r)
  rw[K7]at m;let(e1,rfl):=ip m;let(a,us,rfl,q,dns,hn):=f.owD;show(a,us,e1,q,dns.to λb Y Y z=>(up b z).elim .inl λz=>.inr (K7.mp z),h0 _ hn)
 .rcases K2.mp m with m|m
  .cbv;let(b,us,e,e2,dn):=k x _ d' m rfl;let(b',n,e',p,_,r):=h.io x d' m;rw[e]at e';cases e'
   w_up;show(b,us,e,e2,dn.to λb Y Y z=>g b z,r)
  rw[K7]at m;let(e1,rfl):=ip m;show f.ioD.elim
 rcases K2.mp m with m|m;let(w,e,dn):=ots x S d' m;let(w',e',_,r):=h.tr x S d' m;show(w,e,dn.to λb Y Y z=>g b z,r);rw[K7]at m;let(e1,rfl):=ip m;show(v,e1,f.trD.1.to λb Y Y z=>(up b z).elim .inl λz=>.inr (by rw[am]at z;show z),λa q=>h0 _ (f.trD.2 a q).1);rw[oe];show K6.mpr (h.nd,l,λb u c t z=>(i c t).2 (.inr (z▸u)))
theorem DN.past{Hc:Hp}{a:aG->Prop}(h:DN K N Hc v d)(f:∀b,a b->N b\/Hc b=Pp){c:aG->Prop}(k:aM c Hc H')(g:∀b,c b->a b):DN K a H' v d :=
 (h.to λb o e z=>(f b z).elim id λz=>by rw[z]at e;cases e).keep (k.mono g)
theorem DNs.past{Hc:Hp}{a:aG->Prop}{vs:Pl}{ds:Pe}(h:DNs K N Hc vs ds)(d:∀b,a b->N b\/Hc b=Pp){c:aG->Prop}(k:aM c Hc H')(f:∀b,c b->a b):DNs K a H' vs ds :=
 (h.to λb o e z=>(d b z).elim id λz=>by rw[z]at e;cases e).keep (k.mono f)
theorem OT.past{Hc:Hp}{c:aG->Prop}{S:Pg}(h:OT K N Hc v d S)(i:∀b,c b->N b\/Hc b=Pp){f:aG->Prop}(k:aM f Hc H')(j:∀b,f b->c b)(hs:∀b∈S,¬f b):OT K c H' v d S :=
 (h.to λb o e z=>(i b z).elim id λz=>by rw[z]at e;cases e).keep (k.mono j) λa g=>by
  let(xs,z):=h.lives a g;rw[k _ _ (hs a g) z,z]
theorem aS.called{r:Sl}(h:aS K M P H0 E H)(k:aA H H')(c:d8 K (Nw M E) H H' v r):aS K M P H0 (E++[(Po v,r)]) H':=by
 show(h.same k).getRes h.live c (λx d m=>?_) (λx s ds m f=>?_) λx S d m=>?_
 rotate_right
 let(w,e,dn,_):=h.tr x S d m;show(w,e,dn.past (λb z=>z.elim .inl λz=>.inr z.2) (aM.same (N:=N0) k) (λb z=>z.elim) λb Y z=>z.elim);let(w,e,dn):=h.fr x d m;show(w,e,dn.past (λb z=>z.elim .inl λz=>.inr z.2) (aM.same (N:=N0) k) λb z=>z.elim)
 .cases s with
  |ow l =>
   cbv;cases f;let(a,vs,e,e2,dn,_):=h.ow x _ m
   w_up;show(a,vs,e,k _ _ e2,dn.past (λb z=>z.elim .inl λz=>.inr z.2) (aM.same (N:=N0) k) λb z=>z.elim)
  |io l =>
   cbv;cases f;let(a,vs,e,e2,dn,_):=h.io x _ m
   w_up;show(a,vs,e,k _ _ e2,dn.past (λb z=>z.elim .inl λz=>.inr z.2) (aM.same (N:=N0) k) λb z=>z.elim)
  |_=>cases f
theorem Rel.withRes{r:Sl}(h:Rel K M P H0 σ0 σ env ts H)(e:aS K M P H0 (aw σ env ts++[(Po v,r)]) H')(a:jO r=Pq):Rel K M P H0 σ0 σ env (ts++[(v,r)]) H' :=
  (by rw[au];show e,h.len,(λw i m=>by
    rcases K2.mp m with m|m;show h.vw w i m;rw[K7]at m;cases m;cases a),h.ios)
def yd(sp:DSp)(t:DA):DE:=λenv R=>t env λss a=>∃ds,bh a ss=Po ds/\sp (ds.map .fr) (dK (λr Y=>R r a) ⟨⟩)
theorem kG{M':aG->Prop}{vs:Pl}{ds:Pe}(dns:DNs K M' H vs ds)(c:∀a,M' a->H a≠Pp):aS K M' (oV vs (ds.map .fr)) H (tmp (vs.zip (ds.map .fr))) H:=by
 let oe:=h8 vs ds;let ne:∀b,Nw M' (tmp (vs.zip (ds.map .fr))) b->M' b:=λb z=>z.elim id λz=>by rw[oe]at z;cases z
 show(aM.refl,λa q=>q,c,λa z=>?_,λx d m=>?_,λx l m=>?_,λx l m=>?_,λx S l m=>?_,by rw[oe];show LI)
 rotate_right
 let(w,d',e1,e2,dn):=lR dns m;cases e2;let z:a∈oas (tmp (vs.zip (ds.map .fr))):=z;rw[oe]at z;cases z
 .cbv;let(w,d',e1,e2,dn):=lR dns m;cases e2
  w_up;show(w,e1,dn.to λb Y Y z=>ne b z)
 let(w,d',e1,e2,dn):=lR dns m;cases e2;let(w,d',e1,e2,dn):=lR dns m;cases e2
theorem EZ{sp:DSp}{tl:DA}:∀σ H Q,up K (yd sp tl) σ H Q->jH (spD K sp) [] E0 (upA K tl) σ H Q:=λσ H Q h=>by
 let(M,P,H0,σ0,env,ts,R,g,l,m):=h;show(M,P,H0,σ0,env,ts,_,g,l,λss d vs H1 h1 hl c=>?_);let(ds,n,i):=h1;rw[Ls];let dns:=c.keptAll hl (λp o=>o) n;let oe:=h8 vs ds;show(Nw M (aw σ d ts),ds.map .fr,λr Y=>R r d,by simp[dns.len],kG dns λa z hn=>c.drop.newAddr hn z,i,λr q v H' s j f=>m _ _ _ _ s ?_);let k:aA H1 H':=(f.keep.mono (M:=N0) λb z=>by
  let z:b∈oas (tmp (vs.zip (ds.map .fr))):=z;rw[oe]at z;cases z).none
 show(c.drop).withRes (c.drop.e.called k (f.resOk j)) j
end
section
variable{ts tt:O0}
theorem rp(t:V×Sl)(ts:O0):tmp (t::ts)=(Po t.1,t.2)::tmp ts:=rfl
theorem Cl(ts tt:O0):tmp (ts++tt)=tmp ts++tmp tt:=by simp[tmp]
end
structure gW where
 nx : Pf->Prop
 rt : Sl->Pf->Prop
 bk : Pf->Prop:=λ_=>False
 ct : Pf->Prop:=λ_=>False
abbrev DS:=gW->Pf->Prop
def yB(ts:O0):Prop:=∀v i,(v,Sl.vw i) ∉ ts
structure Cf(K:cp)(M P:aG->Prop)(H0:Hp)(σ0:St)(ts:O0)(DD:gW)(D:oW):Prop where
 nx : ∀σ' env' H',DD.nx env'->Rel K M P H0 σ0 σ' env' ts H'->D.nx σ' H'
 rt : ∀s env' v σ' H',DD.rt s env'->Rel K M P H0 σ0 σ' env' (ts++[(v,s)]) H'->D.rt v H'
 bk : ∀σ' env' H',DD.bk env'->Rel K M P H0 σ0 σ' env' ts H'->D.bk σ' H'
 ct : ∀σ' env' H',DD.ct env'->Rel K M P H0 σ0 σ' env' ts H'->D.ct σ' H'
inductive upS (K:cp) (t:DS) (D:oW) (σ:St) (H:Hp):Prop
 |mk (M P:aG->Prop) (H0:Hp) (σ0:St) (env:Pf) (ts:O0) (DD:gW):yB ts->Rel K M P H0 σ0 σ env ts H->t DD env->Cf K M P H0 σ0 ts DD D->upS K t D σ H
theorem PS.imp{X:Cx}{e:Stmt}{t t':TS}(h:PS X e t)(k:∀D σ H,t' D σ H->t D σ H):PS X e t':=λpins s σ H D I hw=>h pins s σ H D I (k D σ H hw)
theorem PSs.imp{X:Cx}{e:O6}{t t':TS}(h:PSs X e t)(k:∀D σ H,t' D σ H->t D σ H):PSs X e t':=λpins s σ H D I hw=>h pins s σ H D I (k D σ H hw)
section
variable{K:cp}{M P:aG->Prop}{H0 H:Hp}{σ0 σ:St}{env:Pf}{ts tt:O0}{v:V}{s:Sl}{d:av}
def gF(env:Pf):Sl->Option Sl
 |.fr d=>Po (.fr d)
 |.ow ds=>Po (.ow ds)
 |.tr S d=>Po (.tr S d)
 |.vw i=>((env[i]?).bind slK).map .fr
 |_=>Pp
theorem Rel.unVw(h:Rel K M P H0 σ0 σ env (ts++[(v,s)]) H){s':Sl}(e:gF env s=Po s'):Rel K M P H0 σ0 σ env (ts++[(v,s')]) H/\jO s'=Pq:=by
 cases s with
 |fr d=>cases e;show(h,rfl)
 |ow ds=>cases e;show(h,rfl)
 |tr S d=>cases e;show(h,rfl)
 |vw i =>
  let e:((env[i]?).bind slK).map Sl.fr=Po s':=e;cases q:(env[i]?).bind slK with
  |none=>rw[q]at e;cases e
  |some d =>
   rw[q]at e;cases e;show(h.drop.addFr (h.kept (tt:=[(v,.vw i)]) (s:=.vw i) (!1) q),rfl)
 |_=>cases e
theorem qY{σ:St}{env:Pf}{i:Nat}{x:Pb}{s':Sl}:(σ.set i x).zip (env.set i s')=(σ.zip env).set i (x,s'):=by
 apply F0;intro j;rw[eB];by_cases hj:i=j;subst hj;rw[Mu,Mu,Mu,eB];cases σ[i]? <;> cases env[i]? <;> rfl
 rw[Lj hj,Lj hj,Lj hj,eB]
theorem Rel.store(h:Rel K M P H0 σ0 σ env (ts++[(v,s)]) H)(nv:yB ts){i:Nat}(hi:i< -env)(hs:jO s=Pq):Rel K M P H0 σ0 (σ.set i (Po v)) (env.set i s) ts H:=by
 let b:i<(σ.zip env).length:=by rw[L4,h.len];lia
 let(A,B,q1,c):=eZ (K8 b);show(?_,by simp[h.len],λw j m=>absurd m (nv w j),λj ds e=>?_);let a:=h.e;unfold aw at a ⊢;rw[q1,Cl,LQ]at a;rw[qY,c,LQ];let e2:((σ.zip env)[i]::B)++(tmp ts++tmp [(v,s)])=(σ.zip env)[i]::((B++tmp ts)++[(Po v,s)]):=by simp[tmp]
 rw[e2]at a;let:=a.move;simpa using this
 .by_cases hj:i=j
  .cbv;subst hj;rw[Lp hi]at e;cases e
   w_up;cases hs
  rw[Lj hj]at e;rw[Lj hj];show h.ios j ds e
end
section
variable{X:Cx}{K:cp}{pos:Pos}{st:Stmt}{rest a b:O6}{t u:DS}{e c:bi}{te:DE}{tc:DT}
def AJ:DS:=λDD env=>DD.nx env
def Fc(t u:DS):DS:=λDD env=>t { DD with nx:=u DD } env
def Kg(t u:DS):DS:=λDD env=>∃R:Pf->Prop,t { DD with nx:=dI R ⟨⟩ } env/\∀env',R env'->u DD env'
theorem aF:PSs X [] (upS K AJ):=cZ.imp λD σ H h=>by
 let(M,P,H0,σ0,env,ts,DD,nv,a,b,ok):=h;show ok.nx _ _ _ b a
theorem eQ(h1:PS X st (upS K t))(h2:PSs X rest (upS K u)):PSs X (st::rest) (upS K (Fc t u)):=(a9 h1 h2).imp λD σ H h=>by
 let(M,P,H0,σ0,env,ts,DD,nv,a,b,ok):=h;show(M,P,H0,σ0,env,ts,_,nv,a,b,(λσ' env' H' q r=>(M,P,H0,σ0,env',ts,DD,nv,r,q,ok),ok.rt,ok.bk,ok.ct))
theorem iY(h1:PS X st (upS K t))(h2:PSs X rest (upS K u)):PSs X (st::rest) (upS K (Kg t u)):=(C5 h1 h2).imp λD σ H h=>by
 let(M,P,H0,σ0,env,ts,DD,nv,a,(R,b,c),ok):=h;show(λσ' H'=>∃env',R env'/\Rel K M P H0 σ0 σ' env' ts H',(M,P,H0,σ0,env,ts,_,nv,a,b,(λσ' env' H' q r=>(env',q,r),ok.rt,ok.bk,ok.ct)),
  λσ' H' ⟨env',q,r⟩=>(M,P,H0,σ0,env',ts,DD,nv,r,c env' q,ok))
theorem al(h1:PS X st (upS K t)):PSs X [st] (upS K t):=aW h1
def ET:DS:=λDD env=>DD.ct env
theorem ut:PS X (.Continue pos) (upS K ET):=pF.imp λD σ H h=>by
 let(M,P,H0,σ0,env,ts,DD,nv,a,b,ok):=h;show ok.ct _ _ _ b a
def yc(te:DE):DS:=λDD env=>te env λY a=>DD.nx a
theorem cW(d:PE X e (up K te))(hs:Qv e none pos.line X.env=pure false⊕'Pt):PS X (.Expr e pos) (upS K (yc te)):=(bO d hs).imp λD σ H h=>by
 let(M,P,H0,σ0,env,ts,DD,nv,b,f,ok):=h;show(M,P,H0,σ0,env,ts,_,b,f,λs1 c g H1 h1 a=>ok.nx _ _ _ h1 a.drop)
def Hr(te:DE):DS:=λDD env=>te env DD.rt
theorem aR(d:PE X e (up K te)):PS X (.Return (Po e) pos) (upS K (Hr te)):=(gg d).imp λD σ H h=>by
 let(M,P,H0,σ0,env,ts,DD,nv,b,f,ok):=h;show(M,P,H0,σ0,env,ts,_,b,f,λs1 c g H1 h1 a=>ok.rt _ _ _ _ _ h1 a)
def Hy(c:DT)(t u:DS):DS:=λDD env=>c env λk a=>if k=Pq then t DD a else u DD a
theorem cQ(hc:PT X c (upT K tc))(g:PSs X a (upS K t))(i:PSs X b (upS K u)):PS X (.If c a b pos) (upS K (Hy tc t u)):=(i5 hc g i).imp λD σ H h=>by
 let(M,P,H0,σ0,env,ts,DD,nv,f,j,ok):=h;show(M,P,H0,σ0,env,ts,_,f,j,λk d H1 h1 e=>?_);cases k with
 |true=>show(M,P,H0,σ0,d,ts,DD,nv,e,h1,ok)
 |false=>show(M,P,H0,σ0,d,ts,DD,nv,e,h1,ok)
def BX(i:Nat)(te:DE):DS:=λDD env=>te env λs a=>∃s',i< -a/\gF a s=Po s'/\DD.nx (a.set i s')
theorem aT(i:Nat){x:ck}{pos':Pos}(hN:X.N.Nodup)(d:PE X e (up K te))(hi:X.N[i]?=some x⊕'Pt)(hx:Loc X.env.scope x⊕'PF)(hs:Qv e (some (.Name x pos')) pos.line X.env=pure false⊕'Pt)(f:(X.fn x=true\/X.env.scope.names.lookup x=some .local)⊕'Px):PS X (.Assign [.Name x pos'] e pos) (upS K (BX i te)) :=
 (mR hN hi hx d hs f).imp λD σ H h=>by
 let(M,P,H0,σ0,env,ts,DD,nv,b,g,ok):=h;show(M,P,H0,σ0,env,ts,_,b,g,λs1 c k H1 h1 a=>?_);let(s',hl,es,j):=h1;let(r,cs):=a.unVw es;show ok.nx _ _ _ j (r.store nv hl cs)
end
abbrev DG:=av->Pf->(Pf->Prop)->Prop
abbrev DGs:=Pe->Pf->(Pf->Prop)->Prop
inductive upG (K:cp) (g:DG) (v:V) (σ:St) (H:Hp) (Q:St->Hp->Prop):Prop
 |mk (M P:aG->Prop) (H0:Hp) (σ0:St) (env:Pf) (ts:O0) (d:av) (R:Pf->Prop):yB ts->Rel K M P H0 σ0 σ env ts H->DN K (Nw M (aw σ env ts)) H v d->g d env R ->
 (∀σ' env' H',R env'->Rel K M P H0 σ0 σ' env' ts H'->Q σ' H')->upG K g v σ H Q
inductive Fr (K:cp) (g:DGs) (vs:Pl) (σ:St) (H:Hp) (Q:St->Hp->Prop):Prop
 |mk (M P:aG->Prop) (H0:Hp) (σ0:St) (env:Pf) (ts:O0) (ds:Pe) (R:Pf->Prop):yB ts->Rel K M P H0 σ0 σ env ts H->DNs K (Nw M (aw σ env ts)) H vs ds->g ds env R ->
 (∀σ' env' H',R env'->Rel K M P H0 σ0 σ' env' ts H'->Q σ' H')->Fr K g vs σ H Q
theorem PG.imp{X:Cx}{e:bi}{t t':TG}(h:PG X e t)(k:∀v σ H Q,t' v σ H Q->t v σ H Q):PG X e t':=λpins s σ H v u Q I r hw=>h pins s σ H v u Q I r (k v σ H Q hw)
theorem PGs.imp{X:Cx}{e:Pj}{t t':TGs}(h:PGs X e t)(k:∀v σ H Q,t' v σ H Q->t v σ H Q):PGs X e t':=λpins s σ H v u Q I r hw=>h pins s σ H v u Q I r (k v σ H Q hw)
section
variable{K:cp}{M P N:aG->Prop}{H0 H H':Hp}{σ0 σ:St}{env:Pf}{ts kp:O0}{v:V}{s:Sl}{d:av}{X:Cx}{pos:Pos}{e:bi}{es:Pj}
theorem wR(v:V)(d:av):oas (tmp [(v,Sl.fr d)])=[]:=by
 show oas [(Po v,Sl.fr d)]=[]
 rw[ad];cases v <;> rfl
theorem zS{E:O9}{v:V}{d:av}:Nw M (E++tmp [(v,Sl.fr d)])=Nw M E:=by unfold Nw;rw[ac,wR,Ls]
def tK(i:Nat):DG:=λd env R=>i< -env/\R (env.set i (.fr d))
theorem a8(i:Nat){x:ck}(hN:X.N.Nodup)(hi:X.N[i]?=some x⊕'Pt)(hx:Loc X.env.scope x⊕'PF)(b:(X.fn x=true\/X.env.scope.names.lookup x=some .local)⊕'Px):PG X (.Name x pos) (upG K (tK i)) :=
 (fO hN hi hx b).imp λv σ H Q h=>by
 let(M,P,H0,σ0,env,ts,d,R,nv,a,dn,(hl,c),e):=h;show e _ _ _ c ((a.addFr dn).store nv hl rfl)
def Eo:DGs:=λds env R=>ds=[]/\R env
def xQ(g:DG)(b:DGs):DGs:=λds env R=>∃d r,ds=d::r/\g d env λa=>b r a R
theorem vX:PGs X [] (Fr K Eo):=Dg.imp λv σ H Q h=>by
 cbv;let(M,P,H0,σ0,env,ts,ds,R,nv,a,dn,(rfl,b),c):=h;cases dn
 w_up;show(rfl,c _ _ _ b a)
theorem sQ(env:Pf):∀ds:Pe,bh env (ds.map .fr)=Po ds
 |[]=>rfl
 |d::ds=>by
  show(aK env (Sl.fr d)).bind _=_;rw[sQ env ds];rfl
theorem Dy(vs:Pl)(ds:Pe)(nv:yB ts):yB (ts++vs.zip (ds.map .fr)):=λw i m=>by
 rcases K2.mp m with m|m;show nv w i m;let(d,_,e):=Lo.mp (MF m).2;cases e
theorem Rel.addFrs:∀{vs:Pl}{ds:Pe}{ts:O0},Rel K M P H0 σ0 σ env ts H->DNs K (Nw M (aw σ env ts)) H vs ds->Rel K M P H0 σ0 σ env (ts++vs.zip (ds.map .fr)) H
 |_,_,ts,a,.nil=>by simpa using a
 |_,_,ts,a,@DNs.cons _ _ _ v vs d ds h q=>by
  let r:=a.addFr h;let c:DNs K (Nw M (aw σ env (ts++[(v,.fr d)]))) H vs ds:=q.to λb Y Y z=>by rw[au,zS]at z;show z
  let:=Rel.addFrs r c;simpa using this
theorem iL{g:DG}{j:DGs}(h1:PG X e (upG K g))(h2:PGs X es (Fr K j))(hs:(Qg (e::es) X.env).map (·.2)=QV e X.env::(Qg es X.env).map (·.2)⊕'Pt):PGs X (e::es) (Fr K (xQ g j)) :=
 (zo h1 h2 hs).imp λvs σ H Q h=>by
 let(M,P,H0,σ0,env,ts,ds,R,nv,f,dn,(d,r,rfl,k),l):=h;cases dn with
 |@cons v vs _ _ h q =>
  let c:=f.addFrs q;let hN:DN K (Nw M (aw σ env (ts++vs.zip (r.map .fr)))) H v d:=h.to λb Y Y z=>by
   rw[au]at z;rcases z with z|z;show .inl z;rw[ac,h8,Ls]at z;show .inr z
  show(v,vs,rfl,M,P,H0,σ0,env,ts++vs.zip (r.map .fr),d,_,Dy _ _ nv,c,hN,k,λσ' env' H' i a=>?_);show(M,P,H0,σ0,env',ts,r,R,nv,a.drop,a.keptAll (by simp[q.len]) (λp m=>m) (sQ _ _),i,l)
def En(n:Nat)(a:DGs):DG:=λd env R=>∃ds,d=.tuple ds/\ds.length=n/\a ds env R
theorem Be{k:Nat}{e:DGs}{n:Nat}(hK:X.K=K)(hc:X.calm=true)(h:PGs X es (Fr K e))(hn:(Qg es X.env).length=n⊕'Pt)(b:(Qg es X.env).findIdx? (·.1)=none⊕'Pt):PG X (.Tuple es k pos) (upG K (En n e)) :=
 (Jc (K:=K) hK hc h hn b).imp λv σ H Q h=>by
 let(M,P,H0,σ0,env,ts,d,R,nv,c,dn,(ds,rfl,hl,f),g):=h;let(a,xs,rfl,sn,q):=dn.tuple;show(a,xs,rfl,sn.sq,by rw[q.len];show hl,M,P,H0,σ0,env,ts,ds,R,nv,c,q,f,g)
structure tY(K:cp)(J:It)(kp:O0)(ds:Pe):Prop where
 go : ∀{M P:aG->Prop}{H0 H:Hp}{σ0 σ:St}{env:Pf}{ts:O0},Rel K M P H0 σ0 σ env (ts++kp) H->∀i,i<ds.length->J.go i H
 yld:∀{M P:aG->Prop}{H0 H:Hp}{σ0 σ:St}{env:Pf}{ts:O0},Rel K M P H0 σ0 σ env (ts++kp) H->∀i x H',(hi:i<ds.length)->J.yld i H x H'->aA H H'/\DN K (Nw M (aw σ env (ts++kp))) H' x ds[i]
 stop:∀{M P:aG->Prop}{H0 H:Hp}{σ0 σ:St}{env:Pf}{ts:O0},Rel K M P H0 σ0 σ env (ts++kp) H->J.stop ds.length H
 nv : yB kp
abbrev DI:=Pf->(Pe->Pf->Prop)->Prop
inductive upI (K:cp) (t:DI) (σ:St) (H:Hp) (R:It->Hp->Prop):Prop
 |mk (M P:aG->Prop) (H0:Hp) (σ0:St) (env:Pf) (ts:O0) (RR:Pe->Pf->Prop):Rel K M P H0 σ0 σ env ts H->t env RR ->
 (∀ds env' J H' kp,RR ds env'->Rel K M P H0 σ0 σ env' (ts++kp) H'->tY K J kp ds->R J H')->upI K t σ H R
theorem PI.imp{tg iter:bi}{t t':TI}(h:PI X tg iter t)(k:∀σ H R,t' σ H R->t σ H R):PI X tg iter t':=λpins s σ H R I hw=>h pins s σ H R I (k σ H R hw)
theorem dG{b:Bool}{a:aG}{ds:Pe}(c:Rel K M P H0 σ0 σ env ts H)(m:(.ref a,.fr (if b then .tuple ds else .list ds))∈ts):∃xs,SqB K H b a xs/\DNs K (Nw M (aw σ env ts)) H xs ds:=by
 cbv;let(v,e,dn):=c.e.fr _ _ (eY m);cases e
 w_up;cases b with
 |false =>
  cbv;let(a',xs,e,sn,q):=DN.list dn;cases e
  w_up;show(xs,sn.sq,q)
 |true =>
  cbv;let(a',xs,e,sn,q):=DN.tuple dn;cases e
  w_up;show(xs,sn.sq,q)
theorem DNs.item{vs:Pl}{ds:Pe}(q:DNs K N H vs ds){i:Nat}(hi:i< -ds):∃x,vs[i]?=Po x/\DN K N H x ds[i]:=by
 let hv:i< -vs:=by rw[q.len];show hi
 cbv;let(e,h1,h2):=q.get (K8 hv);rw[K8 hi]at h1;cases h1
 w_up;show(vs[i],K8 hv,h2)
theorem GE{v:V}{d:av}:yB [(v,Sl.fr d)]:=λw i m=>by rw[K7]at m;cases m
theorem xt{a:aG}{ds:Pe}:tY K (Itl K a) [(.ref a,.fr (.list ds))] ds where
 go := λc i hi=>by
  let(xs,s,q):=dG (b:=Pr) (a:=a) (ds:=ds) c (K0 _ (!1));let(x,e,_):=q.item hi;show(xs,x,s,e)
 yld:=λc i x H' hi y=>by
  cbv;let(xs,s,q):=dG (b:=Pr) (a:=a) (ds:=ds) c (K0 _ (!1));let(e,y):=y;subst e;let(d,e',dn):=q.item hi;rw[y xs s]at e';cases e'
  w_up;show(aA.refl _,dn)
 stop:=λc=>by
  let(xs,s,q):=dG (b:=Pr) (a:=a) (ds:=ds) c (K0 _ (!1));show(xs,s,by rw[q.len];show Lf _)
 nv := GE
noncomputable def fF(lo:Int)(n:Nat):Pe:=(dm n).map λ(k:Nat)=>fy (lo+k)
theorem aI(lo:Int)(n:Nat):(fF lo n).length=n:=by simp[fF]
theorem bf(lo:Int)(n i:Nat)(h:i<(fF lo n).length):(fF lo n)[i]=.int (lo+i):=by simp[fF]
theorem kr{lo:Int}{n:Nat}:tY K (Itr lo n) [] (fF lo n) where
 go := λa i hi=>by rw[aI]at hi;show hi
 yld:=λa i x H' hi y=>by
  let(e,y):=y;subst e;rw[bf,y];show(aA.refl _,.int _)
 stop:=λa=>by rw[aI];show Lf _
 nv := λw i m=>by cases m
noncomputable def l4(ds:Pe):Pe:=ds.zipIdx.map λ(p:av×Nat)=>Op [.int p.2,p.1]
theorem bS(ds:Pe):(l4 ds).length=-ds:=by simp[l4]
theorem js(ds:Pe)(i:Nat)(h:i<(l4 ds).length):(l4 ds)[i]=.tuple [.int i,ds[i]'(by rw[bS]at h;exact h)]:=by simp[l4]
theorem xw{b:Bool}{a:aG}{ds:Pe}:tY K (Ite K b a) [(.ref a,.fr (if b then .tuple ds else .list ds))] (l4 ds) where
 go := λc i hi=>by
  rw[bS]at hi;let(xs,s,q):=dG (b:=b) (a:=a) (ds:=ds) c (K0 _ (!1));let(x,e,_):=q.item hi;show(xs,x,s,e)
 yld:=λ{M P H0 H σ0 σ env ts} c i x H' hi y=>by
  rw[js];rw[bS]at hi
  cbv;let(xs,s,q):=dG (b:=b) (a:=a) (ds:=ds) c (K0 _ (!1));let(p,x1,rfl,d,rfl,y):=y;let(f,e',dn):=q.item hi;rw[y xs s]at e';cases e'
  w_up;show(aA.new d,DN.of2 (SnT.of aq (c.newAddr d)) (.int _) (dn.keep (aM.same (aA.new d))))
 stop:=λc=>by
  let(xs,s,q):=dG (b:=b) (a:=a) (ds:=ds) c (K0 _ (!1));show(xs,s,by rw[q.len,bS])
 nv := GE
end
section
variable{K:cp}{M P:aG->Prop}{H0 H H':Hp}{σ0 σ:St}{env:Pf}{ts kp:O0}{v:V}{s:Sl}{X:Cx}{pos p:Pos}{e e1 e2 tg iter:bi}{es:Pj}{te:DE}{tl:DA}
def tO(te:DE):DI:=λenv RR=>te env λs a=>∃ds,aK a s=Po (.list ds)/\RR ds a
theorem dQ(h:PE X e (up K te))(hK:X.K=K⊕'Pt):PI X tg e (upI K (tO te)):=(GM (K:=K) hK h).imp λσ H R h=>by
 let(M,P,H0,σ0,env,ts,RR,c,f,g):=h;show(M,P,H0,σ0,env,ts,_,c,f,λs1 d i H1 h1 b=>?_);let(ds,k,j):=h1;let dn:=b.kept (v:=i) (s:=s1) (!1) k;let(a,xs,rfl,sn,q):=dn.list;show(a,rfl,(xs,sn.sq),g _ _ _ _ _ j (b.drop.addFr dn) xt)
def AH(ta:DA):DI:=λenv RR=>ta env λss a=>∃s j,ss=[s]/\aZ a s=Po (.int j)/\-4611686018427387904<=j/\j<4611686018427387904/\RR (fF 0 j.toNat) a
def Ez(ta:DA):DI:=λenv RR=>ta env λss a=>∃s s' i j,ss=[s,s']/\aZ a s=Po (.int i)/\aZ a s'=Po (.int j)/\(-4611686018427387904<=i/\i<4611686018427387904/\-4611686018427387904<=j/\j<4611686018427387904)/\RR (fF i (j-i).toNat) a
theorem eR(d:Gl X "range")(f:X.mg "range" = none)(g:PA X [e] (upA K tl))(hs:kh [e] X.env=[(false,eval e X.env)]⊕'Pt):PI X tg (.Call (.Name "range" p) [e] [] pos) (upI K (AH tl)):=(wB d f g hs).imp λσ H R h=>by
 let(M,P,H0,σ0,env,ts,RR,b,i,k):=h;show(M,P,H0,σ0,env,ts,_,b,i,λss c vs H1 h1 hl a=>?_);let(s,j,rfl,e1,b1,b2,l):=h1;let(v,rfl):=uE hl;let w:=(a.view (v:=v) (!1) e1).int;show(j,by rw[w],b1,b2,k _ _ _ _ [] l (by simpa using a.drop) kr)
theorem CQ(f:Gl X "range")(g:X.mg "range" = none)(k:PA X [e1,e2] (upA K tl))(hs:kh [e1,e2] X.env=[(false,eval e1 X.env),(false,eval e2 X.env)]⊕'Pt)(c:kh [e2] X.env=[(false,eval e2 X.env)]⊕'Pt) :
  PI X tg (.Call (.Name "range" p) [e1,e2] [] pos) (upI K (Ez tl)):=(wA f g k hs c).imp λσ H R h=>by
 let(M,P,H0,σ0,env,ts,RR,d,l,m):=h;show(M,P,H0,σ0,env,ts,_,d,l,λss e vs H1 h1 hl a=>?_);let(s,s',i,j,rfl,e1,e2,b,n):=h1;let(v,v',rfl):=Jb hl;let w:=(a.view (v:=v) (!1) e1).int;let w':=(a.view (v:=v') (!1) e2).int;show(i,j,by rw[w,w'],b,m _ _ _ _ [] n (by simpa using a.drop) kr)
def sqD(b:Bool)(ds:Pe):av:=if b then .tuple ds else .list ds
def AK(b:Bool)(ta:DA):DI:=λenv RR=>ta env λss a=>∃s ds,ss=[s]/\aK a s=Po (sqD b ds)/\RR (l4 ds) a
theorem vW(b:Bool){es:Pj}{j:Nat}{d:Pos}(hK:X.K=K)(l:Gl X "enumerate")(m:X.mg "enumerate" = none)(n:PA X [e] (upA K tl))(hs:kh [e] X.env=[(false,eval e X.env)]⊕'Pt) :
  PI X (.Tuple es j d) (.Call (.Name "enumerate" p) [e] [] pos) (upI K (AK b tl)):=(GN (K:=K) hK b l m n hs).imp λσ H R h=>by
 let(M,P,H0,σ0,env,ts,RR,f,o,q):=h;show(M,P,H0,σ0,env,ts,_,f,o,λss g vs H1 h1 hl c=>?_)
 cbv;let(s,ds,rfl,k,r):=h1;let(v,rfl):=uE hl;let dn:=c.kept (v:=v) (s:=s) (!1) k;let i:=c.drop.addFr dn;let hv:∃a,v=.ref a:=by
  cases b with
  |false=>let(a,_,e,_):=DN.list dn;show(a,e)
  |true=>let(a,_,e,_):=DN.tuple dn;show(a,e)
 let(a,rfl):=hv;let(xs,sq,_):=dG (b:=b) (a:=a) (ds:=ds) i (K0 _ (by simp[sqD]))
 w_up;show(a,xs,rfl,sq,q _ _ _ _ _ r i xw)
theorem Rel.dropMid{t:V×Sl}(h:Rel K M P H0 σ0 σ env (ts++kp++[t]) H):Rel K M P H0 σ0 σ env (ts++[t]) H:=by
 show(?_,h.len,λw i m=>h.vw w i (by
  rcases K2.mp m with m|m;show K1 _ (K1 _ m);show K0 _ m),h.ios)
 let a:=h.e;rw[au,au]at a;rw[au];show a.sub (λx s m=>.inl ?_) ?_;rcases K2.mp m with m|m;show K1 _ (K1 _ m);show K0 _ m;let nd:=a.nd;rw[ac,ac]at nd;rw[ac];let(b,c,d):=K6.mp nd;show K6.mpr ((K6.mp b).1,c,λx hx y f=>d x (K1 _ hx) y f)
def FD(ds:Pe)(g:DG)(tb:DS):DS:=λDD env=>∃W:Nat->Pf->Prop,W 0 env /\
 (∀i env,(h:i< -ds)->W i env->g ds[i] env λa=>tb { DD with nx:=dI (W (i+1)) ⟨⟩,ct:=dI (W (i+1)) ⟨⟩,bk:=DD.nx } a)/\∀env,W (-ds) env->DD.nx env
def HX(it:DI)(g:DG)(tb:DS):DS:=λDD env=>it env λds a=>FD ds g tb DD a
theorem jJ{body:O6}{it:DI}{g:DG}{tb:DS}(p:PassesOwn (kq X.prog X.w) X.A X.env X.xe)(hc:X.calm=true)(hi:PI X tg iter (upI K it))(t:PG X tg (upG K g))(u:PSs X body (upS K tb))(hs:(∀x,q4 iter X.env x=pure x)⊕'Pv) :
  PS X (.For tg iter body [] pos) (upS K (HX it g tb)):=(si p hc hi t u hs).imp λD σ H h=>by
 let(M,P,H0,σ0,env,ts,DD,nv,n,z,ok):=h;show(M,P,H0,σ0,env,ts,_,n,z,λds d J H1 kp B f io=>?_);let(W,C,j,done):=B;let k:yB (ts++kp):=λw i m=>by
  rcases K2.mp m with m|m;show nv w i m;show io.nv w i m
 show(λi m σ H=>m=-ds-i/\i<=-ds/\∃env,W i env/\Rel K M P H0 σ0 σ env (ts++kp) H,(_,rfl,Ln _,d,C,f),?_);rintro i m E H2 ⟨rfl,F,c,o,a⟩;by_cases b:i< -ds;show .inr (io.go a i b,λσ' H'=>∃env',W (i+1) env'/\Rel K M P H0 σ0 σ' env' (ts++kp) H',λσ' H' ⟨env',w',G⟩=>(-ds-(i+1),!0,rfl,b,env',w',G),λx H3 y=>?_);let(I,dn):=io.yld a i x H3 b y;let l:=a.same I;show(M,P,H0,σ0,c,ts++kp,ds[i],_,k,l,dn,j i c b o,λσ' env' H' L r=>?_);show(M,P,H0,σ0,env',ts++kp,_,k,r,L,(λσ' env' H' q r=>(env',q,r),λs env' v σ' H' q r=>ok.rt s env' v σ' H' q r.dropMid,λσ' env' H' q r=>ok.nx _ _ _ q r.drop,λσ' env' H' q r=>(env',q,r)))
 .let e:i=-ds:=!0
  subst e;show .inl (io.stop a,ok.nx _ _ _ (done _ o) a.drop)
def Ho(c:DT)(tb:DS):DS:=λDD env=>∃W:Nat->Pf->Prop,(∃m,W m env)/\∀m env,W m env ->
 c env λk a=>if k=Pq then tb { DD with nx:=dI (λenv'=>∃b,b<m/\W b env') ⟨⟩,ct:=dI (λenv'=>∃b,b<m/\W b env') ⟨⟩,bk:=DD.nx } a else DD.nx a
theorem v3{c:bi}{body:O6}{tc:DT}{tb:DS}(l:PassesOwn (kq X.prog X.w) X.A X.env X.xe)(hc:PT X c (upT K tc))(n:PSs X body (upS K tb)):PS X (.While c body [] pos) (upS K (Ho tc tb)):=(zk l hc n).imp λD σ H h=>by
 let(M,P,H0,σ0,env,ts,DD,nv,i,(W,(o,p),d),ok):=h;show(λm σ H=>∃env,W m env/\Rel K M P H0 σ0 σ env ts H,(o,env,p,i),?_);rintro m s H2 ⟨a,t,e⟩;show(M,P,H0,σ0,a,ts,_,e,d m a t,λk f H3 j b=>?_);cases k with
 |false=>show ok.nx _ _ _ j b
 |true =>
  show(λσ' H'=>∃env',(∃g,g<m/\W g env')/\Rel K M P H0 σ0 σ' env' ts H',λσ' H' ⟨env',⟨g,u,w'⟩,v⟩=>(g,u,env',w',v),?_);show(M,P,H0,σ0,f,ts,_,nv,b,j,(λσ' env' H' q r=>(env',q,r),ok.rt,λσ' env' H' q r=>ok.nx _ _ _ q r,λσ' env' H' q r=>(env',q,r)))
end
noncomputable def qK:Option Sl->Sl
 |some (.fr d)=>.fr d
 |_=>.un
def JN(env:Pf):Option Nat->Sl
 |none=>.un
 |some j=>qK env[j]?
def jR(ix:OM)(env:Pf):Pf:=ix.map (JN env)
theorem ib{α β b:Type}{f:α->β}{g:α->b}:∀{l:List α}{x:β}{y:b},(x,y)∈(l.map f).zip (l.map g)->∃o∈l,x=f o/\y=g o
 |[],_,_,h=>by simp at h
 |a :: l,x,y,h=>by
  let h:(x,y)∈(f a,g a)::(l.map f).zip (l.map g):=h;rcases K9.mp h with h|h;cases h;show(a,K3,rfl,rfl);let(o,ho,e):=ib h;show(o,K5 _ ho,e)
def Ep:DT:=λenv R=>R Pq env
theorem PIf.imp{X:Cx}{ifs:Pj}{t t':TT}(h:PIf X ifs t)(k:∀σ H Q,t' σ H Q->t σ H Q):PIf X ifs t':=λpins s σ H Q I hw=>h pins s σ H Q I (k σ H Q hw)
theorem lf{X:Cx}{K:cp}:PIf X [] (upT K Ep):=pJ.imp λσ H Q h=>by
 let(M,P,H0,σ0,env,ts,R,a,b,c):=h;show c _ _ _ b a
theorem vV{X:Cx}{K:cp}{c:bi}{t:DT}(h:PT X c (upT K t)):PIf X [c] (upT K t):=De h
section
variable{K:cp}{M P:aG->Prop}{H0 H:Hp}{σ0 σ:St}{env:Pf}{ts:O0}{v:V}{s:Sl}{d:av}
theorem jw{ix:OM}{x:Pb}(a:Rel K M P H0 σ0 σ env ts H)(m:(x,s)∈(fR σ ix).zip (jR ix env)):s=.un\/∃d v,s=.fr d/\x=Po v/\DN K (Nw M (aw σ env ts)) H v d:=by
 let(o,_,e1,e2):=ib m;cases o with
 |none=>show .inl e2
 |some j =>
  let e2:s=qK env[j]?:=e2;cases q:env[j]? with
  |none=>rw[q]at e2;show .inl e2
  |some s' =>
   rw[q]at e2;cases s' with
   |fr d =>
    let(c,e3,b):=a.slot q;let(v,e4,dn):=a.e.fr _ _ b;show .inr (d,v,e2,?_,dn);rw[e1];show(σ[j]?).join=_;rw[e3,e4];rfl
   |_=>show .inl e2
theorem qJ{ix:OM}(a:Rel K M P H0 σ0 σ env ts H):oas ((fR σ ix).zip (jR ix env))=[]:=by
 unfold oas;rw[r0];rintro⟨x,s⟩ m;rcases jw a m with e|⟨d,v,e,e2,_⟩
 subst e;show bP _;subst e e2;show dS _ _
theorem yk{ix:OM}(c:Rel K M P H0 σ0 σ env ts H):Rel K (Nw M (aw σ env ts)) (λY=>False) H (fR σ ix) (fR σ ix) (jR ix env) [] H:=by
 let oe:=qJ (ix:=ix) c;let f:aw (fR σ ix) (jR ix env) []=(fR σ ix).zip (jR ix env):=by simp[aw,tmp]
 show((aM.refl,λa q=>q,λa z hn=>c.newAddr hn z,λa z=>z.elim,λx d m=>?_,λx l m=>?_,λx l m=>?_,λx S l m=>?_,by rw[f,oe];show LI),by simp[fR,jR],λw i m=>(by cases m),λi l e=>rfl)
 rotate_right
 rw[f]at m;rcases jw c m with e|⟨d',v,e,e2,dn⟩ <;> cases e
 rw[f]at m;rcases jw c m with e|⟨d',v,e,e2,dn⟩
 cases e;cases e;show(v,e2,dn.to λb Y Y z=>?_);rcases z with z|z;show z;rw[f,oe]at z;cases z;rw[f]at m;rcases jw c m with e|⟨d',v,e,e2,dn⟩ <;> cases e
 rw[f]at m;rcases jw c m with e|⟨d',v,e,e2,dn⟩ <;> cases e
end
def CD(ds:Pe)(ix:OM)(g:DG)(tt:DT)(te:DE)(env:Pf)(R:Sl->Pf->Prop):Prop:=∃W:Nat->Pe->Prop,W 0 [] /\
 (∀i rs,(h:i< -ds)->W i rs->-rs<sizeLine/\g ds[i] (jR ix env) λb1=>tt b1 λk b2=>if k=Pq then te b2 λs a=>∃d,aK a s=Po d/\W (i+1) (rs++[d]) else W (i+1) rs)/\∀rs,W (-ds) rs->R (.ow rs) env
def qC(it:DI)(ix:OM)(g:DG)(tt:DT)(te:DE):DE:=λenv R=>it env λds a=>CD ds ix g tt te a (dK R ⟨⟩)
section
variable{K:cp}
theorem qI{it:DI}{ix:OM}{g:DG}{tt:DT}{te:DE}:∀σ H Q,up K (qC it ix g tt te) σ H Q->yS (upI K it) ix (upG K g) (upT K tt) (up K te) σ H Q:=λσ H Q h=>by
 let(M,P,H0,σ0,env,ts,R,B,I,L):=h;show(M,P,H0,σ0,env,ts,_,B,I,λds f J H1 kp N r io=>?_);let(W,O,t,done):=N;show(λi m ys H=>m=-ds-i/\i<=-ds/\∃rs,W i rs/\DNs K (Nw M (aw σ f (ts++kp))) H ys rs/\Rel K M P H0 σ0 σ f (ts++kp) H,(_,rfl,Ln _,[],O,.nil,r),?_);rintro i m ys H2 ⟨rfl,S,rs,E,dns,j⟩;by_cases l:i< -ds;let(hz,tr):=t i rs l E;show .inr (io.go j i l,by rw[dns.len];show hz,λu H'=>∃n,W (i+1) n/\DNs K (Nw M (aw σ f (ts++kp))) H' u n/\Rel K M P H0 σ0 σ f (ts++kp) H',λu H' ⟨n,a,b,c⟩=>(-ds-(i+1),!0,rfl,l,n,a,b,c),λx H3 y=>?_);let(C,dn):=io.yld j i x H3 l y;let k:=j.same C;let T:=yk (ix:=ix) k;let oe:=qJ (ix:=ix) k;let U:∀b,Nw (Nw M (aw σ f (ts++kp))) (aw (fR σ ix) (jR ix f) []) b->Nw M (aw σ f (ts++kp)) b:=λb z=>by
  rcases z with z|z;show z;let V:aw (fR σ ix) (jR ix f) []=(fR σ ix).zip (jR ix f):=by simp[aw,tmp]
  rw[V,oe]at z;cases z
 show(_,_,_,_,jR ix f,[],ds[i],_,λw i m=>(by cases m),T,dn.to λb _ _ z=>U b z,tr,λX b1 H4 Y A=>?_);show(_,_,_,_,b1,[],_,A,Y,λZ b2 H5 F o=>?_);cases Z with
 |false =>
  let k5:aA H3 H5:=(o.e.keep.mono (M:=N0) λb z=>z).none;show(rs,F,dns.keep (aM.same (C.trans k5)),k.same k5)
 |true =>
  show(_,_,_,_,b2,[],_,o,F,λs b3 v H6 h6 q=>?_);let(d,kd,w6):=h6;let G:aA H3 H6:=(q.e.keep.mono (M:=N0) λb z=>z).none;let D:=q.kept (ts:=[]) (tt:=[]++[(v,s)]) (v:=v) (s:=s) (!1) kd;show(rs++[d],w6,(dns.keep (aM.same (C.trans G))).app (.cons (D.to λb _ _ z=>.inl z) .nil),k.same G)
 .let e:i=-ds:=!0
  subst e;show .inl (io.stop j,λp hp=>L _ _ _ _ (done _ E) (j.resOw hp dns))
end
section
variable{K:cp}{X:Cx}{N':Pi}{ix:OM}{sc:Qc}{tg iter elt:bi}{ifs:Pj}{pos:Pos}{it:DI}{g:DG}{tt:DT}{te:DE}
theorem C3(hc:X.calm=true)(S:bX X.N X.env N' ix sc)(hi:PI X tg iter (upI K it))
  (a:∀s H C fp,PG (bCx X N' sc s H C fp) tg (upG K g)) (b:∀s H C fp,PIf (bCx X N' sc s H C fp) ifs (upT K tt)) (c:∀s H C fp,PE (bCx X N' sc s H C fp) elt (up K te))
  (hs:(∀x,q4 iter X.env x=pure x)⊕'Pv):PE X (.ListComp elt [(tg,iter,ifs,0)] sc pos) (up K (qC it ix g tt te)):=(pL hc S hi a b c hs).imp qI
theorem sf{NN:Pi}{sc0:Qc}(hi:PI X tg iter (upI K it))
  (a:∀s H C fp,PG (bCx X N' sc s H C fp) tg (upG K g)) (b:∀s H C fp,PE (bCx X N' sc s H C fp) elt (up K te))
  (c:(∀s H C fp,PIf (bCx X N' sc s H C fp) ifs (upT K tt))⊕'PH) (hc:X.calm=true⊕'Pt) (h1:X.N=NN⊕'Pt) (h2:X.env.scope=sc0⊕'Pt) (d:bOk NN sc0 N' ix sc=true⊕'PC)
  (hs:(∀x,q4 iter X.env x=pure x)⊕'Pv):PE X (.ListComp elt [(tg,iter,ifs,0)] sc pos) (up K (qC it ix g tt te)):=(pL hc (oH h1 h2 d) hi a c b hs).imp qI
theorem A9{i:Nat}{t:TE}{c:DE}(h:∀σ H Q,up K c σ H Q->t σ H Q):∀D σ H,upS K (BX i c) D σ H->E7 t (jo i) D σ H:=λD σ H e=>by
 let(M,P,H0,σ0,env,ts,DD,nv,b,f,ok):=e;show h _ _ _ (M,P,H0,σ0,env,ts,_,b,f,λs1 d j H1 h1 a=>?_);let(s',hl,es,g):=h1;let(r,cs):=a.unVw es;show ok.nx _ _ _ g (r.store nv hl cs)
theorem iZ{NN:Pi}{sc0:Qc}(i:Nat){y:ck}{a d:Pos}(hN:X.N.Nodup)(hi:PI X tg iter (upI K it))
  (e:∀s H C fp,PG (bCx X N' sc s H C fp) tg (upG K g)) (f:∀s H C fp,PE (bCx X N' sc s H C fp) elt (up K te))
  (h:(∀s H C fp,PIf (bCx X N' sc s H C fp) ifs (upT K tt))⊕'PH) (hc:X.calm=true⊕'Pt) (h1:X.N=NN⊕'Pt) (h2:X.env.scope=sc0⊕'Pt) (j:bOk NN sc0 N' ix sc=true⊕'PC)
  (b:X.N[i]?=some y⊕'Pt) (k:X.env.scope.names.lookup y=some .local⊕'Pt) (c:Qv (.ListComp elt [(tg,iter,ifs,0)] sc pos) (some (.Name y d)) a.line X.env=pure true⊕'Pt)
  (hs:(∀x,q4 iter X.env x=pure x)⊕'Pv):PS X (.Assign [.Name y d] (.ListComp elt [(tg,iter,ifs,0)] sc pos) a) (upS K (BX i (qC it ix g tt te))):=(dg hN b k hc (oH h1 h2 j) hi e h f c hs).imp (A9 qI)
end
noncomputable def Ck:av->Option Bool
 |.none=>Po Pr
 |.bool b=>Po b
 |.int i=>Po (i != 0)
 |.list ds=>Po (!ds.isEmpty)
 |.tuple ds=>Po (!ds.isEmpty)
 |_=>Pp
section
variable{K:cp}{M P N:aG->Prop}{H0 H:Hp}{σ0 σ:St}{env:Pf}{ts:O0}{v:V}{s:Sl}{d:av}{X:Cx}{pos p:Pos}{e e1 e2 a:bi}{es:Pj}{te tj:DE}
theorem DNs.emp{vs:Pl}{ds:Pe}(q:DNs K N H vs ds):vs.isEmpty=ds.isEmpty:=by cases q <;> rfl
theorem Vw.tru(w:Vw K N H v d){k:Bool}(e:Ck d=Po k):H9 K v H k:=by
 cases d with
 |none=>cases e;rw[w.none];rfl
 |bool b=>cases e;rw[w.bool];rfl
 |int b=>cases e;rw[w.int];rfl
 |list ds =>
  cbv;cases e;let(a,vs,rfl,s,q):=w.list
  w_up;show .inl (vs,s,by rw[q.emp])
 |tuple ds =>
  cbv;cases e;let(a,vs,rfl,s,q):=w.tuple
  w_up;show .inr (.inl (vs,s,by rw[q.emp]))
 |_=>cases e
def xX(te:DE):DT:=λenv R=>te env λs a=>∃d k,aZ a s=Po d/\Ck d=Po k/\R k a
theorem zc(hK:X.K=K)(g:PE X a (up K te))(i:(∀b,Zg a X.env b=(do let v <-b;Qn a.pos;Qf [v] (ZM v)))⊕'Pv):PT X a (upT K (xX te)):=(By (K:=K) hK g i).imp λσ H Q h=>by
 let(M,P,H0,σ0,env,ts,R,e,j,l):=h;show(M,P,H0,σ0,env,ts,_,e,j,λs1 f m H1 h1 c=>?_);let(d,k,e1,e2,n):=h1;show(k,(c.view (v:=m) (!1) e1).tru e2,l _ _ _ n c.drop)
def jM:av->String
 |.none => "NoneType"
 |.bool _ => "bool"
 |.int _ => "int"
 |.str _ => "str"
 |.list _ => "list"
 |.tuple _ => "tuple"
 |.dict _ => "dict"
inductive oR (K:cp) (H:Hp):V->String->Prop
 |non:oR K H .non "NoneType"
 |bl (b:Bool):oR K H (.bl b) "bool"
 |int (b:Int):oR K H (.int b) "int"
 |str (b:ck):oR K H (.str b) "str"
 |lst {a:aG}{xs:Pl}:SqL K H a xs->oR K H (.ref a) "list"
 |tup {a:aG}{xs:Pl}:SqT K H a xs->oR K H (.ref a) "tuple"
theorem mi(hK:X.K=K):fU X (.builtin "isinstance") (λxs H Q=>∃(x:V) (t n:String) (b:Bool),xs=[x,.ty n]/\oR K H x t/\hG K (.type t) (.type n)=Po b/\Q (.bl b) H):=by
 subst hK;intro pins s σ H xs us Q I r h;let(x,t,n,b,rfl,ty,e,q):=h;let(u,w',rfl,c,d):=u8 r;cases (show w'=nN n from d);let fin:∀tk,EP X pins σ Q (.bool b) { s with toks:=tk }:=λtk=>(.bl b,H,I.tok tk,rfl,q)
 cases ty with
 |non=>cases (show u=dr from c);show me NI I.kIn True.intro e (λz=>nomatch z) fin
 |bl y=>cases (show u=r4 y from c);show me PySem.W.kitx_bool I.kIn True.intro e (λz=>nomatch z) fin
 |int i=>let(t,q):=(show ∃t,u=ir i t from c);cases q;show me PySem.W.kitx_int I.kIn True.intro e (λz=>nomatch z) fin
 |str y=>let(t,q):=(show ∃t,u=F2 y t from c);cases q;show me PySem.W.kitx_str I.kIn True.intro e (λz=>nomatch z) fin
 |@lst a xs hs =>
  cases (show u=di a from c);let(f,_,(o,g,h1,h2,_,_),_):=I.list hs;show me PySem.W.kitx_list I.kIn (o,h1,h2) e (λz=>nomatch z) fin
 |@tup a xs hs =>
  cases (show u=di a from c);let(f,_,(o,h1,h2,_),_):=I.tuple hs;show me PySem.W.kitx_tuple I.kIn (o,h1,h2) e (λz=>nomatch z) fin
def isK(n:String)(d:av):Bool:=(jM d==n) ||(n == "int" && jM d == "bool")
theorem xk(d:av):hG K (.type (jM d)) (.type "int")=Po (isK "int" d):=by cases d <;> rfl
theorem Ae(d:av):hG K (.type (jM d)) (.type "bool")=Po (isK "bool" d):=by cases d <;> rfl
theorem dW(d:av):hG K (.type (jM d)) (.type "list")=Po (isK "list" d):=by cases d <;> rfl
theorem fb(d:av):hG K (.type (jM d)) (.type "tuple")=Po (isK "tuple" d):=by cases d <;> rfl
theorem xj(d:av):hG K (.type (jM d)) (.type "str")=Po (isK "str" d):=by cases d <;> rfl
theorem Vw.kind(w:Vw K N H v d)(hd:∀kvs,d≠.dict kvs):oR K H v (jM d):=by
 cases d with
 |none=>rw[w.none];show .non
 |bool b=>rw[w.bool];show .bl b
 |int b=>rw[w.int];show .int b
 |str b=>rw[w.str];show .str b
 |list ds=>let(a,vs,rfl,s,q):=w.list;show .lst s
 |tuple ds=>let(a,vs,rfl,s,q):=w.tuple;show .tup s
 |dict kvs=>show absurd rfl (hd kvs)
def Dx:av->Bool
 |.dict _=>Pr
 |_=>Pq
theorem Dx.no{d:av}(h:Dx d=Pq):∀kvs,d≠.dict kvs:=λkvs e=>by subst e;cases h
def dIs(n:String)(te:DE):DE:=λenv R=>te env λs a=>∃d,aZ a s=Po d/\Dx d=Pq/\R (.fr (.bool (isK n d))) a
theorem lh{n:ck}{T:String}{c:Pos}(hK:X.K=K)(e:∀d,hG K (.type (jM d)) (.type T)=some (isK T d))(t:Gl X "isinstance")(u:X.mg "isinstance" = none)(f:Gl X n)(g:X.mg n=none)(i:Ql n=some (.type T))(x:PE X a (up K te))
  (q:kh [a,.Name n c] X.env=(false,eval a X.env)::kh [.Name n c] X.env⊕'Pt) (j:kh [.Name n c] X.env=(false,eval (.Name n c) X.env)::kh [] X.env⊕'Pt)
  (k:n ≠ "__name__"⊕'Pu) (l:(n==("__debug__" : ck))=false⊕'Pu) (m:(qr pos (kh [.Name n c] X.env)).any (·.1)=false⊕'Pt) :
  PE X (.Call (.Name "isinstance" p) [a,.Name n c] [] pos) (up K (dIs T te)) :=
 (cY (mi hK) t u h7 (ak x (ak (lz (v:=.ty T) f g i rfl k l) aH j) q) (!2) (!2) q m).imp λσ H Q h=>by
 let(M,P,H0,σ0,env,ts,R,o,y,z):=h;show(M,P,H0,σ0,env,ts,_,o,y,λs1 r s H1 h1 b=>?_);let(d,e1,nd,A):=h1;let w:=b.view (v:=s) (!1) e1;show(s,jM d,T,isK T d,rfl,w.kind (Dx.no nd),e d,z _ _ _ _ A (b.drop.addFr (.bl _)))
def xZ(i:Nat)(tj te:DE):DS:=λDD env=>te env λs b=>(∃ds,(b[i]?).bind pO=Po ds)/\tj b λe a=>∃d c ds z j s',aK a s=Po d/\aZ a e=Po (.int z)/\a[i]?=Po c/\pO c=Po ds/\ixN (-ds) z=Po j /\
 kY c (ds.set j d)=Po s'/\DD.nx (a.set i s')
theorem DNs.set:∀{vs:Pl}{ds:Pe}{x:V}{d:av} (j:Nat),DNs K N H vs ds->DN K N H x d->DNs K N H (vs.set j x) (ds.set j d)
 |_,_,_,_,_,.nil,_=>.nil
 |_,_,_,_,0,.cons _ q,h=>.cons h q
 |_,_,_,_,j+1,.cons g q,h=>.cons g (q.set j h)
theorem CU(i:Nat){y:ck}{npos b:Pos}{j:bi}(hN:X.N[i]?=some y)(hj:PE X j (up K tj))(A:PE X e (up K te))
  (hv:Vis X.env.scope y⊕'Pw) (hd:(y==("__debug__" : ck))=false⊕'Pu)
  (o:(y==("__classdict__" : ck))=false⊕'Pu)
  (B:(∀v,QV (.Subscript (.Name y npos) j b) X.env v=(do
   let ov <-Qf [v] (eval (.Name y npos) X.env)
   let iv <-Qf [v,ov] (eval j X.env)
   Qn b
   Qf [v,ov,iv] (ZJ ov iv v)
   release [v,ov,iv] []))⊕'Pv)
  (hs:Q3 [.Subscript (.Name y npos) j b] e pos.line X.env=pure false⊕'Pt) (hw:Q4 [.Subscript (.Name y npos) j b] e X.env=pure none⊕'Pt)
  (h1:(Qg [.Subscript (.Name y npos) j b] X.env).map (·.2)=[QV (.Subscript (.Name y npos) j b) X.env]⊕'Pt):PS X (.Assign [.Subscript (.Name y npos) j b] e pos) (upS K (xZ i tj te)) :=
 (mS A (mT (ah hN hv hd o) hj y4 B) hs hw h1).imp λD σ H h=>by
 let(M,P,H0,σ0,env,ts,DD,nv,p,C,ok):=h;show(M,P,H0,σ0,env,ts,_,p,C,λs1 l r H1 h1 f=>?_)
 cbv;let((E,h0),h1):=h1;let(O,F,G):=tV h0;let(a,vs,t,Q,_):=f.mine F G
 w_up;show(.ref a,t,M,P,H0,σ0,l,ts++[(r,s1)],_,f,h1,λs2 m w H2 h2 g=>?_)
 cbv;let(d,R,ds,z,x,s',k,I,e2,J,ix,es,L):=h2;let c:Rel K M P H0 σ0 σ m (ts++[(r,s1),(w,s2)]) H2:=by simpa using g
 let(a',us,n,u,q):=c.drop.mine e2 J;rw[t]at n;cases n
 w_up;let dn:=c.kept (v:=r) (s:=s1) (!1) k;show(a,us,z,x,rfl,(g.view (v:=w) (!1) I).int,u,by rw[q.len];show ix,ok.nx _ _ _ L (c.drop.mut (ds:=ds) e2 es t (q.set x dn)))
noncomputable def pj(env:Pf):Sl->Option Sl
 |.fr d=>Po (.fr d)
 |.ow l=>Po (.ow l)
 |.tr S d=>Po (.tr S d)
 |.vw i=>(env[i]?).bind λs=>match s with
  |.fr d=>Po (.fr d)
  |.ow l=>Po (.ow l)
  |_=>Pp
 |_=>Pp
noncomputable def ii:Sl->Sl
 |.io l=>.io l
 |_=>.un
def jQ(n:Nat)(env:Pf):Pf:=(env.take n).map ii
def nV(n:Nat)(R:Sl->Pf->Prop):gW where
 nx := λenv=>R (.fr .none) (jQ n env)
 rt := λs env=>∃r,pj env s=Po r/\R r (jQ n env)
def bd(n:Nat)(ss:Pf):Pf:=ss++LM (n- -ss) .un
theorem d9(m:Nat):∀{vs:Pl}{ss:Pf},-vs=-ss->(vs.map Po++LM m Pp).zip (ss++LM m Sl.un)=tmp (vs.zip ss)++LM m (Pp,Sl.un)
 |[],[],_=>by simp[tmp]
 |v::vs,s::ss,h=>by
  show(Po v,s)::(vs.map Po++LM m Pp).zip (ss++LM m Sl.un)=_;rw[d9 m (by simpa using h)];rfl
 |[],_::_,h=>by simp at h
 |_::_,[],h=>by simp at h
theorem lJ(m:Nat):oas (LM m ((Pp,Sl.un):Ent))=[]:=by unfold oas;rw[r0];intro e a;rw[(Mw.mp a).2];rfl
theorem xG:∀{vs:Pl}{σ:St}{env:Pf},-σ=-env->(∀(j:Nat) (l:Pe),env[j]?=Po (.io l)->j< -vs->σ[j]?=(vs[j]?).map Po)->(oas (tmp (vs.zip (jQ (-vs) env)))).Sublist (oas (σ.zip env))
 |[],σ,env,_,_=>by simp[tmp,oas]
 |v::vs,[],[],_,_=>by simp[tmp,oas,jQ]
 |v :: vs,x::σ,s::env,hl,h=>by
  let ih:=xG (vs:=vs) (σ:=σ) (env:=env) (by simpa using hl) λj l e hj=>by
   let:=h (j+1) l (by simpa using e) (by simpa using hj);simpa using this
  show(oas ((Po v,ii s)::tmp (vs.zip (jQ (-vs) env)))).Sublist (oas ((x,s)::σ.zip env));rw[ad,ad];cases s with
  |io l =>
   let a:=h 0 l rfl (!1);simp at a;subst a;show List.Sublist.append (Na _) ih
  |_ =>
   simp only[ii,bP];show ih.trans (M6 _ _)
 |_::_,[],_::_,hl,_=>by simp at hl
 |_::_,_::_,[],hl,_=>by simp at hl
theorem Rel.fin{vs:Pl}{r:Sl}{n:Nat}(a:Rel K M P H0 (bq N' vs) σ env [(Pm v r)] H)(hn:n=-vs)(u:jO r=Pq):aS K M P H0 (tmp ((Pm v r)::vs.zip (jQ n env))) H:=by
 subst hn;let b:∀(j:Nat) (l:Pe),env[j]?=Po (.io l)->j< -vs->σ[j]?=(vs[j]?).map Po:=λj l e hj=>by
  rw[a.ios j l e];unfold bq;rw[L1 (by simpa using hj),LD]
 let f:=a.e;show f.sub (λx s m=>?_) ?_
 .rw[rp]at m;rcases K9.mp m with m|m;cases m;show .inl (eY (!1))
  .cbv;let((w,s'),m1,e):=Lo.mp m;cases e;let(j,hj,e):=LC m1
   w_up;rw[Ma]at e;let c:=hj;rw[L4]at c;let e1:vs[j]'(!0)=w:=(ip e).1;let e2:(jQ (-vs) env)[j]'(!0)=s':=(ip e).2;let d:j< -env:=by
    let:(jQ (-vs) env).length=min (-vs) (-env):=by simp[jQ]
    lia
   let e3:s'=ii env[j]:=by rw[<-e2];simp[jQ]
   cases q:env[j] with
   |io l =>
    rw[q]at e3
    cbv;subst e3;let g:env[j]?=Po (.io l):=by rw[K8 d,q]
    let e4:=b j l g (!0);let(x,e5,h):=a.slot g;rw[e5,K8 (by lia:j< -vs),e1]at e4;let e4:x=Po w:=du e4;subst e4
    w_up;show .inl h
   |_=>rw[q]at e3;subst e3;show .inr (.inl rfl)
 let nd:=f.nd;let i:aw σ env [(Pm v r)]=σ.zip env++[(Pm (Po v) r)]:=rfl;rw[i,ac]at nd;let(k,o,p):=K6.mp nd;let sub:=xG a.len b;rw[rp,show((Pm (Po (Pm v r).1) ((Pm v r).2)):Ent)::tmp (vs.zip (jQ (-vs) env))=[(Pm (Po v) r)]++tmp (vs.zip (jQ (-vs) env)) from rfl,ac];show K6.mpr ⟨o,k.sublist sub,λx hx y t z=>p y (sub.subset t) x hx z.symm⟩
end
section
variable{K:cp}{M P:aG->Prop}{H0 H:Hp}{A B:O9}{σ0 σ:St}{env:Pf}{ts:O0}{v:V}{s:Sl}{d:av}
theorem Rel.take{i:Nat}{l:Pe}(h:Rel K M P H0 σ0 σ env [(v,.vw i)] H)(e:env[i]?=Po (.ow l)):Rel K M P H0 σ0 σ (env.set i .un) [(v,.ow l)] H:=by
 cbv;let(x,A,B,e1,q1,E):=h.split e;let ev:=h.vw v i (!1);rw[e1]at ev;let ev:x=Po v:=du ev;subst ev;let d:aw σ env [(v,.vw i)]=σ.zip env++[(Po v,.vw i)]:=rfl;let(F,e3,m2):=u5 h.len e
 w_up;let f:(σ.zip env)[i]?=Po (Po v,.ow l):=by rw[eB,e1,e];rfl
 let(g,k,n,o):=eZ f;let b:=h.e;rw[d,n]at b;let p:aw σ (env.set i .un) [(v,.ow l)]=(g++(Po v,.un)::k)++[(Po v,.ow l)]:=by show σ.zip (env.set i .un)++[(Po v,.ow l)]=_;rw[u4 e1,o]
 show(?_,by simp[h.len],λw j m=>(by rw[K7]at m;cases m),λj l' e'=>?_);rw[p];show b.sub (λx s m=>?_) ?_;rcases K2.mp m with m|m;rcases K2.mp m with m|m;show .inl (K1 _ (K1 _ m));rcases K9.mp m with m|m;cases m;show .inr (.inl rfl);show .inl (K1 _ (K0 _ (K5 _ m)));rw[K7]at m;cases m;show .inl (K1 _ (K0 _ K3));let nd:=b.nd;let ov:oas [(Po v,Sl.vw i)]=[]:=by rw[ad,jb];rfl
 rw[ac,ac,ad,ov,Ls]at nd;let q:oas [(Po v,Sl.ow l)]=cn (Po v,Sl.ow l):=by rw[ad];simp[oas]
 rw[ac,ac,ad,bP,q];let(r,t,c):=K6.mp nd;let(u,C,D):=K6.mp t;show K6.mpr (K6.mpr (r,C,λx hx y a=>c x hx y (K0 _ a)),u,λx hx y a z=>?_);subst z;rcases K2.mp hx with hx|hx;show c x hx x (K1 _ a) rfl;show D x a x hx rfl;by_cases hj:i=j;subst hj;rw[Lp (Lc.mp e).1]at e';cases e';rw[Lj hj]at e';show h.ios j l' e'
theorem Ee{i n:Nat}{l:Pe}(e:env[i]?=Po (.ow l)):jQ n (env.set i .un)=jQ n env:=by
 unfold jQ;apply F0;intro j;rw[LD,LD,N3,N3];by_cases hj:i=j;subst hj;rw[Lp (Lc.mp e).1,e];split <;> rfl
 rw[Lj hj]
theorem Rel.told{n:Nat}{r:Sl}(h:Rel K M P H0 σ0 σ env [(v,s)] H)(e:pj env s=Po r):∃env',Rel K M P H0 σ0 σ env' [(v,r)] H/\jQ n env'=jQ n env/\jO r=Pq:=by
 cases s with
 |fr d=>cases e;show(env,h,rfl,rfl)
 |tr S d=>cases e;show(env,h,rfl,rfl)
 |ow l=>cases e;show(env,h,rfl,rfl)
 |vw i =>
  let e:(env[i]?).bind _=Po r:=e;cases q:env[i]? with
  |none=>rw[q]at e;cases e
  |some s' =>
   rw[q]at e;cases s' with
   |fr d =>
    cases e;let hs:gF env (.vw i)=Po (.fr d):=by show((env[i]?).bind slK).map Sl.fr=_;rw[q];rfl
    let:=(Rel.unVw (ts:=[]) (by simpa using h) hs).1;show(env,by simpa using this,rfl,rfl)
   |ow l=>cases e;show(env.set i .un,h.take q,Ee q,rfl)
   |_=>cases e
 |_=>cases e
end
section
variable{P:ky}{w:kD}{K:cp}{mg:ck->O3}{base:cc}
theorem okD{x q:ck}{st:Stmt}{f:aG}{fd:kx}{N ps:Pi}{k:Nat}{sp:DSp}(F:Fun K x q st f fd)(S:ax N ps (af st))(len:∀ss R,sp ss R->-ss=-ps)(hN:-ps<=-N)
  (u:∀(cdv:ba) (A:Around) (outer:Pa) (s:bb) (H:Hp) (E:XK),bW k (A.deeper (QA q (af st) (~~~s) f cdv)) ->
   ∃t:DS,PSs (gC CX0 P w K mg base N q (af st) f cdv A outer s H E).nox (bA st) (upS K t)/\∀ss R,sp ss R->t (nV (-ps) R) (bd (-N) ss)):aY P w K mg base CX0 (k+1) f fd ps (spD K sp):=by
 show F.ok S (λvs H Q E h=>?_) λcdv A outer s H vs Q E y h=>?_;let(M,ss,R,hl,_,a,_):=h;rw[hl];show len ss R a;let(M,ss,R,hl,j,a,o):=h;let hn:=len ss R a;let(t,z,g):=u cdv A outer s H E y;let B:aw (bq N vs) (bd (-N) ss) []=tmp (vs.zip ss)++LM (-N- -vs) (Pp,Sl.un):=by show(bq N vs).zip (bd (-N) ss)++[]=_;unfold bq bd;rw[Ls,<-hl];show d9 _ hl
 show(_,z,M,oV vs ss,H,bq N vs,bd (-N) ss,[],nV (-ps) R,λw i m=>(by cases m),(?_,by simp[bq,bd,hl],λw i m=>(by cases m),λi l e=>rfl),g ss R a,(λσ' env' H' q r=>?_,λs env' v σ' H' q r=>?_,λσ' env' H' q r=>(show False from q),λσ' env' H' q r=>(show False from q)));rw[B];show j.sub (λx s m=>?_) (by rw[ac,lJ,Ls];show j.nd);rcases K2.mp m with m|m;show .inl m;let:=(Mw.mp m).2;cases this;show .inr (.inl rfl);let b:=(Rel.addFr r (v:=.non) (d:=.none) .non)
 let b:Rel K M (oV vs ss) H (bq N vs) σ' env' [(.non,.fr .none)] H':=by simpa using b
 show o _ _ _ _ q rfl (b.fin (!0) rfl);let(C,D,G):=q;let I:Rel K M (oV vs ss) H (bq N vs) σ' env' [(v,s)] H':=by simpa using r
 let(p,b,J,c):=I.told (n:=-ps) D;show o C _ v H' G c (by rw[<-J];show b.fin (!0) c)
theorem Kv{x:ck}{st:Stmt}{f:aG}{N ps:Pi}{k:Nat}{sp:DSp}{kV doc pm cdv ct oc:ba}{an od:O4}{osl:ON}
  (y:∀(A:Around) (outer:Pa) (s:bb) (H:Hp) (E:XK),bW k (A.deeper (QA x (af st) (~~~s) f cdv)) ->
   ∃t:DS,PSs (gC CX0 P w K mg base N x (af st) f cdv A outer s H E).nox (bA st) (upS K t)/\∀ss R,sp ss R->t (nV (-ps) R) (bd (-N) ss))
  (lk:K.lookup f=Po (oc,od,.func (hX x x (dc st) (bA st) (af st) .none kV doc pm an cdv ct),osl)) (g:nf K cdv x=Pq) (S:ax N ps (af st)) (len:∀ss R,sp ss R->-ss=-ps) (hN:-ps<=-N):aY P w K mg base CX0 (k+1) f (hX x x (dc st) (bA st) (af st) .none kV doc pm an cdv ct) ps (spD K sp):=by
 show Ec lk g S (λvs H Q E h=>?_) λA outer s H vs Q E z h=>?_;let(M,ss,R,hl,_,a,_):=h;rw[hl];show len ss R a;let(M,ss,R,hl,o,a,p):=h;let hn:=len ss R a;let(t,B,j):=y A outer s H E z;let C:aw (bq N vs) (bd (-N) ss) []=tmp (vs.zip ss)++LM (-N- -vs) (Pp,Sl.un):=by show(bq N vs).zip (bd (-N) ss)++[]=_;unfold bq bd;rw[Ls,<-hl];show d9 _ hl
 show(_,B.nox,M,oV vs ss,H,bq N vs,bd (-N) ss,[],nV (-ps) R,λw i m=>(by cases m),(?_,by simp[bq,bd,hl],λw i m=>(by cases m),λi l e=>rfl),j ss R a,(λσ' env' H' q r=>?_,λs env' v σ' H' q r=>?_,λσ' env' H' q r=>(show False from q),λσ' env' H' q r=>(show False from q)));rw[C];show o.sub (λx s m=>?_) (by rw[ac,lJ,Ls];show o.nd);rcases K2.mp m with m|m;show .inl m;let:=(Mw.mp m).2;cases this;show .inr (.inl rfl);let b:=(Rel.addFr r (v:=.non) (d:=.none) .non)
 let b:Rel K M (oV vs ss) H (bq N vs) σ' env' [(.non,.fr .none)] H':=by simpa using b
 show p _ _ _ _ q rfl (b.fin (!0) rfl);let(D,F,G):=q;let I:Rel K M (oV vs ss) H (bq N vs) σ' env' [(v,s)] H':=by simpa using r
 let(u,b,J,c):=I.told (n:=-ps) F;show p D _ v H' G c (by rw[<-J];show b.fin (!0) c)
theorem HZ{x:ck}{st:Stmt}{f:aG}{fd:kx}{k:Nat}{ps:Pi}{sp:DSp}(F:Fun K x x st f fd)(m:mg x=Po (.ref f))(b:bE K fd ps [])(G:aY P w K mg base CX0 k f fd ps (spD K sp)):Cal P w K mg base x k (spD K sp):=Cal.mk F m b G
end
section
variable{X:Cx}{x:ck}{p pos:Pos}{e:bi}{es:Pj}{k:Nat}{sp:DSp}{K:cp}{tl:DA}
theorem aQ(C:Cal X.prog X.w X.K X.mg X.base x k (spD K sp))(b:PA X (e::es) (upA K tl))(c:bW k X.A:=by exact bW.mono (by assumption) (!2))(d:Gl X x⊕'Pt)(hd:(x==("__debug__" : ck))=false⊕'Pu)
  (f:kh (e::es) X.env=(false,eval e X.env)::kh es X.env⊕'Pt) (a:(qr pos (kh es X.env)).any (·.1)=false⊕'Pt):PE X (.Call (.Name x p) (e::es) [] pos) (up K (yd sp tl)):=(dj C c d b hd f a).imp EZ
end
def Jo:G1:=λd R=>∃i,d=.int i/\R (.int (-(i)))
theorem HN{K:cp}:∀(N:aG->Prop) (H:Hp) (x:V) (d1:av) (R:av->Prop) (Q:VK),Vw K N H x d1->Jo d1 R->(∀d v,R d->DN K N H v d->Q v H)->(rU λi=>.int (-(i))) x H Q:=by rintro N H x d R Q w ⟨i,rfl,a⟩ b;show(i,w.int,b _ _ a (.int _))
abbrev li(ns:O7):Pe:=ns.map .int
theorem bR{ds:Pe}{g:DG}{tb:DS}{DD:gW}{env:Pf}(W:Nat->Pf->Prop)(h0:W 0 env)
  (hs:∀i env,(h:i<ds.length)->W i env->g ds[i] env λa=>tb { DD with nx:=dI (W (i+1)) ⟨⟩,ct:=dI (W (i+1)) ⟨⟩,bk:=DD.nx } a) (hd:∀env,W ds.length env->DD.nx env):FD ds g tb DD env:=(W,h0,hs,hd)
theorem iu{ds:Pe}{ix:OM}{g:DG}{te:DE}{env:Pf}{R:Sl->Pf->Prop}(f:Nat->av)(hz:-ds<=1000000)
  (h : ∀i,(h:i< -ds)->∀Q:av->Prop,Q (f i)->g ds[i] (jR ix env) λb1=>te b1 λs a=>∃d,aK a s=Po d/\Q d) (b:R (.ow ((dm (-ds)).map f)) env):CD ds ix g Ep te env R:=by show(λi rs=>rs=(dm i).map f/\i<=-ds,(rfl,Ln _),λi rs hi w=>?_,λrs w=>by rw[w.1];show b);let(rfl,_):=w;show(by rw[K4,LH];show Lg (!0) ar,?_);let:=h i hi (λd=>(dm i).map f++[d]=(dm (i+1)).map f/\i+1<=-ds) (by rw[Mm,Lw];rfl,hi);simpa only[Ep,if_true] using this
def Bg(i:Int):Prop:=i.natAbs<2 ^ 8000
def JW(i j:Int):Prop:=0<j/\Bg j
theorem Bg.log{j:Int}(h:Bg j):j.natAbs.log2<9000:=by by_cases h0:j.natAbs=0;rw[h0];decide;let h1:=Nat.log2_self_le h0;let h:j.natAbs<2 ^ 8000:=h;let h2:(2:Nat) ^ j.natAbs.log2<2 ^ 8000:=LW h1 h;let a:=(Nat.pow_lt_pow_iff_right (by decide:1<2)).mp h2;show Iv a (!2)
section
variable{X:Cx}{K:cp}
theorem zB:OpR X (QK .FloorDiv) (rI JW λi j=>.int (i / j)):=opI λi j Y Y Y Y Y hc q=>by
 show floordiv_int (Int.ne_of_gt hc.1) ?_ (.inl (PyProof.noPylong_of_log2 hc.2.log));rw[Nb _ (Int.le_of_lt hc.1)];show q
theorem i6(ns:O7):∀n,n<=-ns->preSum (λi=>ns.getD i 0) n=(ns.take n).sum
 | 0,_=>rfl
 |n+1,h=>by
  rw[preSum,i6 ns n (!0),Mz,List.sum_append,K8 (by lia:n< -ns)];simp[Lb,K8 (by lia:n< -ns)]
theorem jx(hK:X.K=K)(hc:X.calm=Pq):fU X (.builtin "sum") (λxs H Q=>∃(p:aG) (ns:O7),xs=[.ref p]/\SqL K H p (ns.map V.int)/\Q (.int ns.sum) H):=by
 subst hK;intro pins s σ H xs us Q I r h;let(p,ns,rfl,hs,q):=h;let(u,rfl,m):=jG r;cases (show u=di p from m);let(a,l,n,_):=I.list hs;let hl:=n.isList;let j:p<(~~~s):=by let(_,e,_):=hl;show Lh e
 let hsz:a.toArray.size=-ns:=by let:=-l;simp at this ⊢;lia
 let W:=(Walks.list (prog:=X.prog) (w:=X.w) (A:=X.A.in1) (I.ok.hd hc) (~~~s) p (Lr j) a.toArray).toS;rw[hsz]at W;show call_sum_walkAnyS (QZ hl ?_);show((~~~s),_,_,_,_,_,_,λi=>ns.getD i 0,rfl,W,((_,Lm _ rfl,rfl,rfl),hl.push _),λb d=>?_,λi v c=>?_,λs' t' g=>?_);rcases K9.mp d with rfl|d;show Lh (Lm _ rfl);obtain rfl:=K7.mp d;show Lh (La _ (id hl).choose_spec.1)
 .let c:a.toArray[i]?=Po v:=c;let c:a[i]?=Po v:=by simpa using c
  let hi:i< -a:=(Lc.mp c).1;let f:i< -ns:=by simp at hsz;lia
  cbv;let(u,e1,(t,e2)):=l.get (i:=i) (x:=.int ns[i]) (by rw[LD,K8 f];rfl);rw[c]at e1;cases e1
  w_up;show(t,?_);rw[e2];show _=ir (ns.getD i 0) t;rw[Lb,K8 f];rfl
 let(h',g',d',y,k):=s';let e1:g'=s.gens:=g.gens;let e2:d'=s.drawn:=g.drawn;let e3:k=s.os:=g.os;subst e1 e2 e3;let ep:=i6 ns (-ns) (Lf _);rw[ML]at ep;rw[ep];show(.int ns.sum,H,I.kept λb o e=>g.heap b o (λd=>absurd (Lh e) ((K7.mp d)▸L0 _)) (La _ e),(_,rfl),q)
def HP:GB:=λds R=>∃es ns,ds=[.list es]/\cj es=Po ns/\R (.int ns.sum)
theorem IV:tX K (λxs H Q=>∃(p:aG) (ns:O7),xs=[.ref p]/\SqL K H p (ns.map V.int)/\Q (.int ns.sum) H) HP:=by
 rintro N H xs ds R Q w ⟨es,ns,rfl,e1,b⟩ c;cases w with
 |cons d e =>
  cbv;cases e;let(a,vs,rfl,s,q):=d.list
  w_up;rw[dX e1]at q;rw[q.ints]at s;show(a,ns,rfl,s,c _ _ b (.int _))
end
theorem Bg.of{i:Int}(h1:-1000000000000000000000000000000000000000000000<=i)(h2:i<=1000000000000000000000000000000000000000000000):Bg i:=by
 let h:i.natAbs<2 ^ 200:=by
  let:(2:Nat) ^ 200=1606938044258990275541962092341162602522202993782792835301376:=!2
  rw[this];lia
 show Lg h (Mq (!2) (!2))
section
variable(env:Pf) (d:av) (l:Pe) (i n:Nat) (s:Sl) (R:Sl->Pf->Prop)
theorem rm:aZ env (.fr d)=Po d:=rfl
theorem rg:aZ env (.ow l)=Po (.list l):=rfl
theorem rh:aZ env (.io l)=Po (.list l):=rfl
theorem q9:aZ env (.vw i)=(env[i]?).bind slD:=rfl
theorem A8:slD (.fr d)=Po d:=rfl
theorem A6:slD (.ow l)=Po (.list l):=rfl
theorem A7:slD (.io l)=Po (.list l):=rfl
theorem A4:slD .un=Pp:=rfl
theorem A5{S:Pg}{kvs:List (av×av)}:slD (.tr S (.dict kvs))=Po (.dict kvs):=rfl
theorem rf{S:Pg}{kvs:List (av×av)}:aZ env (.tr S (.dict kvs))=Po (.dict kvs):=rfl
theorem A3:slK (.fr d)=Po d:=rfl
theorem A0:slK (.ow l)=Pp:=rfl
theorem A1:slK (.io l)=Pp:=rfl
theorem AZ:slK .un=Pp:=rfl
theorem nA:aK env (.fr d)=Po d:=rfl
theorem nu:aK env (.ow l)=Po (.list l):=rfl
theorem nr:aK env (.vw i)=(env[i]?).bind slK:=rfl
theorem rD:gF env (.fr d)=Po (.fr d):=rfl
theorem rC:gF env (.ow l)=Po (.ow l):=rfl
theorem rB{S:Pg}:gF env (.tr S d)=Po (.tr S d):=rfl
theorem rY{S:Pg}:pj env (.tr S d)=Po (.tr S d):=rfl
theorem nt{S:Pg}:aK env (.tr S d)=Po d:=rfl
theorem rA:gF env (.vw i)=((env[i]?).bind slK).map .fr:=rfl
def Ix:Sl->Option Sl
 |.fr d=>Po (.fr d)
 |.ow l=>Po (.ow l)
 |_=>Pp
theorem r6:pj env (.fr d)=Po (.fr d):=rfl
theorem rZ:pj env (.ow l)=Po (.ow l):=rfl
theorem rX:pj env (.vw i)=(env[i]?).bind Ix:=by
 show(env[i]?).bind _=_
 congr 1
theorem vN:Ix (.fr d)=Po (.fr d):=rfl
theorem vM:Ix (.ow l)=Po (.ow l):=rfl
theorem nL:ii (.fr d)=.un:=rfl
theorem nJ:ii (.ow l)=.un:=rfl
theorem nK:ii (.io l)=.io l:=rfl
theorem nI:ii .un=.un:=rfl
theorem tG:(nV n R).rt s env=∃r,pj env s=Po r/\R r (jQ n env):=rfl
theorem tH:(nV n R).nx env=R (.fr .none) (jQ n env):=rfl
theorem rN:kY (.ow l) d'=Po (.ow d'):=rfl
theorem rO:kY (.io l) d'=Po (.io d'):=rfl
theorem wG:pO (.ow l)=Po l:=rfl
theorem wH:pO (.io l)=Po l:=rfl
theorem wI:pO (.fr d)=Pp:=rfl
theorem wF:pO .un=Pp:=rfl
theorem tU:qK (Po (.fr d))=.fr d:=rfl
theorem tS:qK (Po (.ow l))=.un:=rfl
theorem tT:qK (Po (.io l))=.un:=rfl
theorem tR:qK (Po .un)=.un:=rfl
theorem oA:JN env Pp=.un:=rfl
theorem oz:JN env (Po i)=qK env[i]?:=rfl
theorem jX:iB (.list l)=Po l:=rfl
theorem iU:iB (.tuple l)=Po l:=rfl
theorem mr:Ck .none=Po Pr:=rfl
theorem mw(b:Bool):Ck (.bool b)=Po b:=rfl
theorem rn(i:Int):Ck (.int i)=Po (i != 0):=rfl
theorem mv:Ck (.list l)=Po (!l.isEmpty):=rfl
theorem jT:Ck (.tuple l)=Po (!l.isEmpty):=rfl
theorem nC:ku .none=Pq:=rfl
theorem sU(i:Int):ku (.int i)=Pr:=rfl
theorem nG(i:Bool):ku (.bool i)=Pr:=rfl
theorem nF:ku (.list l)=Pr:=rfl
theorem kt:ku (.tuple l)=Pr:=rfl
theorem xx(i:Int):isK "int" (.int i)=Pq:=rfl
theorem sW(b:Bool):isK "bool" (.bool b)=Pq:=rfl
theorem BM(b:Bool):isK "int" (.bool b)=Pq:=rfl
theorem BO(i:Int):isK "bool" (.int i)=Pr:=rfl
theorem sV:isK "list" (.list l)=Pq:=rfl
theorem nH:isK "tuple" (.tuple l)=Pq:=rfl
theorem BG:isK "list" (.tuple l)=Pr:=rfl
theorem BB:isK "tuple" (.list l)=Pr:=rfl
theorem BK:isK "int" .none=Pr:=rfl
theorem BN:isK "bool" .none=Pr:=rfl
theorem jl:bh env []=Po []:=rfl
theorem ig(s:Sl)(ss:Pf):bh env (s::ss)=(aK env s).bind λd=>(bh env ss).bind λds=>Po (d::ds):=rfl
theorem jS:fX env []=Po []:=rfl
theorem iP(s:Sl)(ss:Pf):fX env (s::ss)=(aZ env s).bind λd=>(fX env ss).bind λds=>Po (d::ds):=rfl
theorem tz(i j:Int):fI (.int i) (.int j)=decide (i=j):=by show(i==j)=_;by_cases h:i=j <;> simp[h]
end
theorem Cb{α:Type}(x:α)(l:List α):atI (x::l) 0=Po x:=bx (j:=0) rfl
theorem Ca{α:Type}(x y:α)(l:List α):atI (x::y::l) 1=Po y:=bx (j:=1) rfl
theorem B9{α:Type}(x y z:α)(l:List α):atI (x::y::z::l) 2=Po z:=bx (j:=2) rfl
theorem B7{α:Type}(a b c d x:α)(l:List α):atI (a::b::c::d::x::l) 4=Po x:=bx (j:=4) rfl
theorem B6{α:Type}(a b c d e x:α)(l:List α):atI (a::b::c::d::e::x::l) 5=Po x:=bx (j:=5) rfl
theorem B5{α:Type}(a b c d e f x:α)(l:List α):atI (a::b::c::d::e::f::x::l) 6=Po x:=bx (j:=6) rfl
theorem B4{α:Type}(a b c d e f g x:α)(l:List α):atI (a::b::c::d::e::f::g::x::l) 7=Po x:=bx (j:=7) rfl
theorem tu:fI .none .none=Pq:=rfl
theorem BT(i:Int):fI .none (.int i)=Pr:=rfl
theorem BU(i:Int):fI (.int i) .none=Pr:=rfl
theorem vB(i:Int):shp (.int i)=True:=by simp[shp,pB,eN,su]
theorem rL:shp .none=True:=by simp[shp,pB,eN,su]
theorem rM(b:Bool):shp (.bool b)=True:=by simp[shp,pB,eN,su]
theorem B8{α:Type}(x y z u:α)(l:List α):atI (x::y::z::u::l) 3=Po u:=bx (j:=3) rfl
theorem GK{K:cp}{H:Hp}{a:aG}{ns:O7}{E:XK}(c:SqL K H a (ns.map V.int)){sp:DSp}(h:sp [.fr (.list (li ns))] (λr Y=>r=.fr (.bool Pq))):spD K sp [.ref a] H (λv Y=>v=.bl Pq) E:=by
 let dns:DNs K (λY=>False) H [.ref a] [.list (li ns)]:=.cons (DN.sqL c) .nil;show(λY=>False,[.fr (.list (li ns))],_,rfl,kG (ds:=[.list (li ns)]) dns (λa z=>z.elim),h,λr d v H' f Y b=>?_)
 cbv;subst f;let(w,e,dn):=b.fr _ _ K3;cases e;cases dn
 w_up;rfl
theorem Ic{l:ry}{q:ky}{e:Pi}{m:(ck->O3)->cc->Prop}{o:kD->cc->Prop}{d:DefRec}{K:Params->cp}{sp:DSp}{k:Nat}(hk:k<=40)(hn:l.most=some 63)(g:d.params.defaults=[])
  (i:∀ns:O7,ns.length<=63->sp [.fr (.list (li ns))] (λr Y=>r=.fr (.bool true)))
  (j:∀(w:kD) (s₀:bb) (mg mb:ck->O3) (h:cc),MQ q e [] m w s₀ mg mb h->(K w.params).In h->∃tb:List (aG×ck),(∀b q,tb.lookup b=some q->h.get? b=some { cls:=.none,data:=.fields #[] }/\(K w.params).lookup b=none/\∃c,h.TableAt c b #[])/\∀T q,jC (K w.params) T q->tb.lookup T=some q)
  (p:∀(w:kD) (h:cc),o w h->(K w.params).In h)
  (F : ∀(w:kD) (mg:ck->O3) (fa:aG) (h:cc),(K w.params).In h->h.Ns kw mg->mg d.name=some (.ref fa) ->
   ∃fd:kx,(∀(s:bb) (u:ba),Zl s fd ([u],[]) [("_law_script",u)])/\∀base:cc,(K w.params).In base->base.Ns kw mg->aY l.prog w (K w.params) mg base CX0 k fa fd ["_law_script"] (spD (K w.params) sp)) :
  Ob q e m o l.row.toRowW d [] (λf vs=>wi f vs):=by show _L.Cj (n:=63) (k:=40) (x := "_law_script") (CX:=λY=>CX0) (sp:=λw=>spD (K w.params) sp) hn (!2) g (rfl,!2,!2) j p (λw mg fa h a b c=>?_) (λw H a ns hl Y t=>GK t (i ns hl)) λY Y Y Y Y z=>z;let(fd,h1,h2):=F w mg fa h a b c;show(fd,h1,λbase x y=>(h2 base x y).mono hk)
theorem iw{ns:O7}{k:Nat}(h:k< -ns):atI (li ns) (k:Int)=Po (.int (ns.getD k 0)):=bx (by
 rw[LD,K8 h,Lb,K8 h];rfl)
theorem sF{ns:O7}{i:Nat}(h:i<(li ns).length):(li ns)[i]=.int (ns.getD i 0):=by
 let h':i< -ns:=by simpa using h
 simp[Lb,K8 h']
theorem GI(ns:O7)(i:Nat)(x:Int):(li ns).set i (.int x)=li (ns.set i x):=by simp[OE]
theorem DJ(ns:O7)(x:Int):li ns++[.int x]=li (ns++[x]):=!1
theorem kE{i j:Int}(h0:-18446744073709551616<i)(h1:i<18446744073709551616):HG i j:=.inl (h0,h1)
theorem B1{i j:Int}(h0:-18446744073709551616<j)(h1:j<18446744073709551616):HG i j:=.inr (h0,h1)
@[irreducible] def dNx (u:DS):DS:=u
theorem BY(u:DS):dNx u=u:=by unfold dNx;rfl
theorem nx{u:DS}{DD:gW}{env:Pf}(h:u DD env):dNx u DD env:=by rw[BY];show h
theorem aj{X:Cx}{K:cp}{st:Stmt}{rest:O6}{t u:DS}(h1:PS X st (upS K t))(h2:PSs X rest (upS K u)):PSs X (st::rest) (upS K (Fc t (dNx u))):=by rw[BY];show eQ h1 h2
theorem JQ{P:ky}{w:kD}{K:cp}{mg:ck->O3}{base:cc}{x:ck}{st:Stmt}{f:aG}{fd:kx}{ps:Pi}(F:Fun K x x st f fd)(m:mg x=Po (.ref f))(b:bE K fd ps []):Cal P w K mg base x 0 (spD K λY Y=>False) :=
 Cal.mk F m b (λvs H Q E h=>by let(_,_,_,_,_,z,_):=h;show z.elim,λA outer s H args us vs Q E a c d r h=>by let(_,_,_,_,_,z,_):=h;show z.elim)
theorem BF(i:Int):isK "str" (.int i)=Pr:=rfl
theorem BE(l:Pe):isK "str" (.list l)=Pr:=rfl
theorem BC(l:Pe):isK "str" (.tuple l)=Pr:=rfl
theorem BL(l:Pe):isK "int" (.list l)=Pr:=rfl
theorem BI(l:Pe):isK "int" (.tuple l)=Pr:=rfl
mutual
def noL:av->Bool
 |.none=>Pq
 |.bool _=>Pq
 |.int _=>Pq
 |.str _=>Pq
 |.tuple ds=>gP ds
 |_=>Pr
def gP:Pe->Bool
 |[]=>Pq
 |d::ds=>noL d&&gP ds
end
section
variable{K:cp}{M P N:aG->Prop}{H0 H:Hp}{E T:O9}{σ0 σ:St}{env:Pf}{ts tt:O0}{v:V}{s:Sl}{d:av}
theorem DN.ot{v:V}{d:av}(h:DN K N H v d):noL d=Pq->OT K N H v d [] :=
  DN.rec (motive_1:=λv d Y=>noL d=Pq->OT K N H v d []) (motive_2:=λv d Y=>gP d=Pq->OTs K N H v d [])
  (λY=>.non) (λb Y=>.bl b) (λi Y=>.int i)
   (λx Y=>.str x)
  (λY Y Y e=>by simp[noL]at e) (λh Y i e=>.tup h (i (by simpa[noL] using e)))
   (λY Y e=>by simp[noL]at e)
  (λY Y Y Y Y Y Y e=>by simp[noL]at e) (λY Y Y Y Y e=>by simp[noL]at e) (λY Y Y Y Y Y Y e=>by simp[noL]at e) (λY Y e=>by simp[noL]at e) (λY=>.nil)
  (λ{_ _ d ds} _ _ i j e=>by
    let e:(noL d&&gP ds)=Pq:=e;rw[LX]at e;show .cons (S:=[]) (S':=[]) (i e.1) (j e.2)) h
theorem DNs.ots{v:Pl}{d:Pe}(h:DNs K N H v d):gP d=Pq->OTs K N H v d []:=DNs.ind (C:=λv d=>gP d=Pq->OTs K N H v d []) (λY=>.nil) (λ{_ _ d ds} h _ j e=>by
  let e:(noL d&&gP ds)=Pq:=e;rw[LX]at e;show .cons (S:=[]) (S':=[]) (h.ot e.1) (j e.2)) h
noncomputable def fzs:Pe->OP
 |[]=>Po []
 |.list l::ds=>(fzs ds).map (fzD l::·)
 |_::_=>Pp
theorem DNs.fzs:∀{vs:Pl}{ds ds':Pe},DNs K N H vs ds->fzs ds=Po ds'->OTs K N H vs ds' []
 |_,_,_,.nil,e=>by cases e;show .nil
 |_, d::ds,_,.cons h q,e=>by
  cases d with
  |list l =>
   let e:(_L.fzs ds).map (fzD l::·)=Po _:=e;cases e2:_L.fzs ds with
   |none=>rw[e2]at e;cases e
   |some ds2 =>
    rw[e2]at e;cases e;show .cons (S:=[]) (S':=[]) (.fz h) (DNs.fzs q e2)
  |_=>cases e
def slF(s:Sl):Option av:=match s with
 |.fr d=>if noL d=Pq then Po d else Pp
 |_=>Pp
def eF(env:Pf):Sl->Option av
 |.fr d=>if noL d=Pq then Po d else Pp
 |.ow ds=>if gP ds=Pq then Po (.list ds) else (fzs ds).map .list
 |.tr _ d=>Po d
 |.vw i=>(env[i]?).bind slF
 |_=>Pp
def bN(env:Pf):Pf->OP
 |[]=>Po []
 |s::ss=>(eF env s).bind λd=>(bN env ss).bind λds=>Po (d::ds)
theorem Rel.tree(h:Rel K M P H0 σ0 σ env ts H)(m:(v,s)∈ts)(e:eF env s=Po d):OT K (Nw M (aw σ env ts)) H v d (cn (Po v,s))/\∀a∈cn (Po v,s),H0 a=Pp:=by
 let mm:((Po v,s):Ent)∈aw σ env ts:=eY m;cases s with
 |fr d' =>
  by_cases c:noL d'=Pq
  .let e:(if noL d'=Pq then Po d' else Pp)=Po d:=e;rw[OG c]at e
   cbv;cases e;let(v',e1,dn):=h.e.fr _ _ mm;cases e1
   w_up;rw[dS];show(dn.ot c,λa f=>by cases f)
  let e:(if noL d'=Pq then Po d' else Pp)=Po d:=e;rw[OH c]at e;cases e
 |ow ds =>
  let e:(if gP ds=Pq then Po (eg ds) else (fzs ds).map .list)=Po d:=e;by_cases c:gP ds=Pq
  .rw[OG c]at e
   cbv;cases e;let(a,vs,e1,e2,dn,h0):=h.e.ow _ _ mm;cases e1
   w_up;show(.lst e2 (dn.ots c),λb g=>by rw[K7.mp g];show h0)
  .rw[OH c]at e;cases e3:fzs ds with
   |none=>rw[e3]at e;cases e
   |some ds' =>
    rw[e3]at e
    cbv;cases e;let(a,vs,e1,e2,dn,h0):=h.e.ow _ _ mm;cases e1
    w_up;show(.lst e2 (dn.fzs e3),λb g=>by rw[K7.mp g];show h0)
 |tr S d' =>
  cbv;cases e;let(v',e1,ot,h0):=h.e.tr _ _ _ mm;cases e1
  w_up;rw[am];show(ot,h0)
 |vw i =>
  let e:(env[i]?).bind slF=Po d:=e;cases q:env[i]? with
  |none=>rw[q]at e;cases e
  |some s' =>
   rw[q]at e;cases s' with
   |fr d' =>
    let e:(if noL d'=Pq then Po d' else Pp)=Po d:=e;by_cases c:noL d'=Pq
    .rw[OG c]at e
     cbv;cases e;let(x,e1,m1):=h.slot q;let(v',e2,dn):=h.e.fr _ _ m1;let e3:=h.vw v i m;rw[e1,e2]at e3;cases e3
     w_up;rw[jb];show(dn.ot c,λa f=>by cases f)
    rw[OH c]at e;cases e
   |_=>cases e
 |_=>cases e
theorem Rel.trees(h:Rel K M P H0 σ0 σ env ts H):∀{vs:Pl}{ss:Pf}{ds:Pe},-vs=-ss->(∀p∈vs.zip ss,p∈ts)->bN env ss=Po ds->OTs K (Nw M (aw σ env ts)) H vs ds (oas (tmp (vs.zip ss)))/\∀a∈oas (tmp (vs.zip ss)),H0 a=Pp
 |[],[],_,_,_,e=>by cases e;show(.nil,λa b=>by cases b)
 |v :: vs,s::ss,ds,hl,c,e=>by
  unfold bN at e;cases e1:eF env s with
  |none=>rw[e1]at e;cases e
  |some d =>
   rw[e1]at e;cases e2:bN env ss with
   |none=>rw[e2]at e;cases e
   |some ds' =>
    rw[e2]at e
    cbv;cases e;let(a1,a2):=h.tree (v:=v) (c (v,s) (!1)) e1;let(b1,b2):=h.trees (vs:=vs) (ss:=ss) (by simpa using hl) (λp f=>c p (by simp[f])) e2
    w_up;let oe:oas (tmp ((v::vs).zip (s::ss)))=cn (Po v,s)++oas (tmp (vs.zip ss)):=ad _ _;rw[oe];show(.cons a1 b1,λa b=>(K2.mp b).elim (a2 a) (b2 a))
 |[],_::_,_,hl,_,_=>by simp at hl
 |_::_,[],_,hl,_,_=>by simp at hl
theorem aS.fold(h:aS K M P H0 (E++T) H)(ot:OT K (Nw M (E++T)) H v d (oas T))(h0:∀a∈oas T,H0 a=Pp):aS K M P H0 (E++[(Pm (Po v) (.tr (oas T) d))]) H:=by
 let oe:oas (E++[(Pm (Po v) (Sl.tr (oas T) d))])=oas (E++T):=by rw[ac,ac,ad,am];simp[oas]
 let ne:Nw M (E++[(Pm (Po v) (Sl.tr (oas T) d))])=Nw M (E++T):=by unfold Nw;rw[oe]
 let old:∀x s,(Pm x s)∈E++[(Pm (Po v) (Sl.tr (oas T) d))]->(Pm x s)∈E++T\/(Pm x s)=(Pm (Po v) (Sl.tr (oas T) d)):=λx s m=>by
  rcases K2.mp m with m|m;show .inl (K1 _ m);show .inr (K7.mp m)
 show⟨h.keep,h.live,h.mt,h.pm,λx d' m=>?_,λx d' m=>?_,λx d' m=>?_,λx S d' m=>?_,by rw[oe];show h.nd⟩;rw[ne];rcases old _ _ m with m|m;show h.fr x d' m;cases m;rw[ne];rcases old _ _ m with m|m;show h.ow x d' m;cases m;rw[ne];rcases old _ _ m with m|m;show h.io x d' m;cases m;rw[ne];rcases old _ _ m with m|m;show h.tr x S d' m;cases m;show⟨v,rfl,ot,h0⟩
theorem pP{p:aG}{o:HO}{vs:Pl}{ds:Pe}{S:Pg}(q:OTs K N H vs ds S)(b:H p=Pp):OTs K N (upd H p o) vs ds S:=q.keep (aM.same (aA.new b)) λa c=>by
 let(xs,z):=q.lives a c;rw[aA.new b _ _ z,z]
theorem Rel.resTupT(h:Rel K M P H0 σ0 σ env (ts++tt) H){p:aG}{vs:Pl}{ds:Pe}(b:H p=Pp)(q:OTs K (Nw M (aw σ env (ts++tt))) H vs ds (oas (tmp tt)))(h0:∀a∈oas (tmp tt),H0 a=Pp) :
  Rel K M P H0 σ0 σ env (ts++[(.ref p,.tr (oas (tmp tt)) (.tuple ds))]) (upd H p (.tup vs)):=by let c:=h.newAddr b;let h':=h.same (aA.new (o:=.tup vs) b);let d:=h'.e;rw[au]at d q c;show h'.drop.withRes (d.fold (.tup (SnT.of aq c) (pP q b)) h0) rfl
theorem aS.foldL(h:aS K M P H0 (E++T) H){p:aG}{vs:Pl}{ds:Pe}(c:H p=Pp)(q:OTs K (Nw M (E++T)) H vs ds (oas T))(j:∀a∈oas T,H0 a=Pp):aS K M P H0 (E++[(Pm (Po (.ref p)) (.tr (p::oas T) (.list ds)))]) (upd H p (.lst vs)):=by
 let oe:oas (E++[(Pm (Po (.ref p)) (Sl.tr (p::oas T) (.list ds)))])=oas E++p::oas T:=by rw[ac,ad,am];simp[oas]
 let g:p ∉ oas (E++T):=λz=>by
  let(vs',q,_):=h.own z;rw[c]at q;cases q
 let h0:H0 p=Pp:=by
  cases e:H0 p with
  |none=>rfl
  |some o=>show absurd c (h.live p (by rw[e];simp))
 let up:∀b o,H b=Po o->Nw M (E++[(Pm (Po (.ref p)) (Sl.tr (p::oas T) (.list ds)))]) b->Nw M (E++T) b:=λb o e z=>by
  rcases z with z|z;show .inl z;rw[oe]at z;rcases K2.mp z with z|z;show .inr (by rw[ac];show K1 _ z);rcases K9.mp z with z|z;rw[z,c]at e;cases e;show .inr (by rw[ac];show K0 _ z)
 let old:∀x s,(Pm x s)∈E++[(Pm (Po (.ref p)) (Sl.tr (p::oas T) (.list ds)))]->(Pm x s)∈E++T\/(Pm x s)=(Pm (Po (.ref p)) (Sl.tr (p::oas T) (.list ds))):=λx s m=>by
  rcases K2.mp m with m|m;show .inl (K1 _ m);show .inr (K7.mp m)
 let h':=h.same (aA.new (o:=.lst vs) c);show⟨h'.keep,h'.live,h.mt,h.pm,λx d' m=>?_,λx d' m=>?_,λx d' m=>?_,λx S d' m=>?_,?_⟩;rcases old _ _ m with m|m;let(v,e,dn):=h.fr x d' m;show⟨v,e,(dn.to up).keep (aM.same (aA.new c))⟩;cases m;rcases old _ _ m with m|m;let(a,i,e,e2,dn,r):=h.ow x d' m;show⟨a,i,e,aA.new c _ _ e2,(dn.to up).keep (aM.same (aA.new c)),r⟩;cases m;rcases old _ _ m with m|m;let(a,i,e,e2,dn,r):=h.io x d' m;show⟨a,i,e,aA.new c _ _ e2,(dn.to up).keep (aM.same (aA.new c)),r⟩;cases m;rcases old _ _ m with m|m;let(v,e,dn,r):=h.tr x S d' m;show⟨v,e,(dn.to up).keep (aM.same (aA.new c)) λa d=>by
  let(xs,z):=dn.lives a d;rw[aA.new c _ _ z,z],r⟩
 cases m;show⟨_,rfl,.lst aq (pP (q.to up) c),λa d=>(K9.mp d).elim (λz=>by rw[z];show h0) (j a)⟩;rw[oe];let nd:=h.nd;rw[ac]at nd g;let(k,l,n):=K6.mp nd;show K6.mpr ⟨k,Ll.mpr ⟨λz=>g (K0 _ z),l⟩,λa d b f z=>?_⟩;rcases K9.mp f with f|f;rw[f]at z;show g (K1 _ (z▸d));show n a d b f z
theorem Rel.resLstT(h:Rel K M P H0 σ0 σ env (ts++tt) H){p:aG}{vs:Pl}{ds:Pe}(c:H p=Pp)(q:OTs K (Nw M (aw σ env (ts++tt))) H vs ds (oas (tmp tt)))(h0:∀a∈oas (tmp tt),H0 a=Pp) :
  Rel K M P H0 σ0 σ env (ts++[(.ref p,.tr (p::oas (tmp tt)) (.list ds))]) (upd H p (.lst vs)):=by let b:=h.e;rw[au]at b q;show h.drop.withRes (b.foldL c q h0) rfl
end
section
variable{X:Cx}{K:cp}{pos:Pos}{es:Pj}{tl:DA}
def qu(t:DA):DE:=λenv R=>t env λss a=>∃ds,bN a ss=Po ds/\ss.length<=sizeLine/\∀S,R (.tr S (.tuple ds)) a
theorem j4{x1}(h:PA X es (upA K tl)):PE X (.Tuple es x1 pos) (up K (qu tl)):=(hJ h).imp λσ H Q h=>by
 let(M,P,H0,σ0,env,ts,R,b,f,g):=h;show(M,P,H0,σ0,env,ts,_,b,f,λss d vs H1 h1 hl a=>?_);let(ds,e,hz,i):=h1;let(q,h0):=a.trees hl (λp c=>K0 _ c) e;show(!0,λp c=>g _ _ _ _ (i _) (a.resTupT c q h0))
end
section
variable{K:cp}{M P:aG->Prop}{H0 H:Hp}{E:O9}{σ0 σ:St}{env:Pf}{ts:O0}{v:V}{s:Sl}{d:av}
theorem zQ{E E':O9}(p:E'.Perm E):(oas E').Perm (oas E):=List.Perm.flatMap_right _ p
theorem aS.perm(h:aS K M P H0 E H){E':O9}(p:E'.Perm E):aS K M P H0 E' H:=h.sub (λx s m=>.inl (p.mem_iff.mp m)) ((zQ p).nodup_iff.mpr h.nd)
theorem Rel.perm(h:Rel K M P H0 σ0 σ env ts H){a:O0}(p:a.Perm ts):Rel K M P H0 σ0 σ env a H :=
 (h.e.perm (fo _ (p.map _)),h.len,λv i m=>h.vw v i (p.mem_iff.mp m),h.ios)
theorem mx{env env':Pf}{s:Sl}(h:jO s=Pq):eF env s=eF env' s:=by cases s <;> first|rfl|cases h
theorem gE{env env':Pf}:∀{ss:Pf},(∀s∈ss,jO s=Pq)->bN env ss=bN env' ss
 |[],_=>rfl
 |s::ss,h=>by
  unfold bN;rw[mx (env':=env') (h s K3),gE λx hx=>h x (K5 _ hx)]
theorem jV{env:Pf}{d:av}{s:Sl}(e:eF env s=Po d):∀{ss:Pf}{ds:Pe},bN env ss=Po ds->bN env (ss++[s])=Po (ds++[d])
 |[],ds,h=>by
  cases h;show(eF env s).bind _=_;rw[e];rfl
 |z :: ss,ds,h=>by
  unfold bN at h;cases e1:eF env z with
  |none=>rw[e1]at h;cases h
  |some d1 =>
   rw[e1]at h;cases e2:bN env ss with
   |none=>rw[e2]at h;cases h
   |some ds' =>
    rw[e2]at h;cases h;show(eF env z).bind _=_;rw[e1];show(bN env (ss++[s])).bind _=_;rw[jV e e2];rfl
end
def CDT(ds:Pe)(ix:OM)(g:DG)(tt:DT)(te:DE)(env:Pf)(R:Sl->Pf->Prop):Prop:=∃W:Nat->Pe->Prop,W 0 [] /\
 (∀i rs,(h:i< -ds)->W i rs->-rs<sizeLine/\g ds[i] (jR ix env) λb1=>tt b1 λk b2=>if k=Pq then te b2 λs a=>∃s' d,gF a s=Po s'/\eF [] s'=Po d/\W (i+1) (rs++[d]) else W (i+1) rs)/\∀rs,W (-ds) rs->∀S,R (.tr S (.list rs)) env
def oj(it:DI)(ix:OM)(g:DG)(tt:DT)(te:DE):DE:=λenv R=>it env λds a=>CDT ds ix g tt te a (dK R ⟨⟩)
section
variable{K:cp}
theorem tQ{it:DI}{ix:OM}{g:DG}{tt:DT}{te:DE}:∀σ H Q,up K (oj it ix g tt te) σ H Q->yS (upI K it) ix (upG K g) (upT K tt) (up K te) σ H Q:=λσ H Q h=>by
 let(M,P,H0,σ0,env,ts,R,I,Y,Z):=h;show⟨M,P,H0,σ0,env,ts,_,I,Y,λds a J H1 kp hF r io=>?_⟩;let(W,w0,u,done):=hF
 let' O:Nat->Pl->Hp->Prop:=λi ys H=>∃rs ss,W i rs/\ys.length=-ss/\(∀s∈ss,jO s=Pq)/\bN [] ss=Po rs/\Rel K M P H0 σ0 σ a ((ts++ys.zip ss)++kp) H
 show⟨λi m ys H=>m=-ds-i/\i<=-ds/\O i ys H,⟨_,rfl,Ln _,[],[],w0,rfl,λs hs=>(by cases hs),rfl,by simpa using r⟩,?_⟩;rintro i m ys H2 ⟨rfl,a0,rs,ss,S,hl,G,k,f⟩;let rl:-ys=-rs:=by let(q,_):=f.trees hl (λp A=>K1 _ (K0 _ A)) ((gE G).trans k);show q.len
 by_cases l:i< -ds;let(hz,tr):=u i rs l S;show .inr ⟨io.go f i l,by rw[rl];show hz,λB H'=>O (i+1) B H',λB H' z=>⟨-ds-(i+1),!0,rfl,l,z⟩,λx H3 y=>?_⟩;let(sm,dn):=io.yld f i x H3 l y;let c:=f.same sm;let rb:=yk (ix:=ix) c;let oe:=qJ (ix:=ix) c;let nb:∀b,Nw (Nw M (aw σ a ((ts++ys.zip ss)++kp))) (aw (fR σ ix) (jR ix a) []) b->Nw M (aw σ a ((ts++ys.zip ss)++kp)) b:=λb z=>by
  rcases z with z|z;show z;let ee:aw (fR σ ix) (jR ix a) []=(fR σ ix).zip (jR ix a):=by simp[aw,tmp]
  rw[ee,oe]at z;cases z
 show⟨_,_,_,_,jR ix a,[],ds[i],_,λw i m=>(by cases m),rb,dn.to λb V V z=>nb b z,tr,λC b1 H4 h4 D=>?_⟩;show⟨_,_,_,_,b1,[],_,D,h4,λkk b2 H5 U n=>?_⟩;cases kk with
 |false =>
  let k5:aA H3 H5:=(n.e.keep.mono (M:=N0) λb z=>z).none;show⟨rs,ss,U,hl,G,k,c.same k5⟩
 |true =>
  show⟨_,_,_,_,b2,[],_,n,U,λs X v L h6 o=>?_⟩;let(s',d,es,td,w6):=h6;let k6:aA H3 L:=(o.e.keep.mono (M:=N0) λb z=>z).none;let(E,N):=o.unVw (ts:=[]) es;let rk:d8 K (Nw M (aw σ a ((ts++ys.zip ss)++kp))) H3 L v s':=by
   let e7:=E.e;rw[show aw C X ([]++[(Pm v s')])=aw C X []++tmp [(Pm v s')] from au]at e7;let e8:aS K _ _ H3 [(Pm (Po v) s')] L:=e7.sub (λx t m=>.inl (K0 _ m)) (by
    let nd:=e7.nd;rw[ac]at nd;show(K6.mp nd).2.1)
   show aS.resOk (T:=[]) e8 N
  let F:=c.withRes (c.e.called k6 rk) N;show⟨rs++[d],ss++[s'],w6,by simp[hl],λt j=>?_,jV td k,?_⟩;rcases K2.mp j with j|j;show G t j;rw[K7.mp j];show N;rw[List.zip_append hl];show F.perm ?_;let:ts++(ys.zip ss++[v].zip [s'])++kp=(ts++ys.zip ss)++([(Pm v s')]++kp):=!1
  rw[this];let e9:ts++ys.zip ss++kp++[(Pm v s')]=(ts++ys.zip ss)++(kp++[(Pm v s')]):=!1
  rw[e9];show fo _ Ml
 .let e:i=-ds:=!0
  subst e;show .inl ⟨io.stop f,λp A=>?_⟩;let c:=f.drop;let(q,h0):=c.trees hl (λp A=>K0 _ A) ((gE G).trans k);show Z _ _ _ _ (done _ S _) (c.resLstT A q h0)
section
variable{X:Cx}{pos:Pos}{N':Pi}{ix:OM}{it:DI}{g:DG}{tt:DT}{te:DE}{tg iter elt:bi}{ifs:Pj}
theorem C2{sc}(hc:X.calm=true)(S:bX X.N X.env N' ix sc)(hi:PI X tg iter (upI K it))
  (a:∀s H C fp,PG (bCx X N' sc s H C fp) tg (upG K g)) (b:∀s H C fp,PIf (bCx X N' sc s H C fp) ifs (upT K tt)) (c:∀s H C fp,PE (bCx X N' sc s H C fp) elt (up K te))
  (hs:(∀x,q4 iter X.env x=pure x)⊕'Pv):PE X (.ListComp elt [(tg,iter,ifs,0)] sc pos) (up K (oj it ix g tt te)):=(pL hc S hi a b c hs).imp tQ
end
end
noncomputable def Bm(n:av):Pd->av->av
 |[],_=>n
 |i::p,.list ds=>.list (match ds[i]? with|some c=>ds.set i (Bm n p c)|none=>ds)
 |i::p,.tuple ds=>.tuple (match ds[i]? with|some c=>ds.set i (Bm n p c)|none=>ds)
 |_::_,d=>d
inductive yA (K:cp) (H:Hp):V->Pd->V->Prop
 |nil {v:V}:yA K H v [] v
 |cons {b:aG}{xs:Pl}{i:Nat}{x u:V}{p:Pd}:(SqL K H b xs\/SqT K H b xs)->xs[i]?=some x->yA K H x p u->yA K H (.ref b) (i::p) u
section
variable{K:cp}{N:aG->Prop}{H H':Hp}
theorem OTs.split{xs:Pl}{cs:Pe}{S:Pg}{i:Nat}{c:av}(h:OTs K N H xs cs S):cs[i]?=Po c->∃x S1 g S2,xs[i]?=Po x/\S=S1++(g++S2)/\OT K N H x c g /\
  ∀{N1:aG->Prop}{H':Hp}{c':av}{a:Pg},(∀b o,H b=Po o->N1 b->N b)->aM N1 H H'->(∀b∈S1,H' b=H b)->(∀b∈S2,H' b=H b)->OT K N1 H' x c' a->OTs K N1 H' xs (cs.set i c') (S1++(a++S2)):=by
 show OTs.ind (C:=λxs cs S=>∀i,cs[i]?=Po c->∃x S1 g S2,xs[i]?=Po x/\S=S1++(g++S2)/\OT K N H x c g /\
  ∀{N1:aG->Prop}{H':Hp}{c':av}{a:Pg},(∀b o,H b=Po o->N1 b->N b)->aM N1 H H'->(∀b∈S1,H' b=H b)->(∀b∈S2,H' b=H b)->OT K N1 H' x c' a->OTs K N1 H' xs (cs.set i c') (S1++(a++S2))) (λi h=>by simp at h) (λ{x xs d ds S S'} h q ih i e=>?_) h i
 cases i with
 |zero =>
  let e:d=c:=by simpa using e
  subst e;show(x,[],S,S',rfl,rfl,h,λ{N1 H' c' a} m k _ k2 o=>(show OTs K N1 H' (x::xs) (c'::ds) (a++S') from .cons o ((q.to m).keep k k2)))
 |succ i =>
  let(y,S1,g,S2,e1,e2,o,f):=ih i (by simpa using e);show(y,S++S1,g,S2,by simpa using e1,by rw[e2];simp,o,λ{N1 H' c' a} m k k1 k2 o'=>?_);let:=OTs.cons ((h.to m).keep k λb j=>k1 b (K1 _ j)) (f m k (λb j=>k1 b (K0 _ j)) k2 o');rw[LQ];show this
def Cd(K:cp)(N:aG->Prop)(H:Hp)(v:V)(p:Pd)(d:av)(S:Pg)(ds:Pe):Prop:=∃a us,yA K H v p (.ref a)/\H a=Po (.lst us)/\a∈S/\us.length=-ds /\
  ∀{N1:aG->Prop}{H1:Hp}{w:V}{e:av}{c:Pg},(∀b o,H b=Po o->N1 b->N b)->aA H H1->N1 a->OT K N1 (upd H1 a (.lst (us++[w]))) w e c->∃S',S'.Perm (S++c)/\OT K N1 (upd H1 a (.lst (us++[w]))) v (Bm (.list (ds++[e])) p d) S'
theorem OT.path0{v:V}{S:Pg}{ds:Pe}(o:OT K N H v (.list ds) S)(nd:S.Nodup):Cd K N H v [] (.list ds) S ds:=by
 cases o with
 |@lst a us _ c g q =>
  show(a,us,.nil,g,K3,q.len,λ{N1 H1 w e h} m d na oe=>?_);let(i,l):=Ll.mp nd;let j:OTs K N1 (upd H1 a (.lst (us++[w]))) us ds c:=(q.to m).keep ((aM.same d).trans (aM.own na)) λb f=>by
   let(xs,z):=q.lives b f;let k:b≠a:=λz=>i (z▸f);rw[ao k,d _ _ z,z]
  show(a::(c++(h++[])),!1,.lst aq (j.app (.cons oe .nil)))
end
section
variable{K:cp}{M P:aG->Prop}{H0 H:Hp}{T A B:O9}{v:V}{d:av}
theorem aS.appAtU{U:O9}{f:Hp}{S:Pg}{p:Pd}{ds:Pe}(F:aS K M P H0 (A++(Pm (Po v) (.tr S d))::(B++U)) f)(L:OT K (Nw M (A++(Pm (Po v) (.tr S d))::(B++U))) f v d S->S.Nodup->Cd K (Nw M (A++(Pm (Po v) (.tr S d))::(B++U))) f v p d S ds):∃a us,yA K f v p (.ref a)/\f a=Po (.lst us)/\us.length=-ds /\
  ∀{T:O9}{H:Hp}{w:V}{e:av},aA f H->(∀a∈oas T,f a=Pp\/a∈oas U)->aS K M P H0 (A++(Pm (Po v) (.tr S d))::(B++T)) H->OT K (Nw M (A++(Pm (Po v) (.tr S d))::(B++T))) H w e (oas T)->(∀a∈oas T,H0 a=Pp)->∃S',aS K M P H0 (A++(Pm (Po v) (.tr S' (Bm (.list (ds++[e])) p d)))::B) (upd H a (.lst (us++[w]))):=by
 cbv;let(v',ev,ot,h0):=F.tr _ _ _ (K0 _ K3);cases ev;let j:=F.nd;let k:oas (A++(Pm (Po v) (Sl.tr S d))::(B++U))=oas A++(S++(oas B++oas U)):=by rw[ac,ad,am,ac]
 rw[k]at j;let(a,us,r,N,l,hl,g):=L ot (K6.mp (K6.mp j).2.1).1
 w_up;show⟨a,us,r,N,hl,λ{T H w e} O Q h y R=>?_⟩;let oe:oas (A++(Pm (Po v) (Sl.tr S d))::(B++T))=oas A++(S++(oas B++oas T)):=by rw[ac,ad,am,ac]
 let nd:=h.nd;rw[oe]at nd
 cbv;let(Z,W,X):=K6.mp nd;let(n4,Y,G):=K6.mp W;let(n7,n8,n9):=K6.mp Y;let na:Nw M (A++(Pm (Po v) (Sl.tr S d))::(B++T)) a:=.inr (by rw[oe];show K0 _ (K1 _ l));let mm:∀b o,f b=Po o->Nw M (A++(Pm (Po v) (Sl.tr S d))::(B++T)) b->Nw M (A++(Pm (Po v) (Sl.tr S d))::(B++U)) b:=λb o I z=>by
  rcases z with z|z;show .inl z;rw[oe]at z;show .inr ?_;rw[k];rcases K2.mp z with z|z;show K1 _ z;rcases K2.mp z with z|z;show K0 _ (K1 _ z);rcases K2.mp z with z|z;show K0 _ (K0 _ (K1 _ z));rcases Q b z with C|C;rw[C]at I;cases I;show K0 _ (K0 _ (K0 _ C))
 let kN:aM (Nw M (A++(Pm (Po v) (Sl.tr S d))::(B++T))) H (upd H a (.lst (us++[w]))):=aM.own na;let D:=y.keep kN λb i=>ao λz=>G a l b (K0 _ i) z.symm;let(S',pm,E):=g mm O na D
 w_up;show⟨S',?_⟩;let n:oas (A++(Pm (Po v) (Sl.tr S' (Bm (.list (ds++[e])) p d)))::B)=oas A++(S'++oas B):=by rw[ac,ad,am]
 let s:(oas A++(S'++oas B)).Perm (oas A++(S++(oas B++oas T))):=by show fo _ ((M0 _ pm).trans ?_);rw[LQ];show fo _ Ml
 let ne:Nw M (A++(Pm (Po v) (Sl.tr S' (Bm (.list (ds++[e])) p d)))::B)=Nw M (A++(Pm (Po v) (Sl.tr S d))::(B++T)):=by funext b;apply propext;unfold Nw;rw[oe,n,s.mem_iff]
 let c:∀x t,(Pm x t)∈A\/(Pm x t)∈B->(Pm x t)∈A++(Pm (Po v) (Sl.tr S d))::(B++T):=λx t m=>by
  rcases m with m|m;show K1 _ m;show K0 _ (K5 _ (K1 _ m))
 let old:∀x t,(Pm x t)∈A++(Pm (Po v) (Sl.tr S' (Bm (.list (ds++[e])) p d)))::B->(Pm x t)=(Pm (Po v) (Sl.tr S' (Bm (.list (ds++[e])) p d)))\/((Pm x t)∈A\/(Pm x t)∈B):=λx t m=>by
  rcases K2.mp m with m|m;show .inr (.inl m);rcases K9.mp m with m|m;show .inl m;show .inr (.inr m)
 let other:∀x t b,(Pm x t)∈A\/(Pm x t)∈B->b∈cn (Pm x t)->b≠a:=λx t b m J z=>by
  subst z;rcases m with m|m;show X b (aL.mpr ⟨_,m,J⟩) b (K1 _ l) rfl;show G b l b (K1 _ (aL.mpr ⟨_,m,J⟩)) rfl
 show⟨h.keep.put (h0 a l),λb q z=>?_,h.mt,h.pm,λx d' m=>?_,λx d' m=>?_,λx d' m=>?_,λx S2 d' m=>?_,?_⟩;by_cases i:b=a;subst i;rw[aq]at z;cases z;rw[ao i]at z;show h.live b q z;rw[ne];rcases old _ _ m with m|m;cases m;let(w',e1,dn):=h.fr x d' (c _ _ m);show⟨w',e1,dn.keep kN⟩;rw[ne];rcases old _ _ m with m|m;cases m;let(b,us2,e1,e2,dn,u):=h.ow x d' (c _ _ m);subst e1;show⟨b,us2,rfl,by rw[ao (other _ _ b m (K7.mpr rfl))];show e2,dn.keep kN,u⟩;rw[ne];rcases old _ _ m with m|m;cases m;let(b,us2,e1,e2,dn,u):=h.io x d' (c _ _ m);subst e1;show⟨b,us2,rfl,by rw[ao (other _ _ b m (K7.mpr rfl))];show e2,dn.keep kN,u⟩;rw[ne];rcases old _ _ m with m|m;cases m;show⟨v,rfl,E,λb i=>?_⟩;rcases K2.mp (pm.mem_iff.mp i) with z|z;show h0 b z;show R b z;let(w',e1,dn,u):=h.tr x S2 d' (c _ _ m);subst e1;show⟨w',rfl,dn.keep kN λb i=>ao (other _ _ b m (by rw[am];show i)),u⟩;rw[n];show s.nodup_iff.mpr nd
end
section
variable{K:cp}{M P:aG->Prop}{H0 H H':Hp}{σ0 σ:St}{env:Pf}{ts:O0}
theorem Rel.setTr{i:Nat}{S S':Pg}{d d':av}{v:V}{A B:O9}(h:Rel K M P H0 σ0 σ env ts H)(e:env[i]?=Po (.tr S d))(a:aw σ (env.set i (.tr S' d')) ts=A++(Po v,.tr S' d')::B)(b:aS K M P H0 (A++(Po v,.tr S' d')::B) H'):Rel K M P H0 σ0 σ (env.set i (.tr S' d')) ts H':=by show(by rw[a];show b,by simp[h.len],h.vw,λj ds' e'=>?_);by_cases hj:i=j;subst hj;let hi:i< -env:=(Lc.mp e).1;rw[Lp hi]at e';cases e';rw[Lj hj]at e';show h.ios j ds' e'
end
section
variable{K:cp}{M P:aG->Prop}{H0 H:Hp}{σ0 σ:St}{env:Pf}{ts:O0}{s:Sl}
theorem Rel.setUn(h:Rel K M P H0 σ0 σ env ts H)(nv:yB ts){j:Nat}(hj:j< -env)(y:Pb):Rel K M P H0 σ0 (σ.set j y) (env.set j .un) ts H/\∀b,Nw M (aw (σ.set j y) (env.set j .un) ts) b->Nw M (aw σ env ts) b:=by
 let c:j<(σ.zip env).length:=by rw[L4,h.len];lia
 obtain⟨ent,a⟩:∃e,(σ.zip env)[j]?=Po e:=(_,K8 c)
 let(A,B,q1,f):=eZ a;let e1:aw σ env ts=A++ent::(B++tmp ts):=by unfold aw;rw[q1];simp
 let e2:aw (σ.set j y) (env.set j .un) ts=A++(y,.un)::(B++tmp ts):=by unfold aw;rw[qY,f];simp
 let d:=h.e;rw[e1]at d;show((by rw[e2];show aS.kill (x:=ent.1) (s:=ent.2) d,by simp[h.len],λw i m=>absurd m (nv w i),λi ds e=>?_),λb z=>?_);by_cases hi:j=i;subst hi;rw[Lp hj]at e;cases e;rw[Lj hi]at e;rw[Lj hi];show h.ios i ds e;rw[e2]at z;rw[e1];rcases z with z|z;show .inl z;show .inr ?_;rw[ac,ad,bP]at z;rw[ac,ad];rcases K2.mp z with z|z;show K1 _ z;show K0 _ (K0 _ z)
end
theorem dq(ns:O7):gP (ns.map fy)=Pq:=by
 induction ns with
 |nil=>rfl
 |cons n ns ih=>show ih
theorem EY{ds:Pe}{ix:OM}{g:DG}{te:DE}{env:Pf}{R:Sl->Pf->Prop}(f:Nat->av)(hz:-ds<=1000000)
  (h : ∀i,(h:i< -ds)->∀Q:av->Prop,Q (f i)->g ds[i] (jR ix env) λb1=>te b1 λs a=>∃s' d,gF a s=Po s'/\eF [] s'=Po d/\Q d) (b:∀S,R (.tr S (.list ((dm (-ds)).map f))) env):CDT ds ix g Ep te env R:=by show(λi rs=>rs=(dm i).map f/\i<=-ds,(rfl,Ln _),λi rs hi w=>?_,λrs w S=>by rw[w.1];show b S);let(rfl,_):=w;show(by rw[K4,LH];show Lg (!0) ar,?_);let:=h i hi (λd=>(dm i).map f++[d]=(dm (i+1)).map f/\i+1<=-ds) (by rw[Mm,Lw];rfl,hi);simpa only[Ep,if_true] using this
theorem jZ{α:Type}(l:List α)(z:α):(dm (-l)).map (λi=>l.getD i z)=l:=by show Mh (!1) λi h1 h2=>?_;simp[Lb,K8 h2]
theorem uk{α β:Type}(l:List α)(z:α)(g:α->β):(dm (-l)).map (λi=>g (l.getD i z))=l.map g:=by
 conv=>rhs;rw[<-jZ l z,LA]
 rfl
theorem gc{α β:Type}(l:List α)(z:α)(p:α->Bool)(g:α->β):((dm (-l)).filter λi=>p (l.getD i z)).map (λi=>g (l.getD i z))=(l.filter p).map g:=by
 conv=>rhs;rw[<-jZ l z,On,LA]
 rfl
abbrev lr(rs:OQ):Pe:=rs.map λr=>.list (li r)
theorem sC{rs:OQ}{i:Nat}{h:i<(lr rs).length}:(lr rs)[i]=.list (li (rs.getD i [])):=by
 let h':i< -rs:=by simpa using h
 rw[Mb,Lb,K8 h'];rfl
section
variable{X:Cx}{K:cp}{pos:Pos}{es:Pj}{tl:DA}{e:bi}{ta:DE}{M P N:aG->Prop}{H0 H:Hp}{σ0 σ:St}{env:Pf}{ts:O0}
def x6(t:DA):DE:=λenv R=>t env λss a=>∃ds,bN a ss=Po ds/\ss.length<=sizeLine/\∀S,R (.tr S (.list ds)) a
theorem j6(h:PA X es (upA K tl)):PE X (.List es pos) (up K (x6 tl)):=(Bl h).imp λσ H Q h=>by
 let(M,P,H0,σ0,env,ts,R,b,f,g):=h;show(M,P,H0,σ0,env,ts,_,b,f,λss d vs H1 h1 hl a=>?_);let(ds,e,hz,i):=h1;let(q,h0):=a.trees hl (λp c=>K0 _ c) e;show(!0,λp c=>g _ _ _ _ (i _) (a.resLstT c q h0))
def EV(i:Nat)(te:DE):DE:=λenv R=>(∃S ds,env[i]?=Po (.tr S (.list ds)))/\te env λs a=>∃S ds s' d,a[i]?=Po (.tr S (.list ds))/\gF a s=Po s'/\eF [] s'=Po d/\ds.length<sizeLine/\∀S',R (.fr .none) (a.set i (.tr S' (.list (ds++[d]))))
theorem Gf(i:Nat){y:ck}{apos cpos npos:Pos}(hK:X.K=K)(hN:X.N[i]?=some y)(I:PE X e (up K ta))
  (hv:Vis X.env.scope y⊕'Pw) (hd:(y==("__debug__" : ck))=false⊕'Pu)
  (C:(y==("__classdict__" : ck))=false⊕'Pu)
  (r:kh [e] X.env=[(false,eval e X.env)]⊕'Pt)
  (l:zp (.Name y npos) "append" X.env (eval (.Name y npos) X.env)=eval (.Name y npos) X.env⊕'Pt)
  (t:((qr cpos (kh [e] X.env)).all (λx=>!x.1)&&(Qq cpos (zz [] X.env)).all (λx=>x.1.isSome)&&decide ([e].length+([]:Pk).length+(if ([]:Pk).isEmpty then 0 else 1)<30))=true⊕'Pt)
  (m:(apos.endLine==cpos.line)=true⊕'Pt) (j:(qr cpos (kh [] X.env)).any (·.1)=false⊕'Pt) :
  PE X (.Call (.Attribute (.Name y npos) "append" apos) [e] [] cpos) (up K (EV i ta)) :=
 (kBm (K:=K) hK ef h5 hY dw (ah hN hv hd C) (ak I aH r) l t m r j).imp λσ H Q h=>by
 cbv;let(M,P,H0,σ0,env,ts,R,n,((S0,J,L),O),T):=h;let(x,ex,U):=n.slot L;let(v,ev,D,_):=n.e.tr _ _ _ U;subst ev
 w_up;cases D with
 |@lst a vs _ Sq V qH =>
  show(.ref a,ex,.inl (rfl,vs,SqL.of V),M,P,H0,σ0,env,ts,_,n,O,λs1 u q H1 h1 f=>?_)
  cbv;let(S,ds,s',d,e1,es,W,hz,Y):=h1;let(k,Z):=f.unVw es;let(x',A,B,w,q1,q2):=f.drop.split e1;rw[ex]at w;cases w;let E:=k.e;let eA:aw σ u (ts++[(q,s')])=A++(Po (.ref a),Sl.tr S (.list ds))::(B++[(Po q,s')]):=by rw[au,q1];simp[tmp]
  let(ot,z):=k.tree (v:=q) (s:=s') (K0 _ K3) ((mx (env':=[]) Z).trans W);let oe:oas [((Po q,s'):Ent)]=cn (Po q,s'):=by rw[ad];simp[oas]
  rw[eA]at E ot;rw[<-oe]at ot z;let(b,us,rc,G,hl,g):=aS.appAtU (p:=[]) (ds:=ds) E λo nd=>o.path0 nd;cases rc;let(S',re):=g (aA.refl _) (λc hc=>.inr hc) E ot z
  w_up;show(a,us,q,rfl,rfl,G,by rw[hl];show hz,?_);show T _ _ _ _ (Y S') ((f.drop.setTr e1 (q2 _) re).addFr .non)
end
section
variable{K:cp}{N:aG->Prop}{H:Hp}
theorem OTs.takeDrop:∀{xs:Pl}{ds:Pe}{S:Pg} (k:Nat),OTs K N H xs ds S->∃S1 S2,S=S1++S2/\OTs K N H (xs.take k) (ds.take k) S1/\OTs K N H (xs.drop k) (ds.drop k) S2
 |_,_,S,0,q=>([],S,rfl,.nil,q)
 |_,_,_,_+1,.nil=>([],[],rfl,.nil,.nil)
 |_,_,_,k+1,.cons h q=>by
  let(S1,S2,e,q1,a):=q.takeDrop k;show(_,S2,by rw[e,LQ],.cons h q1,a)
end
section
variable{K:cp}{M P:aG->Prop}{H0 H H':Hp}{A B:O9}{v v':V}{d d':av}{S S':Pg}{y:Pb}
theorem pV:oas ((A++(y,Sl.un)::B)++[(Po v',Sl.tr S' d')])=oas A++(oas B++S'):=by rw[ac,ac,ad,bP,ad,am];simp[oas]
theorem wS(sub:∀b∈S',b∈S\/H b=Pp):∀b o,H b=Po o->Nw M ((A++(y,Sl.un)::B)++[(Po v',Sl.tr S' d')]) b->Nw M (A++(Po v,Sl.tr S d)::B) b:=λb o e z=>by
 rcases z with z|z;show .inl z;rw[pV]at z;show .inr ?_;rw[ac,ad,am];rcases K2.mp z with z|z;show K1 _ z;rcases K2.mp z with z|z;show K0 _ (K0 _ z);rcases sub b z with z|z;show K0 _ (K1 _ z);rw[z]at e;cases e
theorem aS.recut(h:aS K M P H0 (A++(Pm (Po v) (.tr S d))::B) H)(f:aA H H')(sub:∀b∈S',b∈S\/H b=Pp)(j:S'.Nodup)
  (k:OT K (Nw M ((A++(Pm y Sl.un)::B)++[(Pm (Po v') (Sl.tr S' d'))])) H' v' d' S'):aS K M P H0 ((A++(Pm y Sl.un)::B)++[(Pm (Po v') (Sl.tr S' d'))]) H':=by
 let up:=wS (M:=M) (A:=A) (B:=B) (y:=y) (v:=v) (v':=v') (d:=d) (d':=d') sub;let h':=h.same f;let oe:oas (A++(Pm (Po v) (Sl.tr S d))::B)=oas A++(S++oas B):=by rw[ac,ad,am]
 let nd:=h.nd;rw[oe]at nd
 cbv;let(p,t,n):=K6.mp nd;let(D,u,C):=K6.mp t;let(v0,ev,ot,h0):=h.tr _ _ _ (K0 _ K3);cases ev
 w_up;let old:∀x s,(Pm x s)∈(A++(Pm y Sl.un)::B)++[(Pm (Po v') (Sl.tr S' d'))]->(Pm x s)∈A++(Pm (Po v) (Sl.tr S d))::B\/(Pm x s)=(Pm y .un)\/(Pm x s)=(Pm (Po v') (.tr S' d')):=λx s m=>by
  rcases K2.mp m with m|m;rcases K2.mp m with m|m;show .inl (K1 _ m);rcases K9.mp m with m|m;show .inr (.inl m);show .inl (K0 _ (K5 _ m));show .inr (.inr (K7.mp m))
 let i:∀b,b∈oas (A++(Pm (Po v) (Sl.tr S d))::B)->H b≠Pp:=λb c z=>by
  let(vs,q,_):=h.own c;rw[z]at q;cases q
 show⟨h'.keep,h'.live,h.mt,h.pm,λx d' m=>?_,λx d' m=>?_,λx d' m=>?_,λx S2 d' m=>?_,?_⟩;rcases old _ _ m with m|m|m;let(v,e,dn):=h.fr x d' m;show⟨v,e,(dn.to up).keep (aM.same f)⟩;cases m;cases m;rcases old _ _ m with m|m|m;let(a,l,e,e2,dn,r):=h.ow x d' m;show⟨a,l,e,f _ _ e2,(dn.to up).keep (aM.same f),r⟩;cases m;cases m;rcases old _ _ m with m|m|m;let(a,l,e,e2,dn,r):=h.io x d' m;show⟨a,l,e,f _ _ e2,(dn.to up).keep (aM.same f),r⟩;cases m;cases m;rcases old _ _ m with m|m|m;let(v,e,dn,r):=h.tr x S2 d' m;show⟨v,e,(dn.to up).keep (aM.same f) λa g=>by
  let(xs,z):=dn.lives a g;rw[f _ _ z,z],r⟩
 cases m;cases m;show⟨_,rfl,k,λa g=>?_⟩;rcases sub a g with z|z;show h0 a z;cases e:H0 a with
 |none=>rfl
 |some o=>show absurd z (h.live a (by rw[e];simp))
 rw[pV];let far:∀b∈S',b ∉ oas A/\b ∉ oas B:=λb c=>by
  rcases sub b c with z|z;show⟨λw=>n b w b (K1 _ z) rfl,λw=>C b z b w rfl⟩;show⟨λw=>i b (by rw[oe];show K1 _ w) z,λw=>i b (by rw[oe];show K0 _ (K0 _ w)) z⟩
 show K6.mpr ⟨p,K6.mpr ⟨u,j,λa g b c z=>(far b c).2 (z▸g)⟩,λa g b c z=>?_⟩;rcases K2.mp c with c|c;show n a g b (K0 _ c) z;show(far b c).1 (z▸g)
end
section
theorem EX(xs:Pl)(k:Nat):yM xs Pp (Po (k:Int))=xs.take k:=by unfold yM;rw[HT.sIx_none,HT.sIx_nat,M3,Nat.sub_zero];by_cases h:k<=-xs;rw[MZ h];rw[MT (!0),LY (Lf _),LY (!0)]
theorem ye(xs:Pl)(k:Nat):yM xs (Po (k:Int)) Pp=xs.drop k:=by unfold yM;rw[HT.sIx_none,HT.sIx_nat];by_cases h:k<=-xs;rw[MZ h,LY (!1)];rw[MT (!0),Mi (Lf _),Mi (!0)];simp
end
def HM:Sl->Bool
 |.ow _=>Pq
 |.tr _ _=>Pq
 |.fr _=>Pq
 |_=>Pr
section
variable{X:Cx}{K:cp}{pos:Pos}{M P N:aG->Prop}{H0 H:Hp}{σ0 σ:St}{env:Pf}{ts:O0}{v:V}
theorem Rel.move{i:Nat}{s:Sl}(h:Rel K M P H0 σ0 σ env ts H)(e:env[i]?=Po s)(hs:HM s=Pq):∃v,σ[i]?=Po (Po v)/\Rel K M P H0 σ0 σ (env.set i .un) (ts++[(v,s)]) H:=by
 cbv;let(x,A,B,e1,q1,c):=h.split e;let b:=h.e;rw[q1]at b;obtain⟨v,ev⟩:∃v,x=Po v:=by
  cases s with
  |fr d=>let(v,ev,_):=b.fr _ _ (K0 _ K3);show(v,ev)
  |ow ds=>let(a,vs,ev,_):=b.ow _ _ (K0 _ K3);show(_,ev)
  |tr S d=>let(v,ev,_):=b.tr _ _ _ (K0 _ K3);show(v,ev)
  |_=>cases hs
 subst ev
 w_up;show(v,e1,?_);let f:aw σ (env.set i .un) (ts++[(v,s)])=(A++(Po v,Sl.un)::B)++[(Po v,s)]:=by rw[au,c];rfl
 let oe:oas ((A++(Po v,Sl.un)::B)++[(Po v,s)])=oas A++(oas B++cn (Po v,s)):=by rw[ac,ac,ad,bP,ad];simp[oas]
 show(?_,by simp[h.len],λw j m=>?_,λj l' e'=>?_);rw[f];show b.sub (λx t m=>?_) ?_;rcases K2.mp m with m|m;rcases K2.mp m with m|m;show .inl (K1 _ m);rcases K9.mp m with m|m;cases m;show .inr (.inl rfl);show .inl (K0 _ (K5 _ m));rw[K7]at m;cases m;show .inl (K0 _ K3);let nd:=b.nd;rw[ac,ad]at nd;rw[oe];show(fo _ Ml).nodup_iff.mpr nd;rcases K2.mp m with m|m;show h.vw w j m;rw[K7]at m;cases m;cases hs;by_cases hj:i=j;subst hj;rw[Lp (Lc.mp e).1]at e';cases e';rw[Lj hj]at e';show h.ios j l' e'
def JC(i:Nat):DE:=λenv R=>∃s,env[i]?=Po s/\HM s=Pq/\R s (env.set i .un)
theorem lg(i:Nat){x:ck}(hN:X.N[i]?=some x⊕'Pt)(hv:Vis X.env.scope x⊕'Pw)(hd:(x==("__debug__" : ck))=false⊕'Pu)
  (b:(x==("__classdict__" : ck))=false⊕'Pu):PE X (.Name x pos) (up K (JC i)):=(ah hN hv hd b).imp λσ H Q h=>by
 let(M,P,H0,σ0,env,ts,R,c,(s,e,hs,d),f):=h;let(v,e1,a):=c.move e hs;show(v,e1,f _ _ _ _ d a)
end
section
variable{X:Cx}{K:cp}
def D9:G2:=λd e R=>∃a b:ck,d=.str a/\e=.str b/\a.length+-b<=1000000/\R (.str (a++b))
theorem IX:dA K (λx y H Q=>∃i j,x=.str i/\y=.str j/\i.length+-j<=sizeLine/\Q (.str (i++j)) H) D9:=by rintro N H x y d e R Q c f ⟨a,b,rfl,rfl,hz,g⟩ h;show(a,b,c.str,f.str,Ld hz ar,h _ _ g (.str _))
def FM(K:cp):V->Pl->Hp->VK->Prop:=λx vs H Q=>∃(a:ck) (p:aG) (ys:Pi),x=.str a/\vs=[.ref p]/\SqL K H p (ys.map .str)/\(ys.map (·.length)).sum+-ys*-a<=1000000/\Q (.str (Txt.join a ys)) H
theorem rq:∀{ys:Pi}{a:Ph},aU (ys.map .str) a->StrsAre a ys
 |[],_,.nil=>.nil
 |y::ys,_,.cons h r=>by
  let(t,rfl):=h;show .cons y t (rq r)
theorem DB:MtR X "str.join" (FM X.K):=by
 intro pins s σ H x vs v us Q I b c h
 cbv;let(a,p,ys,rfl,rfl,d,hz,q):=h;let(t,rfl):=b;let(u,rfl,e):=c.one;cases e;let(f,r,pl,g):=I.list d
 w_up;show join_list pl.isList (rq (by simpa using r)) (!0) λt' k=>(.str _,H,I.tok _,(_,rfl),q)
theorem Jg(hK:X.K=K):MtR X "str.join" (FM K):=by subst hK;show DB
end
section
variable{X:Cx}{K:cp}{e o:bi}{ta to:DE}{M P N:aG->Prop}{H0 H:Hp}{σ0 σ:St}{env:Pf}{ts:O0}
def Jp:G2:=λd e R=>∃(a:ck) (i:Int) (c:Nat),d=.str a/\e=.int i/\a.length<=1000000/\atI a.cps.toList i=Po c/\R (.str ⟨#[c]⟩)
theorem Kb:dA K J8 Jp:=by rintro N H x y d e R Q b f ⟨a,i,c,rfl,rfl,hz,hc,g⟩ h;show(a,i,c,b.str,f.int,Ld hz ar,hc,h _ _ g (.str _))
theorem DNs.strs{v:Pl}{ys:Pi}(h:DNs K N H v (ys.map .str)):v=ys.map V.str:=by
 induction ys generalizing v with
 |nil=>cases h;rfl
 |cons y ys ih =>
  cases h with
  |cons h q=>cases h;rw[ih q];rfl
def EI(to ta:DE):DE:=λenv R=>to env λs b=>∃a,aZ b s=Po (.str a)/\ta b λs2 c=>∃ys:Pi,aZ c s2=Po (.list (ys.map .str))/\(ys.map (·.length)).sum+-ys*-a<=1000000/\R (.fr (.str (p8 a ys))) c
theorem F3{apos cpos:Pos}(hK:X.K=K)(ho:PE X o (up K to))(n:PE X e (up K ta))
  (i:kh [e] X.env=[(false,eval e X.env)]⊕'Pt)
  (f:zp o "join" X.env (eval o X.env)=eval o X.env⊕'Pt)
  (j:((qr cpos (kh [e] X.env)).all (λx=>!x.1)&&(Qq cpos (zz [] X.env)).all (λx=>x.1.isSome)&&decide ([e].length+([]:Pk).length+(if ([]:Pk).isEmpty then 0 else 1)<30))=true⊕'Pt)
  (g:(apos.endLine==cpos.line)=true⊕'Pt) (b:(qr cpos (kh [] X.env)).any (·.1)=false⊕'Pt) :
  PE X (.Call (.Attribute o "join" apos) [e] [] cpos) (up K (EI to ta)) :=
 (kBm (K:=K) hK PySem.F.plainAttrs_str PySem.F.slot_str_join PySem.F.type_str_join (Jg hK) ho (ak n aH i) f j g i b).imp λσ H Q h=>by
 let(M,P,H0,σ0,env,ts,R,l,r,s):=h;show(M,P,H0,σ0,env,ts,_,l,r,λs1 k t H1 h1 c=>?_);let(a,e1,h1):=h1;let ev:=(c.view (v:=t) (!1) e1).str;subst ev;show(rfl,M,P,H0,σ0,k,ts,_,c.drop,h1,λs2 m u H2 h2 d=>?_);let(ys,e2,hz,w):=h2;let(p,vs,rfl,sq,q):=(d.view (v:=u) (!1) e2).list;rw[q.strs]at sq;show(a,p,ys,rfl,rfl,sq,hz,?_);show Q (.str (Builtin.Str.glued a ys)) H2;rw[StrLaws.glued_eq_join];show s _ _ _ _ w (d.drop.addFr (.str _))
def x4:DS:=λY Y=>False
theorem i4{st:Stmt}:PS X st (upS K x4):=λpins s σ H D I h=>by
 let(M,P,H0,σ0,env,ts,DD,nv,a,z,ok):=h;show z.elim
theorem BD(x:ck):isK "str" (.str x)=Pq:=rfl
theorem BJ(x:ck):isK "int" (.str x)=Pr:=rfl
theorem xJ(a b:ck):fI (.str a) (.str b)=decide (a=b):=by show(a==b)=_;rfl
theorem BH(x:ck):isK "list" (.str x)=Pr:=rfl
end
section
variable{X:Cx}{K:cp}
def dFz(i:Nat)(u:DS):DS:=λDD env=>∃ds,env[i]?=Po (.ow ds)/\u DD (env.set i (.fr (.list ds)))
theorem FQ(i:Nat){ss:O6}{u:DS}(h:PSs X ss (upS K u)):PSs X ss (upS K (dFz i u)):=h.imp λD σ H h=>by
 let(M,P,H0,σ0,env,ts,DD,nv,a,(ds,e,b),ok):=h;show(M,P,H0,σ0,_,ts,DD,nv,a.frz e,b,ok)
end
open PySem.W
def iG{α:Type}(n:Nat)(P:α->Prop):KasT α->Prop
 |.ret a=>P a
 |.ask i j k=>i<n/\j<n/\∀b,iG n P (k b)
theorem iG.bind{α β:Type}{n:Nat}{P:α->Prop}{R:β->Prop}{f:α->KasT β}(c:∀a,P a->iG n R (f a)):∀{t:KasT α},iG n P t->iG n R (t.bind f)
 |.ret a,h=>c a h
 |.ask i j k,h=>(h.1,h.2.1,λb=>iG.bind c (h.2.2 b))
def Pn(n:Nat)(p:O5):Prop:=p.Perm (dm n).toArray
theorem Pn.rev{n i j:Nat}{p:O5}(h:Pn n p):Pn n (QP p i j):=(mirror_perm _ _ _ _).trans h
theorem Pn.bub{n i j:Nat}{p:O5}(h:Pn n p):Pn n (bubble p i j):=(bubble_perm _ _ _).trans h
theorem Pn.list{n:Nat}{p:O5}(h:Pn n p):p.toList.Perm (dm n):=by let:=Array.perm_iff_toList_perm.mp h;simpa using this
theorem Pn.lt{n:Nat}{p:O5}(h:Pn n p)(h1:1<=n)(k:Nat):p.getD k 0<n:=by
 by_cases hk:k<p.size;let e:p.getD k 0=p[k]:=by simp[Array.getD,hk]
 rw[e];let m:p[k]∈p.toList:=!1
 show LP.mp (h.list.mem_iff.mp m);let e:p.getD k 0=0:=by simp[Array.getD,hk]
 lia
section
variable{n:Nat}{p:O5}(h1:1<=n)
include h1
theorem qP(h:Pn n p):∀(f k:Nat),iG n (λY=>True) (Q0 p f k)
 | 0,k=>trivial
 |f+1,k=>(h.lt h1 _,h.lt h1 _,λb=>by
  cases b with
  |true=>show trivial
  |false=>show qP h f (k+1))
theorem iM:∀(f:Nat) (p:O5) (k q:Nat),Pn n p->iG n (λr=>Pn n r.1) (Q8 f p k q)
 | 0,p,k,q,h=>h
 |f + 1,p,k,q,h=>(h.lt h1 _,h.lt h1 _,λb=>by
  cases b with
  |true =>
   show iG n _ (if q>0 then _ else _);split;show iM f _ _ _ h.rev;show iM f _ _ _ h
  |false =>
   show(h.lt h1 _,h.lt h1 _,λd=>?_);cases d with
   |true=>show h
   |false=>show iM f _ _ _ h)
theorem mC{k r:Nat}(h:Pn n p):iG n (λr=>Pn n r.2) (ZY k r p):=by unfold ZY;show iG.bind (P:=λY=>True) (λm Y=>?_) (qP h1 h.rev _ _);show(h.rev:Pn n (QP p 0 k))
theorem iq{k r:Nat}(h:Pn n p):iG n (λr=>Pn n r.2) (Z8 k r p):=(iM h1 _ _ _ _ h).bind λa b=>by
 show iG n _ (if a.2.2>0 then _ else _);split;show mC h1 (Pn.rev b);show mC h1 b
theorem yi{r:Nat}(h:Pn n p):iG n (λr=>Pn n r.2) (kas_count r p):=(qP h1 h _ _).bind λk Y=>by
 show iG n _ (if (k==r)=Pq then _ else _);split;show h;split;show(h.lt h1 _,h.lt h1 _,λb=>?_);cases b with
 |true=>show h
 |false=>show iq h1 h.rev
 show iq h1 h
theorem i8(h:Pn n p)(k:Nat):∀f l r,iG n (λY=>True) (QW p k f l r)
 | 0,l,r=>trivial
 |f + 1,l,r=>by
  show iG n _ (if l≥r then _ else _);split;show trivial;show(h.lt h1 _,h.lt h1 _,λb=>?_);cases b with
  |true=>show i8 h k f _ _
  |false=>show i8 h k f _ _
theorem yr:∀(f:Nat) (p:O5) (k:Nat),Pn n p->iG n (Pn n) (kas_bin f p k)
 | 0,p,k,h=>h
 |f+1,p,k,h=>(i8 h1 h _ _ _ _).bind λl Y=>yr f _ _ h.bub
theorem kW:iG n (Pn n) (Qz n):=(yi h1 (p:=(dm n).toArray) (Array.Perm.refl _)).bind λr a=>by
 show iG n _ (if r.1<n then _ else _);split;show yr h1 _ _ _ a;show a
end
open PySem.SeqAt PySem.MeetsSeq PySem.MeetsSeq2 PySem.MeetsSeq3 PySem.SeqRoads2
open PySem.AutoSeq1 (wpAny_loadPart')
def Ki(h:cc)(v:ba):Prop:=∃(a:aG) (o:Obj) (n:Nat) (x:Int) (t:Tok) (l:aG) (b:O8) (ns:O7) (as:Pg),v=.ref a/\h.get? a=Po o/\o.cls=.type "tuple" /\ o.data=.seq #[.int x t,.ref l] n/\h.IsList l b/\(∀j (h:j<b.size),∃x t,b[j]=ir x t)/\Reads h (.ref l) (.list (ns.map fy)) as
def GY(d:av):Prop:=∃(n:Int) (ns:O7),d=.tuple [.int n,.list (ns.map .int)]
section
theorem km{h:cc}:∀{us:Ph},(∀u∈us,Ki h u)->∃fs,KatTups h us fs/\fs.length=-us/\∀f∈fs,∃x t,f=ir x t
 |[],_=>([],.nil,rfl,λf b=>by simp at b)
 |u::us,k=>by
  let(fs,h1,h2,g):=km (us:=us) λv hv=>k v (by simp[hv]);let(a,o,n,x,t,l,i,ns,as,rfl,e,c,d,_):=k u (!1);show(.int x t::fs,.cons e c d (by rfl) h1,by simp[h2],λf b=>?_);rcases K9.mp b with rfl|b;show(x,t,rfl);show g f b
end
theorem xP{K:cp}{N:aG->Prop}{H:Hp}{vs:Pl}{ds:Pe}(h:DNs K N H vs ds):∀z∈vs.zip ds,DN K N H z.1 z.2:=DNs.ind (C:=λvs ds=>∀z∈vs.zip ds,DN K N H z.1 z.2) (λz h=>by simp at h) (λd Y i z h=>by
  simp only[NZ]at h;rcases K9.mp h with rfl|h;show d;show i z h) h
section
variable{X:Cx}
theorem wE{j p3 p4}:PE X (.UnaryOp .USub (.Constant (.int 1) j p3) p4) (tC (.int (-1))):=(Go mq ci).imp λσ H Q h=>(1,rfl,h)
end
open PySem.Calls
section
variable{prog:ky}{w:kD}{A:Around}
theorem uN{E:ba->bb->Prop}{s:bb}{id:String}{b:Builtin}{args:Ph}{a:OZ}{Q:ba->bb->Prop}(hk:builtinKind id=Pp)(d:plainId id=Pq)
  (g:entryFor table id=Po b) (c:argsOk id (args,a))
  (hc:kn (kq prog w) A.in1 (b (args,a)) (λfin s'=>match fin with
   |.done f=>(match (Except.ok f:ZC) with|.ok (.ret v)=>Q v s'|.ok _=>False|.error e=>E e s')
   |.again c'=>c'.quiet=Pq/\Qo (kq prog w) A c' (λr s'=>match r with|.ok (.ret v)=>Q v s'|.ok _=>False|.error e=>E e s') s') E s) :
  kn (kq prog w) A (call (.builtin id) args a) Q E s:=by
 show QN (QR d g ?_);simp only[ZB,hk];cases hsig:Manifest.signature? id with
 |none=>show kf hc
 |some sig =>
  simp only[argsOk,hsig]at c;let h2:Bind.checkArgs id sig (args,a)=pure ():=c;show kn _ A.in1 (Bind.checkArgs id sig (args,a)) _ _ s;rw[h2];show kf hc
end
section
variable{CX:CXT}{P:ky}{w:kD}{K:cp}{mg:ck->O3}{base:cc}{k:Nat}{f c':aG}{qual:ck}{params:QO}{body:bi}{scope:Qc}{pm ctv:ba}{N ps:Pi}
 {A : Around}{outer:Pa}{s:bb}{H:Hp}{us:Ph}{vs:Pl}{Q:VK}{E:XK}{t:TE}
theorem DM(S:ax N ps scope)(h:bW (k+1) A)(c:qW P w K mg base A outer s H)(ho:s.heap.get? f=Po (Q9 "<lambda>" qual params body scope [] pm c' ctv))(d:s.heap.CodeRec (.ref c') qual)
  (i:Qh (ZA "<lambda>" qual params body scope [] pm (.ref c') ctv) (us,[])=pure (ps.zip us)) (r:aU vs us) (hl:-vs=-ps)
  (j:PE (gC CX P w K mg base N qual scope f (.ref c') A outer s H E) body t) (l:t (bq N vs) H Q):Qo (kq P w) A (.call (.ref f) (us,[])) (CR CX outer P w H s Q E) s:=by
 let g:s.heap.NoLimit:=c.mod.nolimit.keeps λb o e=>(c.bs b o e).1;let a:∀y∈ps.zip us,scope.names.lookup y.1=Po .local\/(scope.names.lookup y.1=Po .cell/\((zs ((~~~s)+1) scope.names []).lookup y.1).isSome=Pq):=λ⟨n,v⟩ m=>by
  rcases S.par n (MF m).1 with q|q;show .inl q;show .inr (q,ro _ _ _ (.inl q))
 show kla_callFunE h.depth ho rfl S.co S.gen rfl d ?_;rw[i];show kf ?_;show ZL S.kind a λenv p s1 x=>?_;subst p;show(g.keeps x.toInCall.keep,kla_codeExpr ?_);let I:Inv (gC CX P w K mg base N qual scope f (.ref c') A outer s H E) [] (bq N vs) H s1:=nO S h.hd c hl r x;show qD (j [] s1 (bq N vs) H _ I l) (λu s' hs=>?_) λe s' hs=>hs;let(v,H',J,z,q):=hs;show(v,H',J.os,J.bare,J.base,J.hok,z,q)
end
theorem uP{pos:Pos}{a b:Int}{c d:ba}(l:Ph)(h:TriplesOk l)(hn:Zk pos (l++[Qk a,Qk b,c])=Po d):Zk pos l=Po d\/d=c:=by
 fun_induction TriplesOk l with
 |case1 =>
  simp only[sT,Zk,Qk]at hn;split at hn;cases hn;show .inr rfl;cases hn
 |case2 a' t b' u x rest ih =>
  simp only[MO,Zk]at hn ⊢;split at hn;rename_i hc;rw[OG hc];show .inl hn;rename_i hc;rw[OH hc];show ih h hn
 |case3 l h1 h2=>show h.elim
def HE(H:Hp)(c:aG)(q:ck):Prop:=∃oc u vs t,H c=Po (.frz oc u)/\oc.data=.fields vs/\vs[1]?=Po (.str q t)
def uV(X:Cx):Prop:=∃c T,X.env.code=.ref c/\CodeHd X.base c T/\jC X.K T (X.env.qual ++ "<lambda>")
section
variable{X:Cx}{pins:OU}{σ:St}{H:Hp}{s:bb}
theorem Inv.grow(I:Inv X pins σ H s){T c':aG}{q:ck}{h':cc}{oc:Obj}{vs:O8}{t:Tok}{tk:Nat}(a:H T=some (.tbl q))(hx:MV T s.heap h')(hc:s.heap.objs.size<=c')(ho:h'.get? c'=some oc)(hd:oc.data=.fields vs)(hv:vs[1]?=some (.str q t))
  (h:E4 (upd H c' (.frz oc (.own 0))) h' T q):Inv X pins σ (upd H c' (.frz oc (.own 0))) { s with heap:=h',toks:=tk }/\aA H (upd H c' (.frz oc (.own 0))):=by
 let hn:H c'=Pp:=I.hok.fresh hc;let f:T<(~~~s):=I.hok.lt a;let j:T≠c':=Lr (Lg f hc);let(k,l,_):=id h;show(I.un (t':=tk) (λb o e n Y Y=>?_,λb o e n Y Y=>(o.slots,?_),λb o e n Y=>?_,λb o e Y=>?_,λb xs e=>?_,λb o u e=>?_,λb q e=>?_) (λb u e=>?_),λb o e=>by rw[ao (ay e hn)];show e);show hx b o (λz=>by rw[z,a]at n;cases n) e;show hx b o (λz=>by rw[z,a]at n;cases n) e;rw[ao (Lr (Lg (Lh e) hc))];show n;by_cases z:b=T;subst z;show(_,l);show(o,hx b o z e);rw[ao (ay e hn)];show e;rw[ao (ay e hn)];show e;rw[ao (ay e hn)];show e
 .by_cases i:b=c'
  .cbv;subst i;rw[aq]at e;cases e
   w_up;show(ho,_,ho)
  .rw[ao i]at e;by_cases d:b=T
   .cbv;subst d;rw[a]at e;cases e
    w_up;show h
   show(I.hok b u e).stay (λc v g q=>hx c v ?_ q) (λc q=>by rw[ao (ay q hn)];show q) λc o Y q=>by rw[ao (ay q hn)];show q
   rcases g with z|z;rw[z];show d
   exactλm=>by rw[m,a]at z;cases z
end
section
variable{X:Cx}{pins:OU}{σ:St}{H:Hp}{s:bb}
def iA(X:Cx)(pins:OU)(σ:St)(H:Hp)(s:bb)(d:av)(u:ba)(s':bb):Prop :=
 ∃H' v,Inv X pins σ H' s'/\aA H H'/\br v u/\DN X.K N0 H' v d/\∀b o,jD X pins H b->s.heap.get? b=Po o->s'.heap.get? b=Po o/\H' b=Pp
end
section
variable{X:Cx}{pins:OU}
theorem xE{H H':Hp}{b:aG}(h:jD X pins H b)(n:H' b=Pp):jD X pins H' b:=(n,h.2)
theorem u7{xs:Pl}{us:Ph}{x:V}{u:ba}(h:aU xs us)(q:br x u):aU (xs++[x]) (us++[u]):=by
 induction h with
 |nil=>show .cons q .nil
 |cons r _ i=>show .cons r i
end
section
def GW(d:av):Prop:=∃ns:O7,d=.list (ns.map .int)
end
section
variable{P:ky}{w:kD}{K:cp}{mg:ck->O3}{base:cc}
def yE(K:cp)(base:cc)(x:ck)(fd:kx):Prop:=∃c T,fd.code=.ref c/\CodeHd base c T/\jC K T (x ++ ".<locals>.<lambda>")
theorem Ka{x:ck}{st:Stmt}{f:aG}{fd:kx}{N ps:Pi}{k:Nat}{sp:DSp}(F:Fun K x x st f fd)(S:ax N ps (af st))(len:∀ss R,sp ss R->-ss=-ps)(hN:-ps<=-N)
  (b:∀(cdv:ba) (a:cdv=fd.code) (A:Around) (outer:Pa) (s:bb) (H:Hp) (E:XK),bW k (A.deeper (QA x (af st) (~~~s) f cdv)) ->
   ∃t:DS,PSs (gC CX0 P w K mg base N x (af st) f cdv A outer s H E).nox (bA st) (upS K t)/\∀ss R,sp ss R->t (nV (-ps) R) (bd (-N) ss)):aY P w K mg base CX0 (k+1) f fd ps (spD K sp):=by let(oc,od,kV,doc,pm,an,cdv,ct,osl,rfl,lk,a):=F.ex;show Kv (λA outer s H E c=>b cdv rfl A outer s H E c) lk a S len hN
def yG(vs:O8)(c T:aG):Prop:=vs[11]?=Po (.ref T)/\vs.getD 11 .none=.ref T/\(∃a d,vs.getD 18 .none=.str a d)/\(∃i t,vs.getD 7 .none=.int i t)/\(∃b,vs.getD 9 .none=.bool b)/\(∃i t,vs.getD 10 .none=.int i t)/\c≠T
theorem GL{x:ck}{f c T:aG}{fd:kx}{oc:ba}{od e:O4}{osl g:ON}{vs:O8}(hx:x∈fq)(a:cv K kw x=Po (Po (.ref f)))(l:K.lookup f=Po (oc,od,.func fd,osl))(hc:fd.code=.ref c)
  (h:K.lookup c=Po (.type "code",e,.fields vs,g)) (k:yG vs c T) (m:K.In base):yE K base x fd:=by let(h1,h2,(d,n,o),(i,t,p),(b,q),(j,u,r),s):=k;show(c,T,hc,(_,vs,d,n,i,t,b,j,u,m _ _ h,rfl,rfl,h1,h2,o,p,q,r,s),x,hx,f,_,fd,c,_,vs,a,l,rfl,hc,h,rfl,h1,rfl)
structure uU(K:cp)(h:cc)(x:ck)(c T:aG):Prop where
 tab:∀T0,(∃f o fd c0 oc vs,cv K kw x=some (some (.ref f))/\K.lookup f=some o/\o.data=.func fd/\fd.code=.ref c0/\K.lookup c0=some oc/\oc.data=.fields vs/\vs[11]?=some (.ref T0))->T0=T
 at':h.get? T=some { cls:=.none,data:=.fields #[] }/\K.lookup T=none/\∃c,h.TableAt c T #[]
theorem sO{q:ky}{b:Pi}{r:(ck->O3)->cc->Prop}{s₀:bb}{mb:ck->O3}{h:cc}{d:DefRec}{x:ck}{f c T:aG}{fd:kx}{oc:ba}{od i:O4}{osl j:ON}{vs:O8}
  (G : MQ q b [] r w s₀ mg mb h) (s:K.In h) (t:(recsOf q).find? (λe=>e.name==x)=Po d)
  (a : cv K kw x=Po (Po (.ref f))) (l:K.lookup f=Po (oc,od,.func fd,osl)) (hc:fd.code=.ref c) (k:K.lookup c=Po (.type "code",i,.fields vs,j)) (m:yG vs c T) (hn:K.lookup T=Pp):uU K h x c T:=by
 let u:tabIn K x=Po (c,T):=by unfold tabIn;rw[a];simp only[l,hc,k,m.1]
 let(C,g):=tab_of G.T s t u;show(λT0 e=>?_,g,hn,c,C.tab g)
 cbv;let(D,E,v,c0,y,z,a1,a2,A,n,o,B,p):=e;rw[a]at a1;cases a1;rw[l]at a2;cases a2;cases A;rw[hc]at n;cases n;rw[k]at o;cases o;cases B;rw[m.1]at p;cases p
 w_up;rfl
theorem Cm{h:cc}(ps:List (ck×aG×aG))(a:∀p∈ps,uU K h p.1 p.2.1 p.2.2)(nd:(ps.map λp=>p.2.2).Nodup)(hL:∀n∈fq,n∈ps.map (·.1)\/cv K kw n=some none) :
  ∃tb:List (aG×ck),(∀b q,tb.lookup b=some q->h.get? b=some { cls:=.none,data:=.fields #[] }/\K.lookup b=none/\∃c,h.TableAt c b #[])/\∀T q,jC K T q->tb.lookup T=some q:=by
 show(ps.map λp=>(p.2.2,p.1 ++ ".<locals>.<lambda>"),λb o e=>?_,λT0 o L=>?_);let : ∃p∈ps,p.2.2=b:=by
  clear a nd hL
  induction ps with
  |nil=>cases e
  |cons p ps ih =>
   rw[Le,LJ]at e;by_cases k:b=p.2.2;show(p,K3,k.symm);let h1:(b==p.2.2)=Pr:=by simpa using k
   rw[h1]at e;let(f,m,e'):=ih e;show(f,K5 _ m,e')
 let(p,m,rfl):=this;show(a p m).at';let(n,r,s,t,g,c0,i,j,a1,a2,u,v,w,x,l,rfl):=L;rcases hL n r with d|d;let(p,m,rfl):=Lo.mp d;let e:=(a p m).tab T0 (s,t,g,c0,i,j,a1,a2,u,v,w,x,l);subst e;clear a hL a1 l d
 induction ps with
 |nil=>cases m
 |cons f ps ih =>
  rw[Le,LJ];rw[Le,Ll]at nd;rcases K9.mp m with rfl|m;simp;let h1:(p.2.2==f.2.2)=Pr:=by
   simp only[beq_eq_false_iff_ne,ne_eq]
   exactλz=>nd.1 (z▸List.mem_map_of_mem m)
  rw[h1];show ih nd.2 m
 rw[d]at a1;cases a1
theorem DP{h:cc}:∀p∈([]:List (ck×aG×aG)),uU K h p.1 p.2.1 p.2.2:=λp a=>by cases a
theorem sM{h:cc}{x:ck}{c T:aG}{ps:List (ck×aG×aG)}(h1:uU K h x c T)(h2:∀p∈ps,uU K h p.1 p.2.1 p.2.2):∀p∈(Pm x (Pm c T))::ps,uU K h p.1 p.2.1 p.2.2:=λp a=>by
 rcases K9.mp a with rfl|a;show h1;show h2 p a
theorem DQ{P:ck->Prop}(h1:P "choices")(h2:P "full_rows")(a:P "chain_plan")(b:P "least_ranks"):∀n∈fq,P n:=λn hn=>by
 simp only[fq,K9,Lv,or_false]at hn;rcases hn with rfl|rfl|rfl|rfl <;> assumption
end
def GZ(d:av):Prop:=∃n:Int,d=.int n
open PySem.AutoSeq1 (wpAny_loadPart')
def At(items:O8)(ns:O7):Prop:=-ns=items.size/\∀j (h:j<items.size),∃t,items[j]=ir (ns.getD j 0) t
theorem z8{ns a:O7}{i:Nat}(h1:i< -ns)(h2:i< -a):HT.lexLt (ns.drop i) (a.drop i)=if ns.getD i 0=a.getD i 0 then HT.lexLt (ns.drop (i+1)) (a.drop (i+1)) else decide (ns.getD i 0<a.getD i 0):=by
 let e1:ns.drop i=ns.getD i 0::ns.drop (i+1):=by rw[Mc h1];simp[Lb,h1]
 let e2:a.drop i=a.getD i 0::a.drop (i+1):=by rw[Mc h2];simp[Lb,h2]
 rw[e1,e2,HT.lexLt_cons]
theorem z7(l b:aG)(items a:O8)(n C:Nat)(dd y:O4)(sl z:ON)(ns f:O7)(j:At items ns)(c:At a f)(k:Nat) :
  ∀i : Nat,items.size-i=k->i<=items.size->i<=a.size->Meets (Builtin.«list.__eq__.loop» ([.ref l,.ref b,Qk i,Qk 0],[]))
   (λA R s=>s.heap.get? l=some { cls:=.type "list",dict:=dd,data:=.seq items n,slots:=sl }/\s.heap.get? b=some { cls:=.type "list",dict:=y,data:=.seq a C,slots:=z } /\
    R (.ok (.ret (.bool (HT.lexLt (ns.drop i) (f.drop i))))) s):=by
 induction k with
 |zero =>
  intro i hk v x prog w A R s h;let(D,g,d,tk,os):=s;let(hl,r,h):=h
  wp_walk using wpAny_loadPart' hl,wpAny_loadPart' r
  let m:items[((i:Nat):Int).toNat]?=Pp:=by simp;lia
  rw[m]
  wp_walk using wpAny_loadPart' hl,wpAny_loadPart' r
  let hv:HT.lexLt (ns.drop i) (f.drop i)=decide (items.size<a.size):=by rw[Mi (by rw[j.1];lia)];by_cases B:i< -f;rw[Mc B,HT.lexLt_nil_cons,decide_eq_true (by rw[c.1]at B;lia)];rw[Mi (!0),HT.lexLt_nil_nil,decide_eq_false (by rw[c.1]at B;lia)]
  rw[hv]at h;show h
 |succ k ih =>
  intro i hk v x prog w A R s h;let(D,g,d,tk,os):=s;let(hl,r,h):=h
  wp_walk using wpAny_loadPart' hl,wpAny_loadPart' r
  let o:i<items.size:=!0
  let m:items[((i:Nat):Int).toNat]?=Po items[i]:=by simp[o]
  let hc:((i:Int)+1)=((i+1:Nat):Int):=by push_cast;rfl
  rw[m];by_cases e:i<a.size
  .let p:a[((i:Nat):Int).toNat]?=Po a[i]:=by simp[e]
   rw[p];let(t,e1):=j.2 i o;let(u,e2):=c.2 i e;rw[z8 (by rw[j.1];show o) (by rw[c.1];show e)]at h;rw[e1,e2];show jj (Zy ?_);by_cases q:ns.getD i 0=f.getD i 0
   .rw[OG q]at h;rw[show(ns.getD i 0==f.getD i 0)=Pq by simpa using q]
    wp_walk
    rw[hc];show(Qm Zn _,Qu entry_eq_loop (by
     rw[Around.under_plainId Zn _];show ih (i+1) (!0) (!0) (!0) prog w A R _ (hl,r,h)))
   .rw[OH q]at h;rw[show(ns.getD i 0==f.getD i 0)=Pr by simpa using q]
    wp_walk using wpAny_loadPart' hl,wpAny_loadPart' r
    rw[m,p,e1,e2];show jj (show kn (kq prog w) A.in1 (q5 .Lt (.int (ns.getD i 0) t) (.int (f.getD i 0) u)) _ _ _ from wpAny_lt_int (kf h))
  .let p:a[((i:Nat):Int).toNat]?=Pp:=by simp;lia
   rw[p]
   wp_walk using wpAny_loadPart' hl,wpAny_loadPart' r
   let hv:HT.lexLt (ns.drop i) (f.drop i)=decide (items.size<a.size):=by rw[Mi (l:=f) (by rw[c.1];lia),Mc (l:=ns) (by rw[j.1];show o),HT.lexLt_cons_nil,decide_eq_false (!0)]
   rw[hv]at h;show h
theorem sE(l b:aG)(items a:O8)(n k:Nat)(dd c:O4)(sl e:ON)(ns f:O7)(i:At items ns)(j:At a f) :
  Meets (Builtin.«list.__lt__» ([.ref l,.ref b],[]))
   (λA R s=>s.heap.get? l=some { cls:=.type "list",dict:=dd,data:=.seq items n,slots:=sl }/\s.heap.get? b=some { cls:=.type "list",dict:=c,data:=.seq a k,slots:=e } /\
    R (.ok (.ret (.bool (HT.lexLt ns f)))) s):=by
 intro prog w A R s h;let(o,g,d,tk,os):=s;let(hl,m,h):=h;let p:=AutoSeq1.sub_list_list
 wp_walk using wpAny_loadPart' hl,wpAny_loadPart' m
 show(Qm Zn _,Qu entry_eq_loop (by
  rw[Around.under_plainId Zn _];show z7 l b items a n k dd c sl e ns f i j _ 0 rfl (Ln _) (Ln _) prog w A R _ (hl,m,h)))
def dy(a b:Int×O7):Bool:=if a.1=b.1 then (if a.2=b.2 then Pr else HT.lexLt a.2 b.2) else decide (a.1<b.1)
section
variable{prog:ky}{w:kD}{A:Around}{E:ba->bb->Prop}{s:bb}
theorem xc{l b:aG}{items a:O8}{ns c:O7}{Q:ba->bb->Prop}(hl:s.heap.IsList l items)(o:s.heap.IsList b a)(g:At items ns)(i:At a c)
  (p:A.units<Qj) (h:Q (.bool (HT.lexLt ns c)) s):kn (kq prog w) A (q5 .Lt (.ref l) (.ref b)) Q E s:=by
 cbv;let((cls,dd,data,sl),ho,hc,n,hd):=id hl;let((m,j,data2,k),d,e,q,f):=id o;simp only at hc hd e f;subst hc hd e f
 w_up;show richCompare_meets_room (op:=.Lt) (_,ho,rfl) (_,d,rfl) F.slot_list_lt F.entry_list_lt (F.args_list_lt_2 _ _) (sE l b items a n q dd j sl k ns c g i)
  (ho,d,show r4 (HT.lexLt ns c)≠Value.notImplemented/\Q (.bool (HT.lexLt ns c)) s from((λx=>nomatch x),h)) p
def Fh(h:cc)(v:ba)(k:Int×O7):Prop:=∃(a:aG) (o:Obj) (n:Nat) (t:Tok) (l:aG) (b:O8) (as:Pg),v=.ref a/\h.get? a=Po o/\o.cls=.type "tuple" /\ o.data=.seq #[.int k.1 t,.ref l] n/\h.IsList l b/\At b k.2/\Reads h (.ref l) (.list (k.2.map fy)) as
theorem Fh.v{h:cc}{v:ba}{k:Int×O7}(x:Fh h v k):Ki h v:=by let(a,o,n,t,l,b,as,e1,e2,e3,e4,e5,e6,e7):=x;show(a,o,n,k.1,t,l,b,k.2,as,e1,e2,e3,e4,e5,λj hj=>let ⟨u,e⟩:=e6.2 j hj;(_,u,e),e7)
theorem DX{u v:ba}{k k':Int×O7}{C:Bool->bb->Prop}{E:ba->bb->Prop}(x:A.units+64<Qj)(k1:Fh s.heap u k)(k2:Fh s.heap v k')(h:C (dy k k') s):kn (kq prog w) A (keyLt' (tuples' Pq) u v) C E s:=by
 let(a,o,n,t,l,g,as,rfl,e,c,d,i,j,m):=k1;let(a',o',y,t',l',its',p,rfl,e',c',d',q,j2,r):=k2;unfold dy at h;show kat_lt e d e' d' ?_;show kat_cons (Zy ?_);show kat_go (λf=>kat_yes ?_) λf=>kat_no (oneLt_int ?_)
 rotate_left
 rw[OH (by simpa using f)]at h;show h;rw[OG (by simpa using f)]at h;show kat_cons (SeqAt.eqBoolOverData _ _ _ _ _ _ _ _ _ _ _ _ m r ?_ ?_ ?_ ?_);simp[eN,lU];simp[eN,lU];let:∀ns:O7,(eg (ns.map fy)).depth<=64:=λns=>by
  let:=Ir ns;show SeqAt.depth_of_shaped this
 let:=this k.2;let:=Nat.min_le_left (eg (k.2.map fy)).depth (eg (k'.2.map fy)).depth;lia;show kat_go (λb=>kat_yes (kat_nil ?_)) λb=>kat_no (kat_one _ _ ?_);rw[Hi]at b;rw[OG (of_decide_eq_true b)]at h;show h;show xc i q j j2 (!0) ?_;rw[Hi]at b;rw[OH (of_decide_eq_false b)]at h;show h
def aB{α:Type}(lt:Nat->Nat->Bool):KasT α->α
 |.ret a=>a
 |.ask i j k=>aB lt (k (lt i j))
theorem iG.run{α:Type}{n:Nat}{P:α->Prop}{lt:Nat->Nat->Bool}:∀{t:KasT α},iG n P t->P (aB lt t)
 |.ret a,h=>h
 |.ask i j k,h=>show P (aB lt (k (lt i j))) from iG.run (t:=k (lt i j)) (h.2.2 _)
theorem qk{α:Type}{n:Nat}{b:Nat->Nat->(Bool->bb->Prop)->bb->Prop}{P:α->Prop}{lt:Nat->Nat->Bool}{Q:α->bb->Prop}(I:bb->Prop)
  (hc:∀i j C s,i<n->j<n->I s->(∀s',I s'->C (lt i j) s')->b i j C s):∀{t:KasT α}{s:bb},iG n P t->(∀s,I s->Q (aB lt t) s)->I s->t.kasWp b Q s
 |.ret a,s,h,c,i=>c s i
 |.ask x y k,s,h,c,i=>hc x y _ s h.1 h.2.1 i λs' d=>qk I hc (h.2.2 (lt x y)) c d
def aX(ks:OK):Pd:=if -ks<2 then dm (-ks) else (aB (λi j=>dy (ks.getD i (0,[])) (ks.getD j (0,[]))) (Qz (-ks))).toList
theorem bz(ks:OK):(aX ks).Perm (dm (-ks)):=by unfold aX;split;show .refl _;show(iG.run (kW (n:=-ks) (!0))).list
noncomputable def pick{α:Type}(p:Pd)(xs:List α)(d:α):List α:=p.map λi=>xs.getD i d
def iy(prog:ky)(w:kD)(A:Around)(vs:Ph)(ks:OK)(s:bb):Prop :=
 kn (kq prog w) A (keyKind' vs.toArray) (λκ s'=>s'=s/\∀i j (C:Bool->bb->Prop),i< -vs->j< -vs->C (dy (ks.getD i (0,[])) (ks.getD j (0,[]))) s->kas_ask prog w A κ vs i j C s) (λY Y=>False) s
theorem DU{us:Ph}{ks:OK}(a:A.units+64<Qj)(h2:2<=-us)(hl:-ks=-us)(k:∀i (h:i< -us),Fh s.heap us[i] (ks.getD i (0,[]))):iy prog w A us ks s:=by
 let(fs,h1,c,b):=km (h:=s.heap) (us:=us) λu a=>by
  let(i,hi,rfl):=LC a;show(k i hi).v
 show kat_kind (T:=.type "int") h1 (!0) (λv hv=>?_) (by rfl) (rfl,λi j C hi hj hc=>?_);let(x,t,rfl):=b v hv;show .now;let e1:us.getD i dr=us[i]:=by simp[hi]
 let e2:us.getD j dr=us[j]:=by simp[hj]
 show kn (kq prog w) A (keyLt' _ (us.getD i dr) (us.getD j dr)) C (λY Y=>False) s;rw[e1,e2];show DX a (k i hi) (k j hj) hc
end
def fe:av->Int×O7
 |.tuple [.int n,.list es]=>(n,(cj es).getD [])
 |.int n=>(n,[])
 |.list es=>(0,(cj es).getD [])
 |_=>(0,[])
section
variable{X:Cx}{pins:OU}{σ:St}{H:Hp}{s:bb}
theorem E3:∀{ns:O7}{vs:Pl}{us:Ph},DVs X.K H vs (ns.map .int)->aU vs us->-ns=-us/\∀j (h:j< -us),∃t,us[j]=ir (ns.getD j 0) t
 |[],_,_,.nil,.nil=>(rfl,λj h=>by simp at h)
 |n :: ns,_,_,.cons d q,.cons r t=>by
  let(h1,h2):=E3 q t;show(by simp[h1],λj h=>?_);cases j with
  |zero =>
   cbv;cases d;let(t,rfl):=r
   w_up;show(t,rfl)
  |succ j =>
   let(u,e):=h2 j (by simpa using h);show(u,by simpa using e)
theorem DW(I:Inv X pins σ H s){v:V}{d:av}{u:ba}(hd:DV X.K H v d)(r:br v u)(k:GY d):Fh s.heap u (fe d):=by
 let(n,ns,rfl):=k;let p:fe (.tuple [.int n,.list (ns.map .int)])=(Pm n ns):=by show(Pm n ((cj (ns.map .int)).getD []))=_;rw[bt];rfl
 rw[p]
 cbv;let(a,xs,rfl,h,q):=hd.tupI;let(x,y,rfl,q1,b):=q.twoI;let(w,z,(o,e,c,m,hd),_):=I.tuple h;let(D,A,rfl,g,i):=u8 z;rw[q1.intI]at g;let(t,rfl):=g;let(as,B):=b.reads I i (by simpa only[eN] using nj _);let(l,ys,rfl,h2,b):=b.lstI;let e2:A=di l:=i;let e3:u=di a:=r;subst e2 e3;let(f,C,pl,_):=I.list h2;let(h1,h2):=E3 b C
 w_up;show⟨a,o,m,t,l,f.toArray,as,rfl,e,c,hd,pl.isList,⟨by simpa using h1,λj hj=>h2 j (by simpa using hj)⟩,B⟩
end
section
variable{prog:ky}{w:kD}{A:Around}{E:ba->bb->Prop}{s:bb}
theorem mG{a:aG}{vs:Ph}{ks:OK}{n:Nat}{P:PySem.Fin->bb->Prop}(ho:s.heap.get? a=some (qb "list" vs.toArray n))(u:vs.length<64)(m:ks.length=vs.length)
  (hk:2<=vs.length->∀h',(∀b o,b≠a->s.heap.get? b=some o->h'.get? b=some o)->iy prog w A vs ks { s with heap:=h' })
  (h : ∀h' c,(∀b o,b≠a->s.heap.get? b=some o->h'.get? b=some o)->h'.get? a=some (qb "list" (pick (aX ks) vs dr).toArray c)->P (.done (.ret .none)) { s with heap:=h' }) :
  kn (kq prog w) A (Builtin.«list.sort» ([.ref a],[])) P E s:=by
 let K:a<(~~~s):=Lh ho;let s1:=dV s.heap a (dt λY=>(#[]:O8));obtain⟨e1,q⟩:∃e1,(s.heap.update a (dt λY=>(#[]:O8))).get? a=Po (qb "list" #[] e1):=(_,QU ho λY=>#[])
 let keep:∀b o,b≠a->s.heap.get? b=Po o->(((s.heap.update a (dt λY=>(#[]:O8))).push (qb "tuple" vs.toArray 0)).push (qb "list" #[] 0)).get? b=Po o:=λb o k e =>
  La _ (La _ ((s1.2 b k).trans e))
 let d:(((s.heap.update a (dt λY=>(#[]:O8))).push (qb "tuple" vs.toArray 0)).push (qb "list" #[] 0)).get? a=Po (qb "list" #[] e1):=La _ (La _ q);let fin:∀(t:Ph),∃c,(((((s.heap.update a (dt λY=>(#[]:O8))).push (qb "tuple" vs.toArray 0)).push (qb "list" #[] 0))).update a (dt λY=>t.toArray)).get? a=Po (qb "list" t.toArray c):=λt=>(_,QU d λY=>t.toArray)
 rw[list_sort_plain];show jj (Z6 ho rfl ?_);show jj (QF ho rfl ?_ (by rw[Li,qE];lia) (Ln _));show jj (Zf q rfl ?_);show jj (wpAny_newTuple ?_ (by show -vs<=_;rw[qE];lia));show jj (Q2 ?_ (Ln _));show qT ?_;show kn (kq prog w) A _ P E { s with heap:=((s.heap.update a (dt λY=>(#[]:O8))).push (qb "tuple" vs.toArray 0)).push (qb "list" #[] 0) };dsimp only;by_cases h2:2<=-vs;let hn2:¬vs.toArray.size<2:=by rw[Li];lia
 rw[OH hn2,OH hn2];show jj (qD (hk h2 _ keep) (λκ L hk=>?_) λY Y x=>x.elim);let(rfl,r):=hk;let v:aX ks=(aB (λi j=>dy (ks.getD i (0,[])) (ks.getD j (0,[]))) (Qz (-vs))).toList:=by unfold aX;rw[OH (!0),m]
 show jj (qD (kat_run (κ:=κ) (A:=A) (prog:=prog) (w:=w) (ks:=vs) (vs:=vs) (G:=λp s'=>p=aB (λi j=>dy (ks.getD i (0,[])) (ks.getD j (0,[]))) (Qz (-vs))/\s'={ s with heap:=((s.heap.update a (dt λY=>(#[]:O8))).push (qb "tuple" vs.toArray 0)).push (qb "list" #[] 0) })
  (Q := λg s'=>∃p:O5,p=aB (λi j=>dy (ks.getD i (0,[])) (ks.getD j (0,[]))) (Qz (-vs))/\p.size=-vs/\arrOf g=p.map (kas_item (vs.toArray.zip vs.toArray))/\failedOf g=Pp/\s'={ s with heap:=((s.heap.update a (dt λY=>(#[]:O8))).push (qb "tuple" vs.toArray 0)).push (qb "list" #[] 0) })
  rfl h2 u (λF g s' a1 a2 H D=>(F,D.1,a1,a2,H,D.2)) (qk (λs'=>s'={ s with heap:=((s.heap.update a (dt λY=>(#[]:O8))).push (qb "tuple" vs.toArray 0)).push (qb "list" #[] 0) }) (λi j C s' hi hj e hc=>by subst e;show r i j C hi hj (hc _ rfl)) (kW (n:=-vs) (!0)) (λs' e=>(rfl,e)) rfl)) ?_ λY Y e=>e)
 rintro⟨⟨⟩,g⟩ s' ⟨p,y,I,z,J,rfl⟩;dsimp only;let f:=kat_snds rfl z;let hsz:(mu (p.toList.map λi=>vs.getD i dr)).size=-vs:=by rw[Li,K4,ge,I]
 rw[f];let(c2,l):=fin (p.toList.map λi=>vs.getD i dr);show jj (Zf d rfl ?_);show jj (QF d rfl ?_ (Ln _) (Ld (MI hsz) (by rw[qE];lia)));rw[J];simp only[bne_self_eq_false,Lz,if_false];show kf (h _ c2 (λb o k e=>?_) ?_);show((dV _ a _).2 b k).trans (keep b o k e);rw[v,<-y];show l;let hn2:vs.toArray.size<2:=by rw[Li];lia
 rw[OG hn2,OG hn2];show jj (kf ?_);show jj (kf ?_);let f:(arrOf (SortSt.mk' general' (vs.toArray.zip vs.toArray) #[] 7 Pp)).map (·.2)=vs.toArray:=by show(vs.toArray.zip vs.toArray).map (·.2)=_;apply Oa.mp;simp;show Oh (Lf _)
 dsimp only;rw[f];let(c2,l):=fin vs;let B:pick (aX ks) vs dr=vs:=by unfold aX pick;rw[OG (!0),m];apply Mh;simp;intro i h1 h2;simp at h1;simp[h1]
 show jj (Zf d rfl ?_);show jj (QF d rfl ?_ (Ln _) (by rw[Li,qE];lia));simp only[bne_self_eq_false,Lz,if_false];show kf (h _ c2 (λb o k e=>?_) (by rw[B];show l));show((dV _ a _).2 b k).trans (keep b o k e)
theorem oZ{l:aG}{vs:Ph}{ks:OK}{Q:ba->bb->Prop}(hl:s.heap.IsList l vs.toArray)(f:vs.length<64)(g:ks.length=vs.length)
  (hk:2<=vs.length->∀h',(∀b o,s.heap.get? b=some o->h'.get? b=some o)->iy prog w A.in1.in1 vs ks { s with heap:=h' })
  (h : ∀D h' c,(∀b o,s.heap.get? b=some o->h'.get? b=some o)->s.heap.objs.size<=D->h'.get? D=some (qb "list" (pick (aX ks) vs dr).toArray c)->Q (.ref D) { s with heap:=h' }) :
  kn (kq prog w) A (call (.builtin "sorted") [.ref l]) Q E s:=by
 show Calls.call_function_entry kind_sorted Z5 Z9 (args_sorted1 _) ?_;unfold Builtin.«sorted»;show jj (m:=checkCount "sorted" 1 1 _) (kf ?_);show jj (collect_list hl ?_ (by rw[qE];lia));show jj (Q2 ?_ (by rw[qE];lia));let hsz:((s.heap.push (qb "list" #[] 0)).update (~~~s) (dt (·++vs.toArray))).objs.size=(~~~s)+1:=by rw[Mr,size_push']
 let d:(((s.heap.push (qb "list" #[] 0)).update (~~~s) (dt (·++vs.toArray))).push (qb "list" vs.toArray 0)).get? ((~~~s)+1)=Po (qb "list" vs.toArray 0):=by rw[<-hsz];show Lm _ rfl
 let keep:∀b o,s.heap.get? b=Po o->(((s.heap.push (qb "list" #[] 0)).update (~~~s) (dt (·++vs.toArray))).push (qb "list" vs.toArray 0)).get? b=Po o:=λb o q=>by
  let a:b<(~~~s):=Lh q;rw[ri _ _ _ (by rw[hsz];show Lr (L5 a)),NT _ _ _ _ (Lr a),ri _ _ _ (Lr a)];show q
 let ne:∀b o,s.heap.get? b=Po o->b≠(~~~s)+1:=λb o q=>by
  show Lr (L5 (Lh q))
 show kn _ _ _ _ _ { s with heap:=((s.heap.push (qb "list" #[] 0)).update (~~~s) (dt (·++vs.toArray))).push (qb "list" vs.toArray 0) };rw[hsz];show jj (qT (zv ZN (_,d,rfl) ZI ?body (args_list_sort _)))
 case body =>
  show mG (s:={ s with heap:=((s.heap.push (qb "list" #[] 0)).update (~~~s) (dt (·++vs.toArray))).push (qb "list" vs.toArray 0) }) d f g
   (λh2 h' k=>hk h2 h' λb o e=>k b o (ne b o e) (keep b o e)) λh' c k i=>(_,rfl,kf (_,rfl,?_))
  show h _ h' c (λb o e=>k b o (ne b o e) (keep b o e)) (L3 _) i
end
theorem fW{vs:Pl}{us:Ph}(r:aU vs us):∀{p:Pd},(∀i∈p,i< -vs)->aU (pick p vs .non) (pick p us dr)
 |[],_=>.nil
 |i::p,h=>by
  let hi:=h i (!1);let(u,e,a):=r.get (i:=i) (x:=vs[i]) (by simp[hi]);let e1:vs.getD i .non=vs[i]:=by simp[Lb,hi]
  let e2:us.getD i dr=u:=by rw[Lb,e];rfl
  show aU (vs.getD i .non::pick p vs .non) (us.getD i dr::pick p us dr);rw[e1,e2];show .cons a (fW r λj hj=>h j (by simp[hj]))
theorem cS{ks:OK}:∀i∈aX ks,i< -ks:=λi hi=>LP.mp ((bz ks).mem_iff.mp hi)
theorem b9{α β:Type}{lt:Nat->Nat->Bool}{f:α->KasT β}:∀t:KasT α,aB lt (t.bind f)=aB lt (f (aB lt t))
 |.ret a=>rfl
 |.ask i j k=>b9 (k (lt i j))
theorem uF{α:Type}{lt:Nat->Nat->Bool}{i j:Nat}{k:Bool->KasT α}:aB lt (.ask i j k)=aB lt (k (lt i j)):=rfl
def gA(p:O5)(k:Nat):Nat:=p.getD k 0
theorem ij{p:O5}{i j:Nat}(hj:j<=p.size)(k:Nat):gA (QP p i j) k=if i<=k/\k<j then gA p (i+j-1-k) else gA p k:=by unfold gA QP;rw[gf,getElem?_mirror_all hj];split <;> rw[gf]
theorem BS{p:O5}{a d:Nat}(hs:a<p.size)(hd:d<=a)(k:Nat):gA (bubble p a d) k=if k=a-d then gA p a else if a-d<k/\k<=a then gA p (k-1) else gA p k:=by unfold gA;rw[gf,getElem?_bubble hs d hd];by_cases c1:k=a-d;rw[OG c1,OG c1,<-gf];rw[OH c1,OH c1];by_cases c2:a-d<k/\k<=a;rw[OG c2,OG c2,<-gf];rw[OH c2,OH c2,<-gf]
theorem dO(p:O5)(i j:Nat):(QP p i j).size=p.size:=mirror_size _ _ _ _
section
variable{lt:Nat->Nat->Bool}(as:∀a b,lt a b=true->lt b a=false) (tr:∀a b c,lt a b=false->lt b c=false->lt a c=false)
def kI(lt:Nat->Nat->Bool)(p:O5)(n:Nat):Prop:=∀i,1<=i->i<n->lt (gA p i) (gA p (i-1))=Pr
def gz(lt:Nat->Nat->Bool)(p:O5)(n:Nat):Prop:=∀i,1<=i->i<n->lt (gA p (i-1)) (gA p i)=Pr
include as tr
theorem Bt(a:Nat):lt a a=Pr:=by
 cases e:lt a a with
 |false=>rfl
 |true=>let:=as a a e;rw[e]at this;cases this
theorem kI.far{p:O5}{n:Nat}(h:kI lt p n):∀d a,a+d<n->lt (gA p (a+d)) (gA p a)=Pr
 | 0,a,_=>Bt as tr _
 |d+1,a,hd=>by
  let h1:=h (a+(d+1)) (!0) hd;rw[show a+(d+1)-1=a+d by lia]at h1;show tr _ _ _ h1 (kI.far h d a (!0))
theorem kI.le{p:O5}{n:Nat}(h:kI lt p n){a b:Nat}(c:a<=b)(d:b<n):lt (gA p b) (gA p a)=Pr:=by let:=kI.far as tr h (b-a) a (!0);rwa [show a+(b-a)=b by lia]at this
theorem gz.far{p:O5}{n:Nat}(h:gz lt p n):∀d a,a+d<n->lt (gA p a) (gA p (a+d))=Pr
 | 0,a,_=>Bt as tr _
 |d+1,a,hd=>by
  let h1:=h (a+(d+1)) (!0) hd;rw[show a+(d+1)-1=a+d by lia]at h1;show tr _ _ _ (gz.far h d a (!0)) h1
theorem gz.le{p:O5}{n:Nat}(h:gz lt p n){a b:Nat}(c:a<=b)(d:b<n):lt (gA p a) (gA p b)=Pr:=by let:=gz.far as tr h (b-a) a (!0);rwa [show a+(b-a)=b by lia]at this
omit as tr in
theorem qO{p:O5}:∀(f n:Nat),1<=n->kI lt p n->n<=aB lt (Q0 p f n)/\aB lt (Q0 p f n)<=n+f/\kI lt p (aB lt (Q0 p f n))/\(aB lt (Q0 p f n)<n+f->lt (gA p (aB lt (Q0 p f n))) (gA p (aB lt (Q0 p f n)-1))=Pq)
 | 0,n,_,h=>(Lf _,Lf _,h,λz=>absurd z (L0 _))
 |f + 1,n,hn,h=>by
  let e:aB lt (Q0 p (f+1) n)=aB lt (if lt (gA p n) (gA p (n-1))=Pq then KasT.ret n else Q0 p f (n+1)):=rfl;rw[e];cases c:lt (gA p n) (gA p (n-1)) with
  |true=>show(Lf _,by show n<=_;lia,h,λY=>c)
  |false =>
   rw[OH (!2)];let(a1,a2,b,d):=qO (p:=p) f (n+1) (!0) λi hi g=>by
    by_cases a:i=n;rw[a];show c;show h i hi (!0)
   show(!0,!0,b,λz=>d (!0))
theorem tL{p:O5}{n q:Nat}(hz:n<=p.size)(c:q+1<=n)(h:gz lt p n)(b:∀i,n-(q+1)<=i->i+1<n->lt (gA p (i+1)) (gA p i)=Pr):gz lt (QP p (n-(q+1)) n) n:=by intro i h1 h2;rw[ij hz,ij hz];by_cases hi:n-(q+1)<=i;rw[OG (show n-(q+1)<=i/\i<n from(hi,h2))];by_cases a:n-(q+1)<=i-1;rw[OG (show n-(q+1)<=i-1/\i-1<n from(a,!0))];let:=b (n-(q+1)+n-1-i) (!0) (!0);rwa [show n-(q+1)+n-1-i+1=n-(q+1)+n-1-(i-1) by lia]at this;rw[OH (!0)];show gz.le as tr h (!0) (!0);rw[OH (!0),OH (!0)];show h i h1 h2
theorem AE(f:Nat):∀(p:O5) (n q:Nat),n+f<=p.size->q+1<=n->gz lt p n->(∀i,n-(q+1)<=i->i+1<n->lt (gA p (i+1)) (gA p i)=Pr) ->
  ∃g b j,aB lt (Q8 f p n q)=(g,b,j)/\g.size=p.size/\n<=b/\b<=n+f/\j+1<=b/\gz lt g b/\∀i,b-(j+1)<=i->i+1<b->lt (gA g (i+1)) (gA g i)=Pr:=by
 induction f with
 |zero=>exactλp n q Y s h k=>(p,n,q,rfl,rfl,Lf _,Lf _,s,h,k)
 |succ f ih =>
  intro p n q hz s h k;let e:aB lt (Q8 (f+1) p n q)=aB lt (if lt (gA p n) (gA p (n-1))=Pq then (if q>0 then Q8 f (QP p (n-(q+1)) n) (n+1) 0 else Q8 f p (n+1) 0)
   else .ask (p.getD (n-1) 0) (p.getD n 0) λd=>if d=Pq then .ret (p,n,q) else Q8 f p (n+1) (q+1)):=rfl
  rw[e];cases c:lt (gA p n) (gA p (n-1)) with
  |true =>
   rw[OG rfl];let c':=as _ _ c;by_cases l:q>0;rw[OG l];let hd:=tL as tr (p:=p) (n:=n) (q:=q) (!0) s h k;let(g,b,j,a1,a2,t,u,m,o,r):=ih (QP p (n-(q+1)) n) (n+1) 0 (by rw[dO];lia) (!0) (λi h1 h2=>by
    by_cases a:i=n;subst a;rw[ij (!0),ij (!0),OH (show ¬(i-(q+1)<=i/\i<i) by lia),OG (show i-(q+1)<=i-1/\i-1<i by lia)];show tr _ _ _ ?_ c';show gz.le as tr h (!0) (!0);show hd i h1 (!0)) (λi h1 h2=>!0)
   show(g,b,j,a1,by rw[a2,dO],!0,!0,m,o,r);rw[OH l];let(g,b,j,a1,a2,t,u,m,o,r):=ih p (n+1) 0 (!0) (!0) (λi h1 h2=>by
    by_cases a:i=n;subst a;show c';show h i h1 (!0)) (λi h1 h2=>!0)
   show(g,b,j,a1,a2,!0,!0,m,o,r)
  |false =>
   rw[OH (!2)];let e2:aB lt (KasT.ask (p.getD (n-1) 0) (p.getD n 0) λd=>if d=Pq then .ret (p,n,q) else Q8 f p (n+1) (q+1))=aB lt (if lt (gA p (n-1)) (gA p n)=Pq then .ret (p,n,q) else Q8 f p (n+1) (q+1)):=rfl;rw[e2];cases c2:lt (gA p (n-1)) (gA p n) with
   |true=>show(p,n,q,rfl,rfl,Lf _,!0,s,h,k)
   |false =>
    rw[OH (!2)];let(g,b,j,a1,a2,t,u,m,o,r):=ih p (n+1) (q+1) (!0) (!0) (λi h1 h2=>by
     by_cases a:i=n;subst a;show c2;show h i h1 (!0)) (λi h1 h2=>by
     by_cases a:i+1=n;rw[a];let:i=n-1:=!0
     rw[this];show c;show k i (!0) (!0))
    show(g,b,j,a1,a2,!0,!0,m,o,r)
omit as tr in
theorem mz{p:O5}{n nrem:Nat}(h1:1<=n)(hn:n<=nrem)(hz:nrem<=p.size)(h:gz lt p n) :
  ∃m a,aB lt (ZY n nrem p)=(m,a)/\a.size=p.size/\1<=m/\m<=nrem/\kI lt a m:=by
 unfold ZY;rw[b9];let b:kI lt (QP p 0 n) n:=λi d e=>by
  rw[ij (!0),ij (!0),OG (!0),OG (!0)];let:=h (n-i) (!0) (!0);rwa [show n-i-1=0+n-1-i by lia,show n-i=0+n-1-(i-1) by lia]at this
 let(a1,a2,c,_):=qO (lt:=lt) (p:=QP p 0 n) (nrem-n) n h1 b;show(_,_,rfl,dO _ _ _,!0,!0,c)
theorem im{p:O5}{n nrem:Nat}(hn:n+1<=nrem)(hz:nrem<=p.size)(h:gz lt p (n+1)) :
  ∃m a,aB lt (Z8 n nrem p)=(m,a)/\a.size=p.size/\1<=m/\m<=nrem/\kI lt a m:=by
 unfold Z8;rw[b9];let(a,b,e,a1,a2,j,k,f,d,g):=AE as tr (nrem-(n+1)) p (n+1) 0 (!0) (!0) h λi h1 h2=>!0
 rw[a1];dsimp only;split;let(m,p2,b1,b2,c):=mz (p:=QP a (b-(e+1)) b) (n:=b) (nrem:=nrem) (!0) (!0) (by rw[dO];lia) (tL as tr (!0) f d g);show(m,p2,b1,by rw[b2,dO,a2],c);let(m,p2,b1,b2,c):=mz (p:=a) (n:=b) (nrem:=nrem) (!0) (!0) (!0) d;show(m,p2,b1,by rw[b2,a2],c)
theorem yh{p:O5}{nrem:Nat}(h1:1<=nrem)(hz:nrem<=p.size):∃m f,aB lt (kas_count nrem p)=(m,f)/\f.size=p.size/\1<=m/\m<=nrem/\kI lt f m:=by
 unfold kas_count;rw[b9];let(a1,a2,g,l):=qO (lt:=lt) (p:=p) (nrem-1) 1 (Lf _) λi j k=>!0
 generalize aB lt (Q0 p (nrem-1) 1)=n at *;split;show(n,p,rfl,rfl,a1,!0,g);rename_i b;let b:n≠nrem:=λz=>b (by rw[z];simp);let h:=l (!0);let a:=as _ _ h;split;rename_i hn1;rw[uF];let e:lt (p.getD 0 0) (p.getD (n-1) 0)=lt (gA p 0) (gA p (n-1)):=rfl;rw[e];cases c:lt (gA p 0) (gA p (n-1)) with
 |true=>show(n,p,rfl,rfl,a1,!0,g)
 |false =>
  rw[OH (!2)];let(m,p2,b1,b2,o):=im as tr (p:=QP p 0 n) (n:=n) (nrem:=nrem) (!0) (by rw[dO];lia) λi j k=>by
   rw[ij (!0),ij (!0),OG (show 0<=i-1/\i-1<n by lia)];by_cases q:i<n;rw[OG (show 0<=i/\i<n by lia)];show kI.le as tr g (!0) (!0);rw[OH (show ¬(0<=i/\i<n) by lia)];let d:i=n:=!0
   subst d;rw[show 0+i-1-(i-1)=0 by lia];show tr _ _ _ c a
  show(m,p2,b1,by rw[b2,dO],o)
 rename_i hn1;let hn2:n=1:=!0
 subst hn2;show im as tr (!0) hz λi j k=>by
  let:i=1:=!0
  subst this;show a
theorem i7{p:O5}{k:Nat}(h:kI lt p k):∀f l r,l<=r->r<=k->r-l<=f->(∀i,i<l->lt (gA p k) (gA p i)=Pr)->(∀i,r<=i->i<k->lt (gA p k) (gA p i)=Pq) ->
  ∃m,aB lt (QW p k f l r)=m/\m<=k/\(∀i,i<m->lt (gA p k) (gA p i)=Pr)/\∀i,m<=i->i<k->lt (gA p k) (gA p i)=Pq
 | 0,l,r,h1,h2,j,hl,d=>(l,rfl,!0,hl,λi g a=>d i (!0) a)
 |f + 1,l,r,h1,h2,j,hl,d=>by
  by_cases b:l≥r;let e:aB lt (QW p k (f+1) l r)=l:=by show aB lt (if l≥r then KasT.ret l else _)=_;rw[OG b];rfl
  show(l,e,!0,hl,λi g a=>d i (!0) a);let e:aB lt (QW p k (f+1) l r)=aB lt (if lt (gA p k) (gA p ((l+r) / 2))=Pq then QW p k f l ((l+r) / 2) else QW p k f ((l+r) / 2+1) r):=by show aB lt (if l≥r then KasT.ret l else _)=_;rw[OH b];rfl
  rw[e];cases c:lt (gA p k) (gA p ((l+r) / 2)) with
  |true =>
   rw[OG rfl];show i7 h f l ((l+r) / 2) (!0) (!0) (!0) hl λi g a=>?_;cases c2:lt (gA p k) (gA p i) with
   |true=>rfl
   |false =>
    let:=tr _ _ _ c2 (kI.le as tr h g a);rw[c]at this;cases this
  |false =>
   rw[OH (!2)];show i7 h f ((l+r) / 2+1) r (!0) h2 (!0) (λi g=>?_) d;show tr _ _ _ c (kI.le as tr h (!0) (!0))
theorem yq:∀(f:Nat) (p:O5) (k:Nat),k+f=p.size->kI lt p k->kI lt (aB lt (kas_bin f p k)) p.size
 | 0,p,k,e,h=>by
  rw[<-e,Nat.add_zero];show h
 |f + 1,p,k,e,h=>by
  let e1:aB lt (kas_bin (f+1) p k)=aB lt (kas_bin f (bubble p k (k-aB lt (QW p k k 0 k))) (k+1)):=by show aB lt ((QW p k k 0 k).bind _)=_;rw[b9]
  rw[e1];let(m,c,j,hl,d):=i7 as tr h k 0 k (Ln _) (Lf _) (!0) (λi hi=>!0) λi b g=>!0
  rw[c];let hsz:(bubble p k (k-m)).size=p.size:=bubble_size _ _ _;rw[<-hsz];show yq f _ (k+1) (by rw[hsz];lia) λi b g=>?_;rw[BS (!0) (!0),BS (!0) (!0),show k-(k-m)=m by lia];by_cases c1:i=m;rw[OG c1,OH (!0),OH (!0)];show hl (i-1) (!0);rw[OH c1];by_cases c2:m<i;rw[OG (show m<i/\i<=k by lia)];by_cases a:i-1=m;rw[OG a,a];show as _ _ (d m (Lf _) (!0));rw[OH a,OG (show m<i-1/\i-1<=k by lia)];show h (i-1) (!0) (!0);rw[OH (!0),OH (!0),OH (!0)];show h i b (!0)
theorem yZ{n:Nat}(h1:1<=n):kI lt (aB lt (Qz n)) n:=by
 unfold Qz;rw[b9];let hz:(mu (dm n)).size=n:=!1
 let(m,p,a1,a2,c,d,b):=yh as tr (p:=mu (dm n)) (nrem:=n) h1 (by rw[hz];show Lf _);rw[a1];dsimp only;rw[hz]at a2;split;rw[show max m 1=m by lia];let:=yq as tr (n-m) p m (!0) b;rwa [a2]at this;let a:n=m:=!0
 rw[a];show b
end
section
variable{M:ZF}{A:Around}{E:ba->bb->Prop}{env:Env}{nm q:ck}{C N:aG}{bs bm:Ph}{hdct:Bool}{sn:Pi}{sub:Ph}{ab:Bool}{col:Option Bool}{dd:O4}{k0 k1 k2 k3 k5:O3}{newId:String}
theorem um{s:bb}{x:Sem ba}{Q:Flow->bb->Prop}(b:bm.contains (.type "BaseException")=true)(i:A.handled=none)
  (h : kn M A x (λv a=>∃e t dx sl,v=.ref e/\a.heap.get? C=some (z5 nm q C N bs bm hdct sn sub ab col dd k0 k1 k2 k3 k5 newId) /\
   a.heap.get? e=some { cls:=.ref C,dict:=dx,data:=.fields #[.ref t,.none,.none,.none,.bool false,.none],slots:=sl }/\E (.ref e) a) E s) :
  kn M A (raiseStmt env (some x) none) Q E s:=by
 let c:(di C::bm).contains (.type "BaseException")=Pq:=by rw[MG,b,Mv]
 unfold raiseStmt;show jj (qD h (λv a h₁=>?_) λY Y x=>x);let(e,t,dx,sl,rfl,f,j,k):=h₁;let(l,g,d,tk,os):=a
 repeat (first|with_reducible show qs j ?_|with_reducible show qs f ?_|(with_reducible show Qa f ?_;rw[c])|wp_step)
 show wpAny_raiseNew_none i k
end
open Builtin Builtin.ObjectAttr
structure uT(l:Pa)(e old:aG)(oe:Obj)(vs:O8)(fl:ba)(h h':cc)(T:aG):Prop where
 self:h'.get? e=some { cls:=oe.cls,dict:=oe.dict,data:=.fields (vs.setIfInBounds 1 (.ref T)),slots:=oe.slots }
 new:h.objs.size<=T
 ent:∃oT ts,h'.get? T=some oT/\oT.data=.fields ts/\ts[3]?=some fl
 keep:∀b o,b≠e->b≠old->b ∉ frs l->h.get? b=some o->h'.get? b=some o
 slot:∀b o,b≠e->b≠old->h.get? b=some o->∃sl,h'.get? b=some { o with slots:=sl }
 sz : h.objs.size<=h'.objs.size
section
variable{M:ZF}{A:Around}{E:ba->bb->Prop}{s:bb}
theorem nU{base:cc}{env:Env}{outer:Pa}{L e:aG}{oe:Obj}{vs:O8}{head:ba}{d:Bool}{Q:Unit->bb->Prop}
  (q:A.frames=some (env::outer)) (hl:s.heap.FunFrames base (env::outer)) (w:env.frame=some L) (v:s.heap.get? e=some oe) (hd:oe.data=.fields vs) (hsz:1<vs.size)
  (h : ∀h' T,uT (env::outer) e e oe vs (Qk L) s.heap h' T->Q () { s with heap:=h' }) :
  kn M A (do let a <-frameOf env;let pl <-entryPlaceOf L d;let b <-EntryCells.newEntry head a .none (Qk L) .none pl;setField (.ref e) 1 b) Q E s:=by
 let n:e ∉ (env::outer).filterMap (·.frame):=λx=>by
  let(_,o,ho,r):=hl.mem x;rw[v]at ho;injection ho with ho;subst ho;show r vs hd
 show jj (wpAny_frameOf_fun q hl w λh₁ c=>?_);show jj (wpAny_entryPlaceOf λpl p=>?_);unfold EntryCells.newEntry newFields;show jj (KP ?_ (p.sizeOk5 _ _ _ _ _));let f:h₁.get? e=Po oe:=(c.2.1 e n).trans v;let g:=La (h:=h₁) { cls:=.type "traceback",dict:=Pp,data:=.fields ([head,.ref L,.none,Qk L,.none]++(if pl.isEmpty then LM 6 dr else pl)).toArray } f;show Qy g hd hsz (h _ h₁.objs.size ?_);let t:h₁.objs.size≠e:=L9 (Lh f);let k:=i2 hd (·.setIfInBounds 1 (di h₁.objs.size));let l:=LG (lx (·.setIfInBounds 1 (di h₁.objs.size))) g (pu k);let m:=(Lx (h₁.push { cls:=.type "traceback",dict:=Pp,data:=.fields ([head,.ref L,.none,Qk L,.none]++(if pl.isEmpty then LM 6 dr else pl)).toArray })
  (lx (·.setIfInBounds 1 (di h₁.objs.size))) (Ne.symm t)).trans (Lm h₁ rfl)
 let keep:∀b o,b≠e->h₁.get? b=Po o ->
   ((h₁.push { cls:=.type "traceback",dict:=Pp,data:=.fields ([head,.ref L,.none,Qk L,.none]++(if pl.isEmpty then LM 6 dr else pl)).toArray }).update e (lx (·.setIfInBounds 1 (di h₁.objs.size)))).get? b=Po o :=
  λb o i u=>by
   rw[Lx _ _ (Ne.symm i)];show La _ u
 let j:(~~~s)<=h₁.objs.size:=MI c.1.symm;show(?_,j,(_,_,m,rfl,by first|(simp;done)|(rcases p with rfl|⟨_,_,_,_,_,_,_,rfl⟩ <;> simp)),λb o i Y u ho=>?_,λb o i Y ho=>?_,?_);rw[l];let(oc,od,y,osl):=oe;dsimp only at hd;subst hd;rfl;show keep b o i ((c.2.1 b u).trans ho);let(sl,hs):=c.2.2 b o ho;show(sl,keep b _ i hs);rw[Mr,da];show Nat.le_succ_of_le j
def Trc(h:cc)(e:aG)(oe:Obj)(vs:O8)(T:aG)(fl:ba):Prop :=
 h.get? e=Po oe/\oe.data=.fields vs/\vs[1]?=Po (.ref T)/\T≠e/\∃oT ts,h.get? T=Po oT/\oT.data=.fields ts/\ts[3]?=Po fl
theorem uT.trc{l:Pa}{e old:aG}{oe:Obj}{vs:O8}{fl:ba}{h h':cc}{T:aG}(x:uT l e old oe vs fl h h' T)(a:h.get? e=some oe)(hsz:1<vs.size) :
  Trc h' e { cls:=oe.cls,dict:=oe.dict,data:=.fields (vs.setIfInBounds 1 (.ref T)),slots:=oe.slots } (vs.setIfInBounds 1 (.ref T)) T fl :=
 (x.self,rfl,by simp[hsz],L9 (Lg (Lh a) x.new),x.ent)
theorem gT{e T:aG}{oe:Obj}{vs:O8}{fl:ba}{Q:Unit->bb->Prop}(x:Trc s.heap e oe vs T fl)
  (h : ∀h',Trc h' e oe vs T .none->(∀b o,b≠T->s.heap.get? b=some o->h'.get? b=some o)->h'.objs.size=s.heap.objs.size->Q () { s with heap:=h' }):kn M A (setFlight (.ref e) none) Q E s:=by
 let(i,hd,h1,d,oT,ts,j,c,k):=x;let a:3<ts.size:=(em.mp k).1;let other:∀b,b≠T->(s.heap.update T (lx (·.setIfInBounds 3 ((Pp:O4).elim dr λf=>Qk f)))).get? b=s.heap.get? b :=
  λb g=>Lx _ _ (Ne.symm g)
 unfold setFlight;show jj (QH i hd h1 ?_);rw[OG (show(di T != dr)=Pq from by simp)];show Qy j c a (h _ ((other e (Ne.symm d)).trans i,hd,h1,d,_,_,LG _ j (pu (i2 c _)),i2 c _,by simp[a]) (λb o g ho=>(other b g).trans ho) (Mr _ _ _))
inductive Fly (h:cc) (e:aG) (oe:Obj) (vs:O8):aG->Prop
 |new:h.get? e=some oe->oe.data=.fields vs->vs[1]?=some .none->Fly h e oe vs e
 |on {T:aG}:Trc h e oe vs T .none->Fly h e oe vs T
theorem j8{base:cc}{env:Env}{outer:Pa}{L e old:aG}{oe:Obj}{vs:O8}{Q:Unit->bb->Prop}
  (g:A.frames=some (env::outer)) (hl:s.heap.FunFrames base (env::outer)) (k:env.frame=some L) (x:Fly s.heap e oe vs old)
  (h : ∀h' T,uT (env::outer) e old oe vs (Qk L) s.heap h' T->Q () { s with heap:=h' }):kn M A (ZX (.ref e) env) Q E s:=by
 unfold ZX;simp only[k];cases x with
 |new i hd h1 =>
  show jj (QH i hd h1 ?_);rw[OH (!2)];show nU g hl k i hd (em.mp h1).1 h
 |on x =>
  let(i,hd,h1,l,oT,ts,m,d,j):=x;show jj (QH i hd h1 ?_);rw[OG (show(di old != dr)=Pq from by simp)];show jj (QH m d j ?_);rw[OH (show ¬((dr==Qk L)=Pq) from by simp[Qk])];show jj (Qy m d (em.mp j).1 ?_);let other:∀b,b≠old->(s.heap.update old (lx (·.setIfInBounds 3 dr))).get? b=s.heap.get? b:=λb c=>Lx _ _ (Ne.symm c);let a:∀b o,s.heap.get? b=Po o->(∀vs,o.data≠.fields vs)->b≠old:=λb o c f q=>by
   rw[q,m]at c;injection c with c;subst c;show f ts d
  show nU (s:={ s with heap:=s.heap.update old (lx (·.setIfInBounds 3 dr)) }) g (hl.of_keeps λb o c f=>(o,(other b (a b o c f)).trans c,rfl)) k ((other e (Ne.symm l)).trans i) hd (em.mp h1).1 λh' T y=>h h' T ?_;let hsz:(s.heap.update old (lx (·.setIfInBounds 3 dr))).objs.size=(~~~s):=Mr _ _ _;show(y.self,by let:=y.new;rw[<-hsz];show this,y.ent,λb o h1 h2 j ho=>y.keep b o h1 h1 j ((other b h2).trans ho),λb o h1 h2 ho=>y.slot b o h1 h1 ((other b h2).trans ho),by let:=y.sz;rw[<-hsz];show this)
theorem qh{base:cc}{env:Env}{outer:Pa}{L e old:aG}{oe:Obj}{vs:O8}{Q:Unit->bb->Prop}
  (a:A.frames=some (env::outer)) (hl:s.heap.FunFrames base (env::outer)) (d:env.frame=some L) (x:Fly s.heap e oe vs old)
  (h : ∀h' T,uT (env::outer) e old oe vs .none s.heap h' T->Q () { s with heap:=h' }):kn M A (Z7 env (.ref e)) Q E s:=by
 let hx:s.heap.get? e=Po oe/\1<vs.size:=by
  cases x with
  |new f hd h1=>show(f,(em.mp h1).1)
  |on x=>show(x.1,(em.mp x.2.2.1).1)
 unfold Z7;show jj (j8 a hl d x λh1 T y=>?_);show gT (y.trc hx.1 hx.2) λh2 z k hsz=>?_;let c:∀b o,s.heap.get? b=Po o->b≠T:=λb o ho=>Lr (Lg (Lh ho) y.new);show h h2 T (z.1,y.new,z.2.2.2.2,λb o h1 h2 g ho=>k b o (c b o ho) (y.keep b o h1 h2 g ho),λb o h1 h2 ho=>?_,Ld y.sz (MI hsz.symm));let(sl,q):=y.slot b o h1 h2 ho;show(sl,k b _ (c b o ho) q)
end
abbrev bmV:Ph:=[.type "ValueError",.type "Exception",.type "BaseException",.type "object"]
def jE(e C:aG)(dx:O4)(h:cc):Prop:=∃t sl,h.get? e=Po { cls:=.ref C,dict:=dx,data:=.fields #[.ref t,.none,.none,.none,.bool Pr,.none],slots:=sl }
theorem jE.ok{P:ky}{w:kD}{H:Hp}{h:cc}{e C:aG}{dx:O4}(x:jE e C dx h):cO P w H h e (.ext (jE e C dx)):=by let(t,sl,q):=id x;show(x,(_,q),λh1 h2 ⟨t,sl,q⟩ k=>(t,sl,k _ q))
theorem fC.ok{P:ky}{w:kD}{H:Hp}{h:cc}{e C:aG}{dx:O4}(x:fC e C dx h):cO P w H h e (.ext (fC e C dx)):=by let(t,sl,q):=id x;show(x,(_,q),λh1 h2 ⟨t,sl,q⟩ k=>(t,sl,k _ q))
def CXE(P:ky)(w:kD):CXT:=λouter H s E e s'=>∃a C dx T H',e=.ref a/\s'.os=s.os/\Q1 s'.gens/\Un (frs outer) [] H H' s.heap s'.heap/\HOk P w H' s'.heap /\
 s.heap.get? a=Pp/\s.heap.get? T=Pp/\H' T=Pp/\H' a=Po (.ext (fC a C dx))/\(∃oe vs,Trc s'.heap a oe vs T .none)/\E (.ref C) dx H'
section
variable{P:ky}{w:kD}{K:cp}{mg:ck->O3}{base:cc}{N:Pi}{qual:ck}{scope:Qc}{f:aG}{cd:ba}{A:Around}{outer:Pa}{s:bb}{H:Hp}{E:XK}
theorem sJ{pins:OU}{σ:St}{H1:Hp}{s1:bb}{a C old:aG}{dx:O4}{oe:Obj}{vs:O8}(I:Inv (gC (CXE P w) P w K mg base N qual scope f cd A outer s H E) pins σ H1 s1)
  (j:H1 a=Po (.ext (fC a C dx))) (na:s.heap.get? a=Pp) (fl:Fly s1.heap a oe vs old) (ho:old=a\/H1 old=Pp/\s.heap.get? old=Pp) (q:E (.ref C) dx H1) :
  (gC (CXE P w) P w K mg base N qual scope f cd A outer s H E).xe (.ref a) s1:=by
 cbv;obtain⟨X,J⟩:∃X,X=gC (CXE P w) P w K mg base N qual scope f cd A outer s H E:=(_,rfl)
 let k:s.heap.get? old=Pp:=by rcases ho with rfl|ho;show na;show ho.2
 let hx:s1.heap.get? a=Po oe/\oe.data=.fields vs/\1<vs.size:=by
  cases fl with
  |new t hd h1=>show(t,hd,(em.mp h1).1)
  |on x=>show(x.1,x.2.1,(em.mp x.2.2.1).1)
 let((vs',sl,g),_):=I.hok a _ j;let v:oe={ cls:=.ref C,dict:=dx,data:=.fields vs',slots:=sl }:=by let:=hx.1;rw[g]at this;show(du this).symm
 subst v
 w_up;show kn (kq P w) (A.deeper (QA qual scope (~~~s) f cd)) (Z7 (QA qual scope (~~~s) f cd) (.ref a)) _ _ s1;show qh (base:=base) (L:=(~~~s)) I.ok.frames I.stack rfl fl λh2 T y=>?_;let h:∀b o,s.heap.get? b=Po o->b≠a/\b≠old/\b≠(~~~s):=λb o e=>by
  let:=Lh e;show((λz=>by rw[z,na]at e;cases e),(λz=>by rw[z,k]at e;cases e),Lr this)
 let p:frs (QA qual scope (~~~s) f cd::outer)=(~~~s)::frs outer:=rfl;let tr:∀b o,H1 b=Po o->b ∉ frs (QA qual scope (~~~s) f cd::outer):=λb o e z=>by
  let:=I.stkFree b z;rw[e]at this;cases this
 let B:H1 T=Pp:=I.hok.fresh y.new;show(a,C,dx,T,H1,rfl,I.os,I.bare,(λb o e n d hx=>?_,λb o e n d hx=>?_,I.base.free,λb o e hx=>?_,I.base.tups,I.base.frzs,I.base.tbls),λb o e=>?_,na,MA (Ld I.sz y.new),B,j,(_,_,y.trc hx.1 hx.2.2),q);let(l,z2,z3):=h b o e;show y.keep b o l z2 ?_ (I.base.keep b o e n d hx);rw[p]
 exactλz=>(K9.mp z).elim z3 d
 .cbv;let(l,z2,z3):=h b o e;let(D,e1):=I.base.slot b o e n d hx;let(m,e2):=y.slot b _ l z2 e1
  w_up;show(m,e2)
 .cbv;let(l,z2,z3):=h b o e;let(M,e1):=I.base.there b o e hx;let(m,e2):=y.slot b _ l z2 e1
  w_up;show(_,e2)
 .by_cases d:b=a
  .cbv;subst d;rw[j]at e;cases e
   w_up;show fC.ok (_,_,y.self)
  show(I.hok b o e).stay (λc u hc F=>?_) (λc hc=>hc) λc u Y hc=>hc;let r:∃u,H1 c=Po u:=by rcases hc with rfl|hc;show(_,e);show(_,hc)
  let(G,i):=r;show y.keep c u ?_ ?_ (tr c G i) F;rcases hc with rfl|hc;show d;intro z;rw[z,j]at hc;cases hc;intro z;rcases ho with ho|ho;rcases hc with rfl|hc;show d (z.trans ho);rw[z,ho,j]at hc;cases hc;rw[z,ho.1]at i;cases i
theorem gj:fJ (CXE P w) (gC (CXE P w) P w K mg base N qual scope f cd A outer s H E) E:=by
 intro pins σ H1 s1 e s' I c;let(a,C,dx,T,H',d,os,bare,un,hok,na,g,h,i,(oe,vs,tr),q):=c;subst d;let up:∀b,s1.heap.get? b=Pp->s.heap.get? b=Pp:=λb z=>by
  cases e:s.heap.get? b with
  |none=>rfl
  |some o =>
   let(o',e'):=I.base.there b o e (λz=>nomatch z);rw[z]at e';cases e'
 show sJ (I.call' (ch:=[]) os un hok bare (λb z=>nomatch z)) i (up a na) (.on tr) (.inr (h,up T g)) q
end
abbrev Cx.marked(X:Cx)(e:ba):Cx:={ X with A:=X.A.mark (Po e),calm:=Pr,xe:=λY Y=>False }
section
variable{X:Cx}{pins:OU}{σ:St}{H:Hp}{s:bb}{e:ba}
theorem Cx.Ok.marked(ok:X.Ok)(e:ba):(X.marked e).Ok :=
 (ok.mod,ok.kind,ok.glob,ok.blt,ok.above,ok.inj,ok.has,ok.cab,(λz=>by cases z),ok.frames,ok.stk,ok.exf,ok.bs,ok.bsz,ok.noex,ok.exfs,ok.funs,ok.frf,ok.tab)
theorem Inv.marked(I:Inv X pins σ H s)(e:ba):Inv (X.marked e) pins σ H s:=(I.ok.marked e,I.os,I.bare,I.base,I.loc,I.cell,I.free,I.freeC,I.pin,I.hok,I.len)
theorem Inv.unmarked(I:Inv (X.marked e) pins σ H s)(ok:X.Ok):Inv X pins σ H s:=(ok,I.os,I.bare,I.base,I.loc,I.cell,I.free,I.freeC,I.pin,I.hok,I.len)
theorem SP.unmarked{D:oW}{f:Flow}{s':bb}(h:SP (X.marked e) pins D f s')(ok:X.Ok):SP X pins D f s':=by
 cases f with
 |next=>let(σ',H',I,q):=h;show(σ',H',I.unmarked ok,q)
 |brk=>let(σ',H',I,q):=h;show(σ',H',I.unmarked ok,q)
 |cont=>let(σ',H',I,q):=h;show(σ',H',I.unmarked ok,q)
 |ret u=>let(v,σ',H',I,r,q):=h;show(v,σ',H',I.unmarked ok,r,q)
end
section
variable{P:ky}{w:kD}{H H':Hp}{h0 h h2:cc}{a old C T:aG}{dx:O4}{oe:Obj}{vs:O8}{fl:ba}{outer:Pa}
theorem DK(un:Un (frs outer) [] H H' h0 h)(hok:HOk P w H' h)(na:h0.get? a=Pp)(no:h0.get? old=Pp)(k:H' a=Po (.ext (fC a C dx)))(ho:old=a\/H' old=Pp)(frf:∀b∈frs outer,H' b=Pp)
  (y : uT outer a old oe vs fl h h2 T) (m:oe.cls=.ref C) (p:oe.dict=dx):Un (frs outer) [] H H' h0 h2/\HOk P w H' h2:=by
 let g:∀b o,h0.get? b=Po o->b≠a/\b≠old:=λb o e=>by
  show((λz=>by rw[z,na]at e;cases e),(λz=>by rw[z,no]at e;cases e))
 show((λb o e n f hx=>?_,λb o e n f hx=>?_,un.free,λb o e hx=>?_,un.tups,un.frzs,un.tbls),λb o e=>?_);let(i,z2):=g b o e;show y.keep b o i z2 f (un.keep b o e n f hx)
 .cbv;let(i,z2):=g b o e;let(q,e1):=un.slot b o e n f hx;let(j,e2):=y.slot b _ i z2 e1
  w_up;show(j,e2)
 .cbv;let(i,z2):=g b o e;let(s,e1):=un.there b o e hx;let(j,e2):=y.slot b _ i z2 e1
  w_up;show(_,e2)
 .by_cases f:b=a
  .cbv;subst f;rw[k]at e;cases e
   w_up;show fC.ok (vs.setIfInBounds 1 (.ref T),oe.slots,?_);rw[<-m,<-p];show y.self
  show(hok b o e).stay (λc u hc r=>?_) (λc hc=>hc) λc u Y hc=>hc;let l:∃u,H' c=Po u:=by rcases hc with rfl|hc;show(_,e);show(_,hc)
  let(t,d):=l;show y.keep c u ?_ ?_ (λz=>by rw[frf c z]at d;cases d) r;rcases hc with rfl|hc;show f;intro z;rw[z,k]at hc;cases hc;intro z;rcases ho with ho|ho;rcases hc with rfl|hc;show f (z.trans ho);rw[z,ho,k]at hc;cases hc;rw[z,ho]at d;cases d
theorem Bq(un:Un (frs outer) [] H H' h0 h)(hok:HOk P w H' h)(i:h0.get? T=Pp)(g:H' T=Pp)(k:∀b o,b≠T->h.get? b=Po o->h2.get? b=Po o):Un (frs outer) [] H H' h0 h2/\HOk P w H' h2:=by
 let a:∀b o,h0.get? b=Po o->b≠T:=λb o e z=>by rw[z,i]at e;cases e
 show((λb o e n d hx=>k _ _ (a b o e) (un.keep b o e n d hx),λb o e n d hx=>?_,un.free,λb o e hx=>?_,un.tups,un.frzs,un.tbls),λb o e=>?_);let(f,e1):=un.slot b o e n d hx;show(f,k _ _ (a b o e) e1);let(j,e1):=un.there b o e hx;show(j,k _ _ (a b o e) e1);show(hok b o e).stay (λc u hc l=>k c u ?_ l) (λc hc=>hc) λc u Y hc=>hc;intro z;rcases hc with rfl|hc;rw[z,g]at e;cases e;rw[z,g]at hc;cases hc
end
section
variable{prog:ky}{w:kD}{A:Around}{E:ba->bb->Prop}{h:cc}{g:Array ZR}{d:Drawn}{t:Nat}{os:OsState}
variable{nm q:ck}{C N:aG}{bs bm bmB:Ph}{hdct:Bool}{sn:Pi}{sub:Ph}{ab:Bool}{col:Option Bool}{dd:O4}{k0 k1 k2 k3 k5:O3}{B newId initId:String}
theorem t8(F:ExcBaseFacts B newId initId bmB)(T:OwnTail h bmB bm){rest:Ph}{Q:Fin->bb->Prop}
  (f:h.get? C=some (z5 nm q C N bs bm hdct sn sub ab col dd k0 k1 k2 k3 k5 newId)) (hi:Looks (kq prog w) h (QY (.ref C) "__init__") (some (.builtin initId)))
  (l:∀h' e,Oq h h' e (.ref C) rest->h.objs.size<=e->Q (.done (.ret (.ref e))) (h',g,d,t,os)) (hrest:rest.length<=sizeLine⊕'PJ) :
  kn (kq prog w) A (Builtin.«type.__call__» (.ref C::rest,[])) Q E (h,g,d,t,os):=by
 repeat (first|with_reducible show qs f ?_|with_reducible show wpAny_madeBy_exc f ?_|wp_step)
 show codeAny_call_builtin_code (Code.quiet_builtin _ F.quiet) (wpAny_check_new_subU F F.hasB T f ?_);show codeAny_exc_new_subU F F.hasB F T f ?_ hrest;show kn _ _ _ _ _ _;let a:=La { cls:=.ref C,data:=.fields #[.ref h.objs.size,.none,.none,.none,.bool Pr,.none] }
  (La { cls:=.type "tuple",data:=.seq rest.toArray } f)
 let c:((h.push { cls:=.type "tuple",data:=.seq rest.toArray }).push
   { cls:=.ref C,data:=.fields #[.ref h.objs.size,.none,.none,.none,.bool Pr,.none] }).get? (h.objs.size+1)=Po
   { cls:=.ref C,data:=.fields #[.ref h.objs.size,.none,.none,.none,.bool Pr,.none] }:=by heap_get
 let j:(di C::bm).contains (.ref C)=Pq:=!1
 let i:=T.keeps (h':=(h.push { cls:=.type "tuple",data:=.seq rest.toArray }).push { cls:=.ref C,data:=.fields #[.ref h.objs.size,.none,.none,.none,.bool Pr,.none] })
  λb o e=>La _ (La _ e)
 unfold Zq
 repeat (first|with_reducible show qs c ?_|(with_reducible show Qa a ?_;rw[j])|wp_step)
 show kn _ _ (QY (.ref C) _) _ _ _;show(hi.keeps (h':=(h.push { cls:=.type "tuple",data:=.seq rest.toArray }).push { cls:=.ref C,data:=.fields #[.ref h.objs.size,.none,.none,.none,.bool Pr,.none] }) λb o e=>La _ (La _ e)).at ?_;show qT (jj (ZD (F.init.bind _) ?_));show jj (QN (QR F.init.plain F.initEntry (wpAny_check_init_subU F i a c rfl ?_)))
 wp_walk
 show l _ _ (λb o k=>?_,MA (L3 _),h.objs.size+2,?_,MA (!0),?_) (L3 _);rw[Lx _ _ (L9 (L5 (Lh k)))];show La _ (La _ (La _ k));rw[LG _ (La _ c) rfl];simp only[da];rfl;rw[Lx _ _ (show h.objs.size+1≠h.objs.size+2 by lia)];show Heap.get?_push_at (by simp only[da]) rfl
theorem JP(F:ExcBaseFacts B newId initId bmB)(T:OwnTail h bmB bm){rest:Ph}{Q:ba->bb->Prop}
  (a:h.get? C=some (z5 nm q C N bs bm hdct sn sub ab col dd k0 k1 k2 k3 k5 newId)) (hi:Looks (kq prog w) h (QY (.ref C) "__init__") (some (.builtin initId)))
  (b:∀h' e,Oq h h' e (.ref C) rest->h.objs.size<=e->Q (.ref e) (h',g,d,t,os)) (hrest:rest.length<=sizeLine⊕'PJ) :
  kn (kq prog w) A (call (.ref C) rest) Q E (h,g,d,t,os):=by
 let f:=tc_lookup;let i:=tc_bind (.ref C);let j:((h,g,d,t,os):bb).TypeIs (.ref C) "type" := (_,a,rfl)
 show QN (codeAny_of_tree ?_);show kn _ _ (callAny (.ref C) _) _ _ _
 repeat (any_goals (first|assumption|with_reducible show qs a ?_|wp_step))
 show(rfl,?_);show codeAny_call_builtin_at (Code.quiet_builtin _ (!3)) entry_typeCall (wpAny_check_type_call_sub a (t8 (hrest:=hrest) F T a hi λh' e c h1=>?_));show b h' e c h1
theorem uA{M:ZF}{D w:aG}{e:aG}{oe:Obj}{l x:ck}{m a:Ph}{n:Bool}{o:Pi}{c:Ph}{p:Bool}{i:Option Bool}{r:O4}{y z j2 B F:O3}{j:String}{Q:Bool->bb->Prop}
  (G:h.get? C=Po (z5 nm q C N bs (.ref D::bm) hdct sn sub ab col dd k0 k1 k2 k3 k5 newId)) (v:h.get? D=Po (z5 l x D w m a n o c p i r y z j2 B F j))
  (H:h.get? e=Po oe) (k:oe.cls=.ref C) (b:a.contains (.type "BaseException")=Pq)
  (I:Q Pq (h,g,d,t,os)):kn M A (excMatches (.ref e) (.ref D)) Q E (h,g,d,t,os):=by
 let s:(di D::a).contains (.type "BaseException")=Pq:=by rw[MG,b,Mv]
 let u:(di C::.ref D::bm).contains (.ref D)=Pq:=!1
 let f:=tc_notTuple;unfold excMatches
 repeat (first|(with_reducible show qs H ?_;rw[k])|with_reducible show qs v ?_|(with_reducible show Qa v ?_;rw[s])|(with_reducible show Qa G ?_;rw[u])|wp_step)
 show I
end
structure fT(K:cp)(C D:aG):Prop where
 obj:∃nm q N bs sn sub ab col dd k0 k1 k2 k3 k5,K.lookup C=some (z5 nm q C N bs (.ref D::bmV) true sn sub ab col dd k0 k1 k2 k3 k5 "ValueError.__new__")/\tailIn K bmV (.ref D::bmV)=true
 up : ∃nm q N bs hd sn sub ab col dd k0 k1 k2 k3 k5 nw,K.lookup D=some (z5 nm q D N bs bmV hd sn sub ab col dd k0 k1 k2 k3 k5 nw)
 init:ed K (.ref C) "__init__" = some (some (.builtin "ValueError.__init__"))
 kp : eE K (.ref C)=true
section
variable{X:Cx}{C D:aG}{x:ck}{e:bi}{t:TA}{p pos:Pos}
def Fz(C:aG)(t:TA):TE:=λσ H Q=>t σ H λvs H1=>∃y,vs=[y]/\∀a,H1 a=Pp->Q (.ref a) (upd H1 a (.ext (jE a C Pp)))
theorem Dl(cls:fT X.K C D)(j:Gl X x)(k:X.mg x=some (.ref C))(l:PA X [e] t)
  (f:(x==("__debug__" : ck))=false⊕'Pu) (m:kh [e] X.env=(false,eval e X.env)::kh [] X.env⊕'Pt) (g:(qr pos (kh [] X.env)).any (·.1)=false⊕'Pt) :
  PE X (.Call (.Name x p) [e] [] pos) (Fz C t):=by
 intro pins s σ H Q I h;show Qb (gS I j k ?_ f);show pC (h₀:=X.base) I.ok.mod.kin cls.kp (thn (l pos pins s σ H _ I h) λus s1 n=>?_) m g;let(vs,H1,b,r,y,ev,q):=n;show(b.kIn,?_)
 cbv;subst ev;let(u,rfl,z):=aU.one r;let(nm,A,N,bs,sn,sub,ab,col,dd,k0,k1,k2,k3,k5,lk,tl):=cls.obj;let(h1,B,d1,t1,v):=s1
 w_up;show JP (F:=PySem.F.excBase_ValueError) (bmB:=bmV) (tail_of_in b.kIn tl) (b.kIn _ _ lk) (looks_findIn b.kIn cls.init) λh' a c d=>?_;let(ta,ga,_,_):=c.there;let i:H1 a=Pp:=b.hok.fresh d;let w:=b.laid (t':=t1) (a:=a) (o:=.ext (jE a C Pp)) (h':=h') c.keeps d (jE.ok (_,_,ga));show(V.ref a,_,w,rfl,q a i)
end
section
variable{P:ky}{w:kD}{K:cp}{mg:ck->O3}{base:cc}{N:Pi}{qual:ck}{scope:Qc}{f:aG}{cd:ba}{A:Around}{outer:Pa}{s:bb}{H:Hp}{E:XK}
def CC(C:aG)(E:XK)(Hs:Hp)(te:TE):TS:=λY σ H=>te σ H λv H1=>∃a,v=.ref a/\Hs a=Pp/\H1 a=Po (.ext (jE a C Pp))/\E (.ref C) Pp (upd H1 a (.ext (fC a C Pp)))
theorem wu{e:bi}{te:TE}{pos:Pos}{C D:aG}(j:A.handled=Pp)(cls:fT K C D)(k:PE (gC (CXE P w) P w K mg base N qual scope f cd A outer s H E) e te) :
  PS (gC (CXE P w) P w K mg base N qual scope f cd A outer s H E) (.Raise (Po e) Pp pos) (CC C E H te):=by
 intro pins l σ H0 B I h;rw[arm_exec_Raise];show jj (QE ?_);let(nm,m,NN,bs,sn,sub,ab,col,dd,k0,k1,k2,k3,k5,lk,tl):=cls.obj;show kn _ _ (raiseStmt _ (Po (do let v <-eval e _;Qn pos;pure v)) Pp) _ _ _;show um (bm:=.ref D::bmV) (C:=C) (nm:=nm) (q:=m) (N:=NN) (bs:=bs) (hdct:=Pq) (sn:=sn) (sub:=sub) (ab:=ab) (col:=col) (dd:=dd) (k0:=k0) (k1:=k1) (k2:=k2) (k3:=k3) (k5:=k5) (newId := "ValueError.__new__") rfl j ?_;show jj (thn (k pins l σ H0 _ I h) λu s1 n=>?_);let(v,H1,c,p,a,ev,d,i,r):=n;show jj (QE (kf ?_))
 cbv;subst ev;obtain rfl:u=di a:=p;let((t,sl,g),_):=c.hok a _ i
 w_up;show(a,t,Pp,sl,rfl,c.kIn _ _ lk,g,?_);let y:=c.write (x:=a) (e:=a) (t':=s1.toks) (o:=.ext (fC a C Pp)) (h':=s1.heap) (by rw[i];trivial) (.inl rfl) (λb u Y e=>e) (_,g) (fC.ok (_,_,g));let na:s.heap.get? a=Pp:=by
  cases e:s.heap.get? a with
  |none=>rfl
  |some o =>
   let:=c.base.free a o e d (λz=>nomatch z);rw[i]at this;cases this
 show sJ y aq na (.new g rfl rfl) (.inl rfl) r
end
theorem aA.tr{H H' c:Hp}(a:aA H H')(b:aA H' c):aA H c:=λx o e=>b x o (a x o e)
abbrev RSp:=Pe->aG->Prop
def spR(K:cp)(rz:RSp):Sp:=λvs H Y E=>∃ds C,DNs K N0 H vs ds/\rz ds C/\∀H',aA H H'->E (.ref C) Pp H'
def XOk(H:Hp)(RX:aG->Prop)(E:XK):Prop:=∀C,RX C->∀H',aA H H'->E (.ref C) Pp H'
def jF(K:cp)(mg:ck->O3)(n:ck)(C:aG):Prop:=∃D,fT K C D/\mg n=Po (.ref C)/\mg "TownError" = Po (.ref D)
def HF(P:ky)(w:kD)(K:cp)(mg:ck->O3)(base:cc)(x:ck)(k:Nat)(rz:RSp):Prop :=
 ∃(f:aG) (fd:kx) (ps:Pi),aY P w K mg base (CXE P w) k f fd ps (spR K rz)/\bE K fd ps []/\eE K (.ref f)=Pq/\mg x=Po (.ref f)
def fV(P:ky)(w:kD)(K:cp)(mg:ck->O3)(base:cc)(C:aG)(m:ck)(k:Nat)(rz:RSp):Prop :=
 Cls K C/\∃(f:aG) (fd:kx) (ps:Pi),aY P w K mg base (CXE P w) k f fd ps (spR K rz)/\bE K fd ps []/\Fg K C m f
inductive upL (K:cp) (Hs:Hp) (t:DS) (D:oW) (σ:St) (H:Hp):Prop
 |mk (M P:aG->Prop) (H0:Hp) (σ0:St) (env:Pf) (ts:O0) (DD:gW):(aA Hs H0/\∀b,¬P b)->yB ts->Rel K M P H0 σ0 σ env ts H->t DD env->Cf K M P H0 σ0 ts DD D->upL K Hs t D σ H
abbrev DR:=Pf->Prop
inductive upR (K:cp) (Hs:Hp) (t:DR) (σ:St) (H:Hp) (Q:VK):Prop
 |mk (M P:aG->Prop) (H0:Hp) (σ0:St) (env:Pf) (ts:O0):(aA Hs H0/\∀b,¬P b)->Rel K M P H0 σ0 σ env ts H->t env->upR K Hs t σ H Q
section
variable{X:Cx}{K:cp}{Hs:Hp}{pos p:Pos}{st:Stmt}{rest a b:O6}{t u:DS}{e c o:bi}{es:Pj}{tc:DT}{tl:DA}{tr:DR}{E:XK}{rz:RSp}{RX:aG->Prop}{k:Nat}{x:ck}{sp:Sp}{C:aG}
theorem IZ(h:PS X st (upS K t)):PS X st (upL K Hs t):=h.imp λD σ H ⟨M,P,H0,σ0,env,ts,DD,_,nv,r,a,ok⟩=>(M,P,H0,σ0,env,ts,DD,nv,r,a,ok)
theorem bG(h1:PS X st (upL K Hs t))(h2:PSs X rest (upL K Hs u)):PSs X (st::rest) (upL K Hs (Fc t u)):=(a9 h1 h2).imp λD σ H h=>by
 let(M,P,H0,σ0,env,ts,DD,j,nv,a,b,ok):=h;show(M,P,H0,σ0,env,ts,_,j,nv,a,b,(λσ' env' H' q r=>(M,P,H0,σ0,env',ts,DD,j,nv,r,q,ok),ok.rt,ok.bk,ok.ct))
theorem bI(h1:PS X st (upL K Hs t)):PSs X [st] (upL K Hs t):=aW h1
theorem dP:PSs X [] (upL K Hs AJ):=aF.imp λD σ H ⟨M,P,H0,σ0,env,ts,DD,_,nv,r,a,ok⟩=>(M,P,H0,σ0,env,ts,DD,nv,r,a,ok)
theorem lj(hc:PT X c (upT K tc))(g:PSs X a (upL K Hs t))(i:PSs X b (upL K Hs u)):PS X (.If c a b pos) (upL K Hs (Hy tc t u)):=(i5 hc g i).imp λD σ H h=>by
 let(M,P,H0,σ0,env,ts,DD,j,nv,f,l,ok):=h;show(M,P,H0,σ0,env,ts,_,f,l,λk d H1 h1 e=>?_);cases k with
 |true=>show(M,P,H0,σ0,d,ts,DD,j,nv,e,h1,ok)
 |false=>show(M,P,H0,σ0,d,ts,DD,j,nv,e,h1,ok)
def dRz(t:DR):DS:=λY env=>t env
theorem d4(b:PE X e (upR K Hs tr)):PS X (.Return (Po e) pos) (upL K Hs (dRz tr)):=(gg b).imp λD σ H h=>by
 let(M,P,H0,σ0,env,ts,DD,j,nv,a,c,ok):=h;show(M,P,H0,σ0,env,ts,j,a,c)
theorem wl(b:PE X e (upR K Hs tr))(hs:Qv e none pos.line X.env=pure false⊕'Pt):PS X (.Expr e pos) (upL K Hs (dRz tr)):=(bO b hs).imp λD σ H h=>by
 let(M,P,H0,σ0,env,ts,DD,j,nv,a,c,ok):=h;show(M,P,H0,σ0,env,ts,j,a,c)
def CJ(rz:RSp)(RX:aG->Prop)(tl:DA):DR:=λenv=>tl env λss a=>∃ds C,bh a ss=Po ds/\rz ds C/\RX C
theorem FH(c:fJ (CXE X.prog X.w) X E)(j:XOk Hs RX E)(G:HF X.prog X.w X.K X.mg X.base x k rz)(l:bW k X.A)(n:Gl X x)(hK:X.K=K)(q:PA X (e::es) (upA K tl))(hd:(x==("__debug__" : ck))=false⊕'Pu)
  (r:kh (e::es) X.env=(false,eval e X.env)::kh es X.env⊕'Pt) (d:(qr pos (kh es X.env)).any (·.1)=false⊕'Pt):PE X (.Call (.Name x p) (e::es) [] pos) (upR K Hs (CJ rz RX tl)):=by subst hK;let(f,fd,ps,F,b,kp,m):=G;show(pM F l n m kp b .nil c q hd r d).imp λσ H Q h=>?_;let(M,P,H0,σ0,env,ts,(s,t),g,u):=h;show(M,P,H0,σ0,env,ts,_,g,u,λss i vs H1 h1 hl a=>?_);let(ds,C,v,hz,hx):=h1;rw[Ls];let dns:=a.keptAll hl (λp c=>c) v;show(ds,C,dns.to λY Y Y z=>z.elim,hz,λH' s2=>j C hx H' ((s.tr λb o e=>a.e.keep b o (t b) e).tr s2))
theorem zb(G:Cal X.prog X.w X.K X.mg X.base x k sp)(g:bW k X.A)(i:Gl X x)(l:PE X e (upR K Hs tr))(hd:(x==("__debug__" : ck))=false⊕'Pu)
  (d:kh [e] X.env=(false,eval e X.env)::kh [] X.env⊕'Pt) (a:(qr pos (kh [] X.env)).any (·.1)=false⊕'Pt):PE X (.Call (.Name x p) [e] [] pos) (upR K Hs tr):=by let(f,fd,ps,F,b,kp,m):=G;show(pM F g i m kp b .nil ja (ak l aH d) hd d a).imp λσ H Q h=>?_;let(M,P,H0,σ0,env,ts,j,c,n):=h;show(M,P,H0,σ0,env,ts,j,c,n)
end
section
variable{P:ky}{w:kD}{K:cp}{mg:ck->O3}{base:cc}{N:Pi}{qual:ck}{scope:Qc}{f:aG}{cd:ba}{A:Around}{outer:Pa}{s:bb}{H:Hp}{E:XK}{C:aG}{RX:aG->Prop}{tl:DA}{k:Nat}
abbrev noD:gW:=(λY=>False,λY Y=>False,λY=>False,λY=>False)
def oh(C:aG)(RX:aG->Prop)(tl:DA):DS:=λY env=>tl env λss a=>∃s,ss=[s]/\RX C
theorem pw{n:ck}{e:bi}{pos p pos':Pos}(r:XOk H RX E)(cl:jF K mg n C)(t:bW k (A.deeper (QA qual scope s.heap.objs.size f cd)))(u:Gl (gC (CXE P w) P w K mg base N qual scope f cd A outer s H E) n)
  (d:PA (gC (CXE P w) P w K mg base N qual scope f cd A outer s H E) [e] (upA K tl)) (g:(n==("__debug__" : ck))=false⊕'Pu)
  (v:kh [e] (gC (CXE P w) P w K mg base N qual scope f cd A outer s H E).env=(false,eval e (gC (CXE P w) P w K mg base N qual scope f cd A outer s H E).env)::kh [] (gC (CXE P w) P w K mg base N qual scope f cd A outer s H E).env⊕'Pt) :
  PS (gC (CXE P w) P w K mg base N qual scope f cd A outer s H E) (.Raise (some (.Call (.Name n p) [e] [] pos)) none pos') (upL K H (oh C RX tl)):=by
 let(D,cls,m,_):=cl;show(wu (A:=A) (te:=Fz C (upA K tl)) (show A.handled=Pp from t.hd) cls (Dl cls u m d g v)).imp λD σ H1 h=>?_;let(M,x,H0,σ0,env,ts,DD,(B,F),nv,i,G,ok):=h;show(M,x,H0,σ0,env,ts,_,i,G,λss j vs H2 h1 hl c=>?_);let(s1,rfl,I):=h1;let(y,rfl):=uE hl;let l:aA H H2:=B.tr λb o e=>c.e.keep b o (F b) e;show(_,rfl,λa d=>(a,rfl,l.free d,aq,?_));show r C I _ λb o e=>?_;let e2:=l b o e;let q:b≠a:=λz=>by rw[z,d]at e2;cases e2
 rw[ao q,ao q];show e2
theorem okR{x q:ck}{st:Stmt}{f:aG}{fd:kx}{N ps:Pi}{k:Nat}{rz:RSp}(F:Fun K x q st f fd)(S:ax N ps (af st))(len:∀ds C,rz ds C->-ds=-ps)(hN:-ps<=-N)
  (n:∀(cdv:ba) (A:Around) (outer:Pa) (s:bb) (H:Hp) (E:XK) (RX:aG->Prop),bW k (A.deeper (QA q (af st) (~~~s) f cdv))->XOk H RX E ->
   ∃t:DS,PSs (gC (CXE P w) P w K mg base N q (af st) f cdv A outer s H E) (bA st) (upL K H t)/\∀ds C,rz ds C->RX C->t noD (bd (-N) (ds.map .fr))):aY P w K mg base (CXE P w) (k+1) f fd ps (spR K rz):=by
 let(oc,od,kV,doc,pm,an,cdv,ct,osl,rfl,lk,d):=F.ex;show Ec lk d S (λvs H Q E h=>?_) λA outer s H vs Q E o h=>?_;let(ds,C,hd,hz,_):=h;rw[hd.len];show len ds C hz;let(ds,C,hd,hz,hx):=h;let hn:=len ds C hz;let hl:-vs=(ds.map Sl.fr).length:=by rw[K4,hd.len]
 let(t,p,g):=n cdv A outer s H E (λc=>c=C) o λc e H' r=>by rw[e];show hx H' r
 let u:aw (bq N vs) (bd (-N) (ds.map Sl.fr)) []=tmp (vs.zip (ds.map Sl.fr))++LM (-N- -vs) (Pp,Sl.un):=by show(bq N vs).zip (bd (-N) (ds.map Sl.fr))++[]=_;unfold bq bd;rw[Ls,<-hl];show d9 _ hl
 let j:=kG (M':=N0) hd λa z=>z.elim;let no:∀b,¬oV vs (ds.map .fr) b:=λb z=>by
  let z:b∈oas (tmp (vs.zip (ds.map .fr))):=z;rw[h8]at z;cases z
 show(_,p,N0,oV vs (ds.map .fr),H,bq N vs,bd (-N) (ds.map Sl.fr),[],noD,(λY Y e=>e,no),λw i m=>(by cases m),(?_,by simp[bq,bd,hl],λw i m=>(by cases m),λi l e=>rfl),g ds C hz rfl,(λY Y Y q=>q.elim,λY Y Y Y Y q=>q.elim,λY Y Y q=>q.elim,λY Y Y q=>q.elim));rw[u];show j.sub (λx s m=>?_) (by rw[ac,lJ,Ls];show j.nd);rcases K2.mp m with m|m;show .inl m;let:=(Mw.mp m).2;cases this;show .inr (.inl rfl)
end
theorem us1{Q:Ph->Prop}{us:Ph}(l:-us=1)(h:∀a:ba,Q [a]):Q us:=by let(a,rfl):=uE l;show h a
theorem us2{Q:Ph->Prop}{us:Ph}(l:-us=2)(h:∀a b:ba,Q [a,b]):Q us:=by let(a,b,rfl):=Jb l;show h a b
theorem us3{Q:Ph->Prop}{us:Ph}(l:-us=3)(h:∀a b c:ba,Q [a,b,c]):Q us:=by let(a,b,c,rfl):=Kc l;show h a b c
theorem us4{Q:Ph->Prop}{us:Ph}(l:-us=4)(h:∀a b c d:ba,Q [a,b,c,d]):Q us:=by let(a,b,c,d,rfl):=KA l;show h a b c d
theorem cO.here{P:ky}{w:kD}{H:Hp}{h:cc}{a:aG}{o:HO}(x:cO P w H h a o):∃u,h.get? a=Po u:=by
 cases o with
 |lst xs=>let(_,_,_,_,e):=x;show(_,e)
 |tup xs=>let(_,_,_,(_,e,_)):=x;show(_,e)
 |dK kvs=>let(_,_,_,_,o,_,_,e,_):=x;show(_,e)
 |dT kvs=>let(_,_,_,_,o,_,_,e,_):=x;show(_,e)
 |set S n=>let(o,_,_,_,e,_):=x;show(_,e)
 |ins C dx fs=>let(_,_,_,e,_):=x;show(_,e)
 |own y=>let(_,e):=x;show(_,e)
 |xd fs=>let(_,(_,_,_,e,_),_):=x;show(_,e)
 |rng lo hi=>let(_,_,_,e):=x;show(_,e)
 |frz ob u=>let(e,_):=x;show(_,e)
 |tbl q=>let(_,e,_):=x;show(_,e)
 |met f y=>show(_,(show h.get? a=Po _ from x))
 |ext φ=>let(_,(_,e),_):=x;show(_,e)
section
variable{X:Cx}{pins:OU}{σ:St}{H:Hp}{s:bb}
theorem lY{M:ZF}{A:Around}{E:ba->bb->Prop}{i:Nat}{x:ck}{pos:Pos}{Q:Unit->bb->Prop}(I:Inv X pins σ H s)(hN:X.N.Nodup)(hi:X.N[i]?=Po x)(hk:X.env.kindOf x=Po .local)
  (h : ∀s',Inv X pins (σ.set i Pp) H s'->Q () s'):kn M A (do bindName X.env x .none;unbindBehindTheSuite X.env x pos) Q E s:=by
 let(m,hn,hl):=id I.loc;let f:(X.env.scope.kind==.class ||(X.env.scope.kind==.module&&X.env.locals != X.env.globals))=Pr:=by rw[I.ok.kind];rfl
 let g:i< -σ:=by rw[I.len];show(Lc.mp hi).1
 let cne:=I.cne;show wpAny_nameGoes_keeps hk hn f λh' v l hs=>?_;let(F,_,_,t,_):=id hn;let a:HOk X.prog X.w H h':=λb ob e=>by
  show(I.hok b ob e).stay (λc w' hc q=>(hs.2 c ?_).trans q) (λY q=>q) λY Y Y q=>q;rintro rfl;rcases hc with hc|hc;rw[<-hc,I.free]at e;cases e;rw[I.free]at hc;cases hc
 show h _ (I.ok,I.os,I.bare,(λb o e n r hx=>?_,λb o e n r hx=>?_,I.base.free,λb o e hx=>?_,I.base.tups,I.base.frzs,I.base.tbls),(_,l,λj y v' e1 e2 e3=>?_),λy c e=>?_,I.free,I.freeC,λp u=>?_,a,by simpa using I.len);show(hs.2 b (Lr (Lg (Lh e) I.ok.above))).trans (I.base.keep b o e n r hx);let(sl,e1):=I.base.slot b o e n r hx;show(sl,(hs.2 b (Lr (Lg (Lh e) I.ok.above))).trans e1);let(o',e1):=I.base.there b o e hx;show(o',(hs.2 b (Lr (Lg (Lh e) I.ok.above))).trans e1);by_cases hj:j=i;subst hj;rw[Lp g]at e2;cases e2;rw[Lj (Ne.symm hj)]at e2;let(B,C,q):=hl j y v' e1 e2 e3;show(B,C,?_);rcases q with⟨k,e⟩|⟨k,c,e,z⟩
 show .inl (k,?_);let:y≠x:=λe=>hj (lL hN e1 (e▸hi));simp[this,e];show .inr (k,c,e,z.sameBut hs (cne y c e));let(w',z):=I.cell y c e;show(w',z.sameBut hs (cne y c e));let(e,n,ne,D,d):=I.pin p u;show((hs.2 p.1 ne).trans e,n,ne,D,d)
end
def oW.off(D:oW)(i:Nat):oW:=(λσ H=>D.nx (σ.set i Pp) H,D.rt,λσ H=>D.bk (σ.set i Pp) H,λσ H=>D.ct (σ.set i Pp) H)
section
variable{X:Cx}{k:Nat}{f:aG}{fd:kx}{ps:Pi}{sp:Sp}{x xn xe:ck}{p pos pos2 pn ph pt:Pos}{e tg:bi}{es:Pj}{t:TA}{b₀:Stmt}{bs:O6}{th:TS}{g:TG}{i:Nat}{hs':List ExceptHandler}
def yH(X:Cx)(xn:ck)(H1:Hp)(σ:St)(i:Nat)(th:TS)(D:oW):XK:=λc dx H2=>∃C b,c=.ref C/\fT X.K C b/\X.mg xn=Po (.ref b)/\∀a,H1 a=Pp->H2 a=Po (.ext (fC a C dx))->th (D.off i) (σ.set i (Po (.ref a))) H2
def Iw(X:Cx)(xn:ck)(sp:Sp)(t:TA)(i:Nat)(th:TS):TS:=λD σ H=>t σ H λvs H1=>sp vs H1 (λY Y=>False) (yH X xn H1 σ i th D)
theorem uM(k:X.stack=X.env::X.outer)(J:X.env.frame=Po X.env.locals)(K:Gl X xn)(hh:∀e,PSs (X.marked e) (b₀::bs) th)(M:(xn==("__debug__" : ck))=Pr)
  (hN:X.N.Nodup) (hi:X.N[i]?=Po xe) (hk:X.env.kindOf xe=Po .local)
  {pins:OU}{σ:St}{H:Hp}{s s':bb}{ev:ba}{D:oW} (I:Inv X pins σ H s) (hx:CXE X.prog X.w X.stack H s (yH X xn H σ i th D) ev s') :
  kn (kq X.prog X.w) X.A (ZX ev X.env) (λ_ l=>kn (kq X.prog X.w) X.A (setFlight ev Pp) (λ_ m=>kn (kq X.prog X.w) X.A (handleBy ev X.env (.ExceptHandler (Po (.Name xn pn)) (Po xe) (b₀::bs) ph::hs')) (SP X pins D) X.xe m) X.xe l) X.xe s':=by
 let(a,C',dx,T,H',ee,os,bare,un,hok,na,nT,hT,O,(oe,vs,tr),C,Dc,ec,cls,P,d):=hx;subst ee;obtain rfl:C=C':=by cases ec;rfl
 let Q:H a=Pp:=by
  cases q:H a with
  |none=>rfl
  |some o =>
   let(u,e):=(I.hok a o q).here;rw[na]at e;cases e
 let d:=d a Q O;let frf:∀b∈frs X.stack,H' b=Pp:=λb Z=>by
  let(_,o,ho,_):=I.stack.mem Z;show un.free b o ho (I.stkFree b Z) (!1)
 let I1:Inv X pins σ H' s':=I.call' (ch:=[]) os un hok bare (λb z=>nomatch z)
 cbv;let((vs',sl,g),_):=hok a _ O;let eo:oe={ cls:=.ref C,dict:=dx,data:=.fields vs',slots:=sl }:=by let:=tr.1;rw[g]at this;show(du this).symm
 subst eo;let hsz:1<vs.size:=(em.mp tr.2.2.1).1;let R:vs=vs':=by let:=tr.2.1;injection this with this;show this.symm
 subst R;let(a4,g',d',n,p):=s'
 w_up;let fs:=I1.stack;let t:=I1.ok.frames;rw[k]at fs t;show j8 (base:=X.base) (L:=X.env.locals) (outer:=X.outer) t fs J (.on tr) λh2 G y=>?_;let x:s.heap.get? G=Pp:=by
  cases e:s.heap.get? G with
  |none=>rfl
  |some o =>
   let(o',e'):=un.there G o e (λz=>nomatch z);show absurd (Lh e') (N4.mpr y.new)
 let hT2:H' G=Pp:=hok.fresh y.new;rw[<-k]at y;let(S,B):=DK un hok na nT O (.inr hT) frf y rfl rfl;show gT (y.trc g hsz) λh3 z k3 _=>?_
 cbv;let(E,c):=Bq S B x hT2 k3;let U:Inv X pins σ H' (h3,g',d',n,p):=I.call' (ch:=[]) os E c bare (λb z=>nomatch z);let(nm,qn,NN,a5,sn,sub,ab,col,dd,k0,k1,k2,a6,k5,lk,tl):=cls.obj;let(a7,b0,ND,b3,b4,b5,a0,b6,a3,c3,j0,j1,j2,j3,j5,c4,V):=cls.up
 w_up;show wpAny_handleBy_cons (codeAny_handlers_test (gS (U.marked (.ref a)) K P ?_ M)) (by intro q;cases q);show uA (bm:=bmV) (U.kIn _ _ lk) (U.kIn _ _ V) z.1 rfl rfl (codeAny_handlers_suite_as ?_);show gT z λh4 z4 k4 _=>?_;let(W,F):=Bq E c x hT2 k4;let I4:Inv X pins σ H' (h4,g',d',n,p):=I.call' (ch:=[]) os W F bare (λb z=>nomatch z);show iH (X:=X.marked (.ref a)) (v:=.ref a) (I4.marked (.ref a)) hN hi (.inl hk) rfl (λs5 I5=>?_) (.inr hk);show qD (hh (.ref a) pins _ _ H' (D.off i) I5 d) (λf s6 q=>?_) λ_ _ q=>q.elim;let q:=q.unmarked I.ok;cases f with
 |next=>let(σ',H2,h,q):=q;show lY h hN hi hk λY j=>(_,H2,j,q)
 |brk=>let(σ',H2,h,q):=q;show lY h hN hi hk λY j=>(_,H2,j,q)
 |cont=>let(σ',H2,h,q):=q;show lY h hN hi hk λY j=>(_,H2,j,q)
 |ret u=>let(v,σ',H2,h,r,q):=q;show lY h hN hi hk λY j=>(v,_,H2,j,r,q)
theorem C6(d:X.stack=X.env::X.outer)(g:X.env.frame=some X.env.locals)(F:aY X.prog X.w X.K X.mg X.base (CXE X.prog X.w) k f fd ps sp)(B:bW k X.A)(C:Gl X x)(E:X.mg x=some (.ref f))(hk:eE X.K (.ref f)=true)(G:bE X.K fd ps [])
  (j:Gl X xn) (J:PA X.nox (e::es) t) (L:∀e,PSs (X.marked e) (b₀::bs) th)
  (hN:X.N.Nodup) (hi:X.N[i]?=some xe) (l:X.env.kindOf xe=some .local)
  (m:(x==("__debug__" : ck))=false⊕'Pu) (n:(xn==("__debug__" : ck))=false⊕'Pu) (M:kh (e::es) X.env=(false,eval e X.env)::kh es X.env⊕'Pt) (o:(qr pos (kh es X.env)).any (·.1)=false⊕'Pt)
  (hs:Q3 [tg] (.Call (.Name x p) (e::es) [] pos) pos2.line X.env=pure false⊕'Pt) (hw:Q4 [tg] (.Call (.Name x p) (e::es) [] pos) X.env=pure none⊕'Pt) :
  PS X (.Try [.Assign [tg] (.Call (.Name x p) (e::es) [] pos) pos2] (.ExceptHandler (some (.Name xn pn)) (some xe) (b₀::bs) ph::hs') [] [] pt) (Iw X xn sp t i th):=by
 intro pins s σ H D I h;show wpAny_Try_except (Q6 (wpAny_Assign_stores (Qb (gS I C E (pC (h₀:=X.base) I.ok.mod.kin hk ?_ M o) m)) hs hw));show qD (J pos pins s σ H _ (I.wish _) h) (λus s1 y=>?_) λY Y z=>False.elim z;let(vs,H1,a,r,q):=y;show(a.kIn,?_);let a:=a.unwish;let hl:-us=-ps:=by rw[<- -r];show F.len _ _ _ _ q
 let b:=G s1 us a.kIn (by simpa using hl);rw[Ls]at b;show QN (QJ (F.run X.A X.stack s1 H1 (us,[]) us vs _ _ B a.env0 b r q) λr s' c=>?_);cases r with
 |error ev=>show uM d g j L n hN hi l a c
 |ok fl =>
  cases fl with
  |ret u =>
   let(v,H',P,Q,O):=a.after c;show False.elim O
  |next=>show False.elim c
  |brk=>show False.elim c
  |cont=>show False.elim c
end
section
variable{X:Cx}{x xe xn:ck}{p pos pos2 pn ph pt:Pos}{e tg:bi}{es:Pj}{k i:Nat}{rz:RSp}{K:cp}{tl:DA}{b₀:Stmt}{bs:O6}{th:DS}{hs':List ExceptHandler}
def Er(rz:RSp)(tl:DA)(i:Nat)(th:DS):DS:=λDD env=>tl env λss a=>i< -a/\∃ds C,bh a ss=Po ds/\rz ds C/\th (λenv=>i< -env/\DD.nx (env.set i .un),λY Y=>False,λY=>False,λY=>False) (a.set i (.fr (jq C 0)))
theorem FR(hK:X.K=K)(j:X.stack=X.env::X.outer)(l:X.env.frame=some X.env.locals)(cl:∀ds C,rz ds C->∃g,fT X.K C g/\X.mg xn=some (.ref g))(G:HF X.prog X.w X.K X.mg X.base x k rz)(J:bW k X.A)(L:Gl X x)(n:Gl X xn)
  (o:PA X.nox (e::es) (upA K tl)) (O:∀e,PSs (X.marked e) (b₀::bs) (upS K th)) (hN:X.N.Nodup) (hi:X.N[i]?=some xe) (t:X.env.kindOf xe=some .local)
  (u:(x==("__debug__" : ck))=false⊕'Pu) (y:(xn==("__debug__" : ck))=false⊕'Pu) (Q:kh (e::es) X.env=(false,eval e X.env)::kh es X.env⊕'Pt) (B:(qr pos (kh es X.env)).any (·.1)=false⊕'Pt)
  (hs:Q3 [tg] (.Call (.Name x p) (e::es) [] pos) pos2.line X.env=pure false⊕'Pt) (hw:Q4 [tg] (.Call (.Name x p) (e::es) [] pos) X.env=pure none⊕'Pt) :
  PS X (.Try [.Assign [tg] (.Call (.Name x p) (e::es) [] pos) pos2] (.ExceptHandler (some (.Name xn pn)) (some xe) (b₀::bs) ph::hs') [] [] pt) (upS K (Er rz tl i th)):=by subst hK;let(f,fd,ps,F,R,kp,m):=G;show(C6 j l F J L m kp R n o O hN hi t u y Q B hs hw).imp λD σ H h=>?_;let(M,P,H0,σ0,env,ts,DD,nv,E,S,ok):=h;show(M,P,H0,σ0,env,ts,_,E,S,λss c vs H1 h1 hl b=>?_);let(I,ds,C,T,hz,U):=h1;let dns:=b.keptAll hl (λp V=>V) T;let b:=b.drop;let(g,cls,W):=cl _ _ hz;show(ds,C,dns.to λ_ _ _ z=>z.elim,hz,λH' Y=>(C,g,rfl,cls,W,λa o Z=>?_));let d:=b.same Y;let dn:DN X.K (Nw M (aw σ c ts)) H' (.ref a) (jq C 0):=.exc (λz=>b.newAddr o z) Z;show(M,P,H0,σ0,_,ts,_,nv,(d.addFr dn).store nv I rfl,U,(λσ' env' H2 q r=>?_,λs env' v σ' H' q r=>q.elim,λσ' env' H' q r=>q.elim,λσ' env' H' q r=>q.elim));show ok.nx _ _ _ q.2 (r.setUn nv q.1 Pp).1
end
section
variable{prog:ky}{w:kD}{A:Around}{E:ba->bb->Prop}{h:cc}{g:Array ZR}{d:Drawn}{t:Nat}{os:OsState}
variable{nm q:ck}{C N x:aG}{bs bm:Ph}{sn:Pi}{sub:Ph}{ab:Bool}{col:Option Bool}{dd:O4}{k0 k1 k2 k3 k5:O3}{newId:String}{name:ck}{v:ba}{o:Obj}
theorem Ax{M:ZF}{a:ba}{Q:Unit->bb->Prop}(c:(di C::bm).contains (.type "BaseException")=Pq)
  (e:h.get? C=Po (z5 nm q C N bs bm Pq sn sub ab col dd k0 k1 k2 k3 k5 newId)) (hx:h.get? x=Po o) (hc:o.cls=.ref C) (f:Q () (h,g,d,t,os)) :
  kn M A (ZB "BaseException.__getattribute__" ([.ref x,a],[])) Q E (h,g,d,t,os):=by
 let hk:builtinKind "BaseException.__getattribute__" = Po .slot:=!3
 let b:splitId "BaseException.__getattribute__" = Po ("BaseException","__getattribute__"):=!3
 let i:=PySem.F.args_bexc_ga (.ref x) a;simp only[ZB,hk,b];show jj ?_
 .unfold Zq
  repeat (first|(with_reducible show qs hx ?_;rw[hc])|(with_reducible show Qa e ?_;rw[c])|wp_step)
  show f
theorem xI{fill a:Bool}{tk:Tok}{Q:ba->bb->Prop}(c:(di C::bm).contains (.type "BaseException")=Pq)
  (m:h.get? C=Po (z5 nm q C N bs bm Pq sn sub ab col dd k0 k1 k2 k3 k5 newId)) (hx:h.get? x=Po o) (hc:o.cls=.ref C)
  (e:Looks (kq prog w) h (QY (.ref C) "__getattribute__") (Po (.builtin "BaseException.__getattribute__"))) (i:Looks (kq prog w) h (QY (.ref C) "__getattr__") Pp)
  (b:∀A' E',kn (kq prog w) A' (Builtin.«object.__getattribute__» ([.ref x,.str name tk],[])) (λf s=>f=.done (.ret v)/\s=(h,g,d,t,os)) E' (h,g,d,t,os)) (hv:handedIn v=Pq) (r:Q v (h,g,d,t,os)) :
  kn (kq prog w) A (getAttrBy (.ref x) (.str name tk) fill a) Q E (h,g,d,t,os):=by
 let l:=PySem.F.attrBase_ValueError;let u:=l.ga.bind (.ref x);let n:(a&&onTheHeap (pa "BaseException.__getattribute__"))=Pr:=by cases a <;> rfl
 let j:(pa "BaseException.__getattribute__" == pa "object.__getattribute__")=Pr:=!3
 let p:(onTheHeap (di C)&&pa "BaseException.__getattribute__" == pa "object.__getattribute__")=Pr:=by rw[j];rfl
 repeat (any_goals (first|assumption|(with_reducible show qs hx ?_;rw[hc])|with_reducible show e.at ?_|with_reducible show i.at ?_|wp_step))
 show QR l.ga.plain PySem.F.entry_bexc_ga (Ax c m hx hc ?_);show qD (b _ _) (λf s k=>?_) λY Y z=>z;let(e1,e2):=k;subst e1 e2;let ho:=handedOut_of hv
 repeat (any_goals (first|assumption|rw[ho]|wp_step))
end
section
variable{prog:ky}{w:kD}{A:Around}{E:ba->bb->Prop}{h:cc}{g:Array ZR}{d:Drawn}{t:Nat}{os:OsState}
variable{nm q:ck}{C N x:aG}{bs bm:Ph}{sn:Pi}{sub:Ph}{ab:Bool}{col:Option Bool}{dd:O4}{k0 k1 k2 k3 k5:O3}{newId:String}{c:ba}{o:Obj}
theorem yj{tk:Tok}{Q:Fin->bb->Prop}(e:h.get? C=Po (z5 nm q C N bs bm Pq sn sub ab col dd k0 k1 k2 k3 k5 newId))(hx:h.get? x=Po o)(hc:o.cls=.ref C)(a:(di C::bm).contains (.type "object")=Pq)
  (hl:Looks (kq prog w) h (QY (.ref C) "__class__") (Po (.builtin "object.__class__"))) (f:Q (.done (.ret (.ref C))) (h,g,d,t,os)) :
  kn (kq prog w) A (Builtin.«object.__getattribute__» ([.ref x,.str "__class__" tk],[])) Q E (h,g,d,t,os):=by
 let b:((h,g,d,t,os):bb).TypeIs (.builtin "object.__class__") "getset_descriptor" := MJ;let i:=MJ;let j:=tf.lookup;let k:=PySem.F.slot_gs_set.lookup
 repeat (any_goals (first|assumption|(with_reducible show qs hx ?_;rw[hc])|with_reducible show hl.at ?_|wp_step))
 let c:(di C::bm).contains (.type (".".intercalate ("object.__class__".cutAt '.').dropLast))=Pq:=by rw[PySem.F.owner_object_class];show a
 show QR tf.plain PySem.F.entry_gs_get (tf.check _ _ _ _ _ _ _ _ b (PySem.F.args_gs_get _ _ _) ?_)
 repeat (any_goals (first|assumption|(with_reducible show qs hx ?_;rw[hc])|(with_reducible show Qa e ?_;rw[c])|wp_step))
 show(Code.quiet_builtin _ (!3),Qu PySem.F.entry_object_class ?_);unfold Builtin.«object.__class__»
 repeat (any_goals (first|assumption|(with_reducible show qs hx ?_;rw[hc])|wp_step))
theorem D3{Q:ba->bb->Prop}(hx:h.get? x=Po o)(hc:o.cls=.ref C)(a:Q (.bool Pq) (h,g,d,t,os)) :
  kn (kq prog w) A (call (.builtin "isinstance") [.ref x,.ref C]) Q E (h,g,d,t,os):=by
 show Zs ?_ (by intro e;cases e);let e1:(di C==di C)=Pq:=beq_self_eq_true _;unfold Builtin.«isinstance.nested»
 repeat (any_goals (first|assumption|(with_reducible show qs hx ?_;rw[hc])|wp_step))
theorem D2{Q:ba->bb->Prop}(i:h.get? C=Po (z5 nm q C N bs bm Pq sn sub ab col dd k0 k1 k2 k3 k5 newId))(hx:h.get? x=Po o)(hc:o.cls=.ref C)(j:(di C==c)=Pr)
  (b:Looks (kq prog w) h (Zz c) (.type "type")) (f:Looks (kq prog w) h (isType c) Pq) (a:(di C::bm).contains c=Pq) (k:Q (.bool Pq) (h,g,d,t,os)) :
  kn (kq prog w) A (call (.builtin "isinstance") [.ref x,c]) Q E (h,g,d,t,os):=by
 show Zs ?_ (by intro e;cases e);unfold Builtin.«isinstance.nested»
 repeat (any_goals (first|assumption|(with_reducible show qs hx ?_;rw[hc])|with_reducible show b.at ?_|with_reducible show f.at ?_|(with_reducible show Qa i ?_;rw[a])|wp_step))
theorem D4{Q:ba->bb->Prop}(l:h.get? C=Po (z5 nm q C N bs bm Pq sn sub ab col dd k0 k1 k2 k3 k5 newId))(hx:h.get? x=Po o)(hc:o.cls=.ref C)(m:(di C==c)=Pr)
  (f:Looks (kq prog w) h (Zz c) (.type "type")) (i:Looks (kq prog w) h (isType c) Pq) (a:(di C::bm).contains c=Pr) (b:Looks (kq prog w) h (isType (.ref C)) Pq)
  (j:∀A' E' k t',k (.ref C) (h,g,d,t'+1,os)->kn (kq prog w) A' (getAttrBy (.ref x) (.str "__class__" t') Pr) k E' (h,g,d,t'+1,os)) (n:∀t',Q (.bool Pr) (h,g,d,t',os)) :
  kn (kq prog w) A (call (.builtin "isinstance") [.ref x,c]) Q E (h,g,d,t,os):=by
 show Zs ?_ (by intro e;cases e);unfold Builtin.«isinstance.nested»;let p:=n (t+1)
 repeat (any_goals (first|assumption|(with_reducible show qs hx ?_;rw[hc])|with_reducible show f.at ?_|with_reducible show i.at ?_|with_reducible show b.at ?_|(with_reducible show Qa l ?_;rw[a])|with_reducible show j _ _ _ _ ?_|wp_step))
end
structure qV(K:cp)(C:aG):Prop where
 ga : ed K (.ref C) "__getattribute__" = some (some (.builtin "BaseException.__getattribute__"))
 gn : ed K (.ref C) "__getattr__" = some none
 hd : hI K C=true
 cl : ed K (.ref C) "__class__" = some (some (.builtin "object.__class__"))
section
variable{X:Cx}{C:aG}
def yF(K:cp)(C Dd:aG):Prop:=∃nm q N bs sn sub ab col dd k0 k1 k2 k3 k5,K.lookup C=Po (z5 nm q C N bs (.ref Dd::bmV) Pq sn sub ab col dd k0 k1 k2 k3 k5 "ValueError.__new__")
inductive Fj (K:cp) (C Dd:aG):V->Bool->Prop
 |own:Fj K C Dd (.ref C) true
 |ref {D:aG}{oD:Obj}:D≠C->K.lookup D=some oD->oD.cls=.type "type" -> hI K D=true->Fj K C Dd (.ref D) ((di Dd::bmV).contains (.ref D))
 |ty {T:String}:Zz (.type T)=pure (.type "type")->Fj K C Dd (.ty T) ((di Dd::bmV).contains (.type T))
theorem AM{Dd:aG}(mro:yF X.K C Dd)(lo:qV X.K C):fU X (.builtin "isinstance") (λxs H Q=>∃a dx c b,xs=[.ref a,c]/\H a=Po (.ext (fC a C dx))/\Fj X.K C Dd c b/\Q (.bl b) H):=by
 intro pins s σ H xs us Q I r h
 cbv;let(a,dx,c,b,rfl,o,f,q):=h;let(u,w',rfl,p,j):=u8 r;obtain rfl:u=di a:=p;let(nm,B,NN,bs,sn,sub,ab,col,dd,k0,k1,k2,k3,k5,lk):=mro;let((vs,sl,go),_):=I.hok a _ o
 w_up;let fin:∀tk,EP X pins σ Q (.bool b) { s with toks:=tk }:=λtk=>(.bl b,H,I.tok tk,rfl,q)
 let e:=I.kIn;let n:=NH (M:=kq X.prog X.w) e lo.hd;let any:∀u,(di C==u)=Pr->Looks (kq X.prog X.w) s.heap (Zz u) (.type "type")->Looks (kq X.prog X.w) s.heap (isType u) Pq->(di Dd::bmV).contains u=b ->
   kn (kq X.prog X.w) X.A (call (.builtin "isinstance") [.ref a,u]) (EP X pins σ Q) X.xe s:=λu k l m v=>by
  let i:(di C::di Dd::bmV).contains u=b:=by rw[MG,v,show(u==di C)=Pr by rw[BEq.comm];show k,Oz]
  let(h,g,d,t,os):=s;cases b with
  |true=>show D2 (e _ _ lk) go rfl k l m i (fin t)
  |false =>
   show D4 (e _ _ lk) go rfl k l m i n (λA' E' E t' x=>?_) λt'=>fin t';show xI (by rfl) (e _ _ lk) go rfl (looks_findIn e lo.ga) (looks_findIn e lo.gn) (λF E2=>yj (e _ _ lk) go rfl (by rfl) (looks_findIn e lo.cl) (rfl,rfl)) rfl x
 cases f with
 |own =>
  obtain rfl:w'=di C:=j;let(h,g,d,t,os):=s;show D3 go rfl (fin t)
 |@ref D oD ne ld hc hd =>
  obtain rfl:w'=di D:=j;show any _ ?_ (hc▸(Looks.ld (e _ _ ld)).andThen .now) (NH (M:=kq X.prog X.w) e hd) rfl;show beq_false_of_ne λz=>ne (by cases z;rfl)
 |@ty T y =>
  obtain rfl:w'=nN T:=j;show any _ (by rfl) (by rw[y];show .now) .now rfl
end
theorem DN.exc_of{K:cp}{N:aG->Prop}{H:Hp}{v:V}{d:av}{C:aG}{n:Int}(h:DN K N H v d)(e:d=jq C n):∃a dx,v=.ref a/\H a=Po (.ext (fC a C dx)):=by
 cases h with
 |@exc a b dx c g h1 =>
  let e1:(b:Int)=(C:Int)/\c=n:=by simp only[jq,lC,el,ms,p0,and_true]at e;show e
  let(f,rfl):=e1;obtain rfl:b=C:=MU f;show(a,dx,rfl,h1)
 |@dct a es kvs n h q r e2 =>
  cases kvs with
  |nil=>cases e
  |cons p kvs=>simp[jq,fQ,dZ]at e
 |fz h=>simp[jq,fzD]at e
 |idc _ _ _ _=>simp[jq,cR]at e
 |dsk _ _ _ _ _ _=>simp[jq,bU]at e
 |_=>cases e
section
variable{κ β:Type}[DecidableEq κ]
noncomputable def dY(kvs:List (κ×β))(k:κ):Option β:=(kvs.find? λp=>decide (p.1=k)).map (·.2)
def oS(kvs:List (κ×β))(k:κ)(v:β):List (κ×β):=if (dY kvs k).isSome=Pq then kvs.map λp=>if p.1=k then (p.1,v) else p else kvs++[(k,v)]
theorem Av(k:κ):dY ([]:List (κ×β)) k=Pp:=rfl
theorem bD(p:κ×β)(kvs:List (κ×β))(k:κ):dY (p::kvs) k=if p.1=k then Po p.2 else dY kvs k:=by unfold dY;rw[Mn];by_cases h:p.1=k <;> simp[h]
theorem rP(kvs:List (κ×β))(k:κ)(v:β):(oS kvs k v).length<=-kvs+1:=by unfold oS;split <;> simp
end
def Kk(K:cp)(H:Hp)(v:V)(kvs:OX):Prop :=
 ∃a es,v=.ref a/\H a=Po (.ext (cu a es))/\DVs K H (es.map λp=>V.ref p.2.1) (kvs.map λp=>dZ p.1)/\DVs K H (es.map λp=>p.2.2) (kvs.map λp=>p.2)/\es.map (λp=>p.1)=kvs.map (λp=>p.1)
section
variable{X:Cx}{pins:OU}{σ:St}{H:Hp}{s:bb}{a b:aG}{k:bc}
theorem DVs.map_int:∀{ns:O7}{xs:Pl},DVs X.K H xs (ns.map .int)->xs=ns.map V.int
 |[],_,h=>by cases h;rfl
 |n :: ns,_,h=>by
  cases h with
  |cons h t =>
   cases h;rw[DVs.map_int t];rfl
theorem qZ:∀{ns:O7}{us:Ph},aU (ns.map V.int) us->ItemsAre (QG X.prog X.w) ns us
 |[],us,h=>by cases h;show .nil
 |n :: ns,us,h=>by
  cases h with
  |cons r t =>
   let(tt,rfl):=r;show .cons (ft n tt) (qZ t)
theorem mF(I:Inv X pins σ H s){x:V}{u:ba}(h:DV X.K H x (dZ k))(r:br x u):∃b,x=.ref b/\u=.ref b/\dB X.prog X.w s.heap k b:=by
 cbv;let(d,l):=k;let(b,xs,rfl,sq,q):=DV.tupI (h:DV X.K H x (.tuple _));let(D,E,rfl,h1,h2):=q.twoI;let(c,ys,rfl,g,p):=h2.tupI;let(v,y,(o,e,cl,n,hd),_):=I.tuple sq;let(a,f,(z,e2,i,A,j),_):=I.tuple g;rw[DVs.map_int (X:=X) p]at f;let(F,B,rfl,m,C):=u8 y;rw[h1.intI]at m;let(t,rfl):=m;let e3:B=di c:=C;let e4:u=di b:=r;subst e3 e4
 w_up;show(b,rfl,rfl,o,t,c,n,e,cl,hd,z,a.toArray,A,e2,i,j,by simpa using qZ f)
theorem sP(I:Inv X pins σ H s):∀{es:OS}{xs:OR}{kvs:OX},
  Paired (λ(p:bc×aG×V) (q:bc×aG×ba)=>p.1=q.1/\p.2.1=q.2.1/\br p.2.2 q.2.2) es xs->DVs X.K H (es.map λp=>V.ref p.2.1) (kvs.map λp=>dZ p.1)->es.map (λp=>p.1)=kvs.map (λp=>p.1) ->
  ∀x∈xs,dB X.prog X.w s.heap x.1 x.2.1
 |[],_,_,.nil,_,_=>λx hx=>by cases hx
 |p :: es,_,kvs,.cons (b:=q) r t,h,e=>by
  cases kvs with
  |nil=>simp at e
  |cons kv kvs =>
   rw[Le,Le]at h e;injection e with e1 e2;cases h with
   |cons h1 h2 =>
    intro x hx;rcases K9.mp hx with rfl|hx
    .cbv;let(b,z,_,st):=mF I h1 (u:=.ref p.2.1) rfl;cases z
     w_up;rw[<-r.1,<-r.2.1,e1];show st
    show sP I t h2 e2 x hx
theorem dct_of(I:Inv X pins σ H s){es:OS}{kvs:OX}(b:H a=Po (.ext (cu a es)))(hk:DVs X.K H (es.map λp=>V.ref p.2.1) (kvs.map λp=>dZ p.1))(e:es.map (λp=>p.1)=kvs.map (λp=>p.1)) :
  (-es)<=sizeLine/\(a==Qi)=Pr/\∃xs,Paired (λ(p:bc×aG×V) (q:bc×aG×ba)=>p.1=q.1/\p.2.1=q.2.1/\br p.2.2 q.2.2) es xs/\qX X.prog X.w s.heap a xs:=by let((z,y,xs,r,o,ds,ep,h1,h2,c,d,f),_):=I.hok a _ b;show(z,y,xs,r,o,ds,ep,h1,h2,c,d,sP I r hk e,f)
theorem B3{es:OS}{xs:OR}{kvs:OX}{K:cp}(k:bc)
  (c:Paired (λ(p:bc×aG×V) (q:bc×aG×ba)=>p.1=q.1/\p.2.1=q.2.1/\br p.2.2 q.2.2) es xs) (e:es.map (λp=>p.1)=kvs.map (λp=>p.1)) (h:DVs K H (es.map λp=>p.2.2) (kvs.map λp=>p.2)) :
  (dY kvs k=Pp/\Zx xs k=Pp)\/∃(i:Nat) (d:av) (v:V) (b:aG) (u:ba),dY kvs k=Po d/\Zx xs k=Po (b,u)/\(es.map λp=>p.2.2)[i]?=Po v/\(kvs.map λp=>p.2)[i]?=Po d/\br v u:=by
 induction c generalizing kvs with
 |nil =>
  cases kvs with
  |nil=>show .inl (rfl,rfl)
  |cons kv kvs=>simp at e
 |@cons p q es xs r t ih =>
  cases kvs with
  |nil=>simp at e
  |cons kv kvs =>
   rw[Le,Le]at e h;injection e with e1 e2;cases h with
   |cons h1 h2 =>
    by_cases hk:kv.1=k;let a:q.1=k:=by rw[<-r.1,e1,hk]
    show .inr (0,kv.2,p.2.2,q.2.1,q.2.2,by rw[bD,OG hk],?_,rfl,rfl,r.2.2);simp[Zx,Mn,a];let a:¬q.1=k:=λz=>hk (by rw[<-e1,r.1,z]);let f:dY (kv::kvs) k=dY kvs k:=by rw[bD,OH hk]
    let g:Zx (q::xs) k=Zx xs k:=by simp[Zx,Mn,a]
    rw[f,g];rcases ih e2 h2 with z|⟨i,d,v,b,u,j,z2,z3,l,m⟩
    show .inl z;show .inr (i+1,d,v,b,u,j,z2,by simpa using z3,by simpa using l,m)
end
section
variable{X:Cx}
def pk(K:cp):R2:=λx y H Q=>∃(k:bc) (kvs:OX),DV K H x (dZ k)/\Kk K H y kvs/\Q (.bl (!(dY kvs k).isSome)) H
theorem wJ(f:X.A.units+2<Qj):OpR X (q5 .NotIn) (pk X.K):=by
 intro pins s σ H x y v u Q I g j h;let(k,kvs,l,(a,es,rfl,m,hk,hv,e),q):=h;cases (show u=di a from j);let(b,rfl,rfl,st):=mF I l g;let(z,y,xs,r,dd):=dct_of I m hk e;show wpAny_notIn_heap (knd:=bZ X.prog X.w) (kP f) st y dd.of ?_;let:(Zx xs k).isSome=(dY kvs k).isSome:=by
  rcases B3 k r e hv with⟨c,z2⟩|⟨i,d,v,b,u,c,z2,_⟩
  rw[c,z2];rfl;rw[c,z2];rfl
 rw[this];show(.bl _,H,I.tok _,rfl,q)
def IC(K:cp):R2:=λx y H Q=>∃(k:bc) (a:aG) (es:OS) (kvs:OX),x=.ref a/\DV K H y (dZ k)/\H a=Po (.ext (cu a es))/\DVs K H (es.map λp=>V.ref p.2.1) (kvs.map λp=>dZ p.1)/\DVs K H (es.map λp=>p.2.2) (kvs.map λp=>p.2) /\
 es.map (λp=>p.1)=kvs.map (λp=>p.1)/\(dY kvs k).isSome=Pq/\∀(i:Nat) v d,dY kvs k=Po d->(es.map λp=>p.2.2)[i]?=Po v->(kvs.map λp=>p.2)[i]?=Po d->Q v H
theorem KJ(l:X.A.units+2<Qj):IxR X (IC X.K):=by
 intro value slice pins s σ H x y v u Q I m n h hs;let(k,a,es,kvs,rfl,o,p,hk,hv,e,c,q):=h;cases (show v=di a from m);let(b,rfl,rfl,st):=mF I o n;let(z,y,xs,r,dd):=dct_of I p hk e;let j:=dd.of.typeIs;unfold Zm;show jj ?_;rw[getitemInPython_of_ne j.not_modules];show jj (Qs j MX.lookup ?_);let fin:kn (kq X.prog X.w) X.A (ZE slice Pr (.ref a) (.ref b)) (λr f=>kn (kq X.prog X.w) X.A (letTemporaryGo value (.ref a) r >>= λY=>pure r) (EP X pins σ Q) X.xe f) X.xe s:=by
  rw[hs];rcases B3 k r e hv with⟨g,_⟩|⟨i,d,v,b',u,g,z2,z3,t,B⟩
  rw[g]at c;cases c;show wpAny_operating (wpAny_getItem_heap (knd:=bZ X.prog X.w) (kP l) st dd.of z2 ?_);show jj (wpAny_letTemporaryGo (kf (v,H,I.tok _,B,q i v d g z3 t)))
 first
  |show kf (jj fin)
  |show jj (kf (jj fin))
  |show jj fin
noncomputable def wo(es:OS)(k:bc)(b:aG)(v:V):OS :=
 if (es.any λp=>decide (p.1=k))=Pq then es.map (λp=>if p.1=k then (p.1,p.2.1,v) else p) else es++[(k,b,v)]
theorem pD{es:OS}{xs:OR}(r:Paired (λ(p:bc×aG×V) (q:bc×aG×ba)=>p.1=q.1/\p.2.1=q.2.1/\br p.2.2 q.2.2) es xs)(k:bc){b:aG}{v:V}{u:ba}(d:br v u) :
  Paired (λ(p:bc×aG×V) (q:bc×aG×ba)=>p.1=q.1/\p.2.1=q.2.1/\br p.2.2 q.2.2) (wo es k b v) (storedH xs k b u):=by
 let e:(es.any λp=>decide (p.1=k))=(Zx xs k).isSome:=by
  induction r with
  |nil=>rfl
  |@cons p q ps f h t ih =>
   rw[Mx,ih];by_cases hk:p.1=k;let a:q.1=k:=by rw[<-h.1,hk]
   simp[Zx,Mn,hk,a];let a:¬q.1=k:=λz=>hk (by rw[h.1,z]);simp[Zx,Mn,hk,a]
 unfold wo storedH;rw[e];by_cases c:(Zx xs k).isSome=Pq;rw[OG c,OG c];clear e c
 induction r with
 |nil=>show .nil
 |@cons p q ps f h t ih =>
  rw[Le,Le];show .cons ?_ ih;unfold putAt;by_cases hk:p.1=k;rw[OG hk,OG (show q.1=k by rw[<-h.1,hk])];show(h.1,h.2.1,d);rw[OH hk,OH (λz=>hk (by rw[h.1,z]))];show h
 rw[OH c,OH c];show Paired.snoc r (rfl,rfl,d)
theorem zi(es:OS)(k:bc)(b:aG)(v:V):(wo es k b v).length<=-es+1:=by unfold wo;split <;> simp
def Iz(K:cp):HC:=λx y v H Q=>∃(k:bc) (a b:aG) (es:OS) (kvs:OX),x=.ref a/\y=.ref b/\DV K H y (dZ k)/\H a=Po (.ext (cu a es))/\DVs K H (es.map λp=>V.ref p.2.1) (kvs.map λp=>dZ p.1) /\
 es.map (λp=>p.1)=kvs.map (λp=>p.1)/\es.length<sizeLine/\Q (upd H a (.ext (cu a (wo es k b v))))
theorem Iu(j:X.A.units+2<Qj):Ia X (Iz X.K):=by
 intro pins s σ H x y v ov iv u Q I l m n h;let(k,a,b,es,kvs,rfl,rfl,p,i,hk,e,hl,q):=h;cases (show ov=di a from l)
 cbv;let(b',t,B,st):=mF I p m;cases t;subst B;let(z,y,xs,r,dd):=dct_of I i hk e
 w_up;let hz:-xs<=sizeLine:=by rw[<-Paired.length r];show z
 show vC (hsz:=hz) (kP (prog:=X.prog) (w:=X.w) j) st dd λh' c hs=>?_;let(o,d,ep,h1,h2,C,D,_,E):=c;show(_,?_,q);show I.write (x:=a) (e:=a) (by rw[i];show True.intro) (.inl rfl) (λb q F z=>(hs.2 b F).trans z) (_,h1) ?_;let new:cu a (wo es k b v) h':=(by let:=zi es k b v;lia,y,_,pD r k n,o,d,ep,h1,h2,C,D,E)
 show(new,(_,h1),λG J hx L=>?_);let(a1,a2,f,M,o',ds',g,N,O):=hx;show(a1,a2,f,M,o',ds',g,L _ N,O)
def Im:TE:=λY H Q=>∀p,H p=Pp->Q (.ref p) (upd H p (.ext (cu p [])))
theorem og{P:ky}{w:kD}{H:Hp}(h:cc)(c:Qi<h.objs.size):cO P w H (h.push { cls:=.type "dict",data:=.dict #[] }) h.objs.size (.ext (cu h.objs.size [])):=by let e:=Lm (o:=({ cls:=.type "dict",data:=.dict #[] }:Obj)) h rfl;show((Ln _,beq_eq_false_iff_ne.mpr (Ne.symm (Lr c)),[],.nil,_,#[],0,e,(rfl,rfl,rfl),rfl,rfl,LI,rfl),(_,e),λh1 h2 hx d=>?_);let(a1,a2,a,f,o',ds',b,g,i):=hx;show(a1,a2,a,f,o',ds',b,d _ g,i)
theorem Inv.big'{pins:OU}{σ:St}{H:Hp}{s:bb}(I:Inv X pins σ H s):Qi<(~~~s):=by let h:kw<(~~~s):=(I.mod.glob.keeps I.bk).lt;show Iv (!2) h
theorem Dn{pos:Pos}:PE X (.Dict [] [] pos) Im:=λpins s σ H Q I h =>
 wpAny_Dict_empty (.ref (~~~s),_,I.laid (a:=(~~~s)) (o:=.ext (cu (~~~s) [])) (t':=s.toks) (λY Y q=>La _ q) (Lf _) (og s.heap I.big'),rfl,h _ (I.hok.fresh (Lf _)))
def Il(K:cp)(tk tv:TE):TE:=λσ H Q=>∀p,H p=Pp->tk σ (upd H p (.ext (cu p []))) λx H1=>tv σ H1 λy H2=>∃k b,x=.ref b/\DV K H2 x (dZ k)/\H2 p=Po (.ext (cu p []))/\Q (.ref p) (upd H2 p (.ext (cu p [(k,b,y)])))
theorem Dm{pos:Pos}{e1 e2:bi}{tk tv:TE}(n:X.A.units+1<Qj)(hk:PE X e1 tk)(hv:PE X e2 tv):PE X (.Dict [Po e1] [e2] pos) (Il X.K tk tv):=by
 intro pins s σ H Q I h;let t:=I.laid (a:=(~~~s)) (o:=.ext (cu (~~~s) [])) (h':=s.heap.push { cls:=.type "dict",data:=.dict #[] }) (t':=s.toks) (λY Y q=>La _ q) (Lf _) (og s.heap I.big');show wpAny_Dict_any rfl rfl (!1) (!1) (pairTrees_cons_walk (thn (hk pins _ σ _ _ t (h _ (I.hok.fresh (Lf _)))) λu s1 c=>?_));let(x,H1,v,B,q1):=c;show thn (hv pins s1 σ H1 _ v q1) λw s2 d=>?_;let(y,H2,f,C,k,b,ex,D,m,q):=d;show pairTrees_nil_walk ?_
 cbv;subst ex;let(b',E,rfl,st):=mF f D B;cases E;generalize (~~~s)=p at *;let(z,hd,xs,r,dd):=dct_of (kvs:=[]) f m .nil rfl;cases r
 w_up;unfold storeAll;rw[MY];show jj (jj (nY (hsz:=Ln _) n st dd λh' g hs=>kf ?_));dsimp only;rw[vk];show kf (.ref p,_,?_,rfl,q);let(o,i,ep,h1,h2,F,G,_,J):=g;show f.write (x:=p) (e:=p) (by rw[m];show True.intro) (.inl rfl) (λb q L z=>(hs.2 b L).trans z) (_,h1) ?_;let new:cu p [(k,b,y)] h':=(by rw[qE];simp,hd,_,.cons (rfl,rfl,C) .nil,o,i,ep,h1,h2,F,G,J)
 show(new,(_,h1),λM N hx O=>?_);let(a1,a2,j,P,o',ds',l,R,S):=hx;show(a1,a2,j,P,o',ds',l,O _ R,S)
end
theorem ww:∀{a b:O7},a.map fy=b.map fy->a=b
 |[],[],_=>rfl
 |[],_::_,e=>by simp at e
 |_::_,[],e=>by simp at e
 |x::xs,y::ys,e=>by
  rw[Le,Le]at e;injection e with e1 e2;injection e1 with e1;rw[e1,ww e2]
theorem yV{k k':bc}(e:dZ k=dZ k'):k=k':=by let(d,l):=k;let(d',l'):=k';simp only[dZ,PyData.tuple.injEq,el,p0,and_true]at e;rw[e.1,ww e.2]
theorem iN:∀{kvs a:OX},kvs.map (λp=>(Pm (dZ p.1) p.2))=a.map (λp=>(Pm (dZ p.1) p.2))->kvs=a
 |[],[],_=>rfl
 |[],_::_,e=>by simp at e
 |_::_,[],e=>by simp at e
 |(Pm k v)::xs,(Pm k' v')::ys,e=>by
  rw[Le,Le]at e;injection e with e1 e2;injection e1 with e1 e3;let e1:=yV e1;simp only at e1 e3;rw[e1,e3,iN e2]
section
variable{K:cp}{M P N:aG->Prop}{H0 H:Hp}{A B:O9}{σ0 σ:St}{env:Pf}{ts:O0}{v:V}{d:av}{kvs:OX}
def Ib(K:cp)(N:aG->Prop)(H:Hp)(v:V)(kvs:OX):Prop :=
 ∃a es,v=.ref a/\H a=Po (.ext (cu a es))/\DNs K N H (es.map λp=>V.ref p.2.1) (kvs.map λp=>dZ p.1)/\DNs K N H (es.map λp=>p.2.2) (kvs.map λp=>p.2)/\es.map (λp=>p.1)=kvs.map (λp=>p.1)
theorem Ib.dctV(h:Ib K N H v kvs):Kk K H v kvs:=by let(a,es,e,b,hk,hv,c):=h;show(a,es,e,b,hk.dv,hv.dv,c)
theorem G8{C:aG}{n:Int}(e:jq C n=fQ kvs):False:=by
 cases kvs with
 |nil=>cases e
 |cons p kvs=>simp[jq,fQ,dZ]at e
theorem G6{ds:Pe}(e:fzD ds=fQ kvs):False:=by
 cases kvs with
 |nil=>cases e
 |cons p kvs=>simp[fzD,fQ,dZ]at e
theorem gr{p:av×av}{l:List (av×av)}(a:p.1=.none)(e:.dict (p::l)=fQ kvs):False:=by
 cases kvs with
 |nil=>cases e
 |cons q kvs =>
  simp only[fQ,Le,lC,el]at e;rw[e.1]at a;cases a
theorem DN.dct_of(h:DN K N H v d)(e:d=fQ kvs):Ib K N H v kvs:=by
 cases h with
 |exc _ _=>show(G8 e).elim
 |fz _=>show(G6 e).elim
 |idc _ _ _ _=>show(gr rfl e).elim
 |dsk _ _ _ _ _ _=>show(gr rfl e).elim
 |@dct a es b n c hk hv f =>
  injection e with e;let e:=iN e;subst e;show(a,es,rfl,c,hk,hv,f)
 |_=>cases e
theorem Vw.dct_of(h:Vw K N H v d)(e:d=fQ kvs):Ib K N H v kvs:=by
 cases h with
 |dn h=>show h.dct_of e
 |ow h q=>cases e
 |ot c _=>show(gr c e).elim
 |@dct a es b f hk hv g =>
  injection e with e;let e:=iN e;subst e;show(a,es,rfl,f,hk,hv,g)
theorem OT.dct_of{S:Pg}(h:OT K N H v d S)(e:d=fQ kvs):∃a es,v=.ref a/\S=[a]/\H a=Po (.ext (cu a es))/\DNs K N H (es.map λp=>V.ref p.2.1) (kvs.map λp=>dZ p.1)/\DNs K N H (es.map λp=>p.2.2) (kvs.map λp=>p.2)/\es.map (λp=>p.1)=kvs.map (λp=>p.1):=by
 cases h with
 |fz _=>show(G6 e).elim
 |idc _ _ _=>show(gr rfl e).elim
 |dsk _ _ _ _=>show(gr rfl e).elim
 |@dct a es b c hk hv f =>
  injection e with e;let e:=iN e;subst e;show(a,es,rfl,rfl,c,hk,hv,f)
 |_=>cases e
def qo:G2:=λd e R=>∃k kvs,d=dZ k/\e=fQ kvs/\R (.bool (!(dY kvs k).isSome))
def HQ:G2:=λd e R=>∃kvs k x,d=fQ kvs/\e=dZ k/\dY kvs k=Po x/\R x
theorem DF:dA K (pk K) qo:=by rintro N H x y d e R Q a b ⟨k,kvs,rfl,rfl,c⟩ f;show(k,kvs,a.dv,(b.dct_of rfl).dctV,f _ _ c (.bl _))
theorem Ky:dA K (IC K) HQ:=by
 rintro N H x y d e R Q c f ⟨kvs,k,z,rfl,rfl,b,g⟩ h;let(a,es,rfl,j,hk,hv,l):=c.dct_of rfl;show(k,a,es,kvs,rfl,f.dv,j,hk.dv,hv.dv,l,by rw[b];rfl,λi v d hd h1 h2=>?_);rw[b]at hd
 cbv;cases hd;let(m,e1,dn):=hv.get h1;rw[h2]at e1;cases e1
 w_up;show h _ _ g dn
theorem yy:∀{es:OS}{kvs:OX} (k:bc),es.map (λp=>p.1)=kvs.map (λp=>p.1)->(es.any λp=>decide (p.1=k))=(dY kvs k).isSome
 |[],[],k,_=>rfl
 |[],_::_,k,e=>by simp at e
 |_::_,[],k,e=>by simp at e
 |p::es,q::kvs,k,e=>by
  rw[Le,Le]at e;injection e with e1 e2;rw[Mx,yy k e2,bD,e1];by_cases h:q.1=k <;> simp[h]
theorem zg{es:OS}{kvs:OX}(k:bc)(v:V)(d:av)(e:es.map (λp=>p.1)=kvs.map (λp=>p.1))(h1:DNs K N H (es.map λp=>V.ref p.2.1) (kvs.map λp=>dZ p.1))(h2:DNs K N H (es.map λp=>p.2.2) (kvs.map λp=>p.2))(dn:DN K N H v d) :
    (es.map λp=>if p.1=k then (p.1,p.2.1,v) else p).map (λp=>p.1)=(kvs.map λp=>if p.1=k then (p.1,d) else p).map (λp=>p.1) /\
    DNs K N H ((es.map λp=>if p.1=k then (p.1,p.2.1,v) else p).map λp=>V.ref p.2.1) ((kvs.map λp=>if p.1=k then (p.1,d) else p).map λp=>dZ p.1) /\
    DNs K N H ((es.map λp=>if p.1=k then (p.1,p.2.1,v) else p).map λp=>p.2.2) ((kvs.map λp=>if p.1=k then (p.1,d) else p).map λp=>p.2):=by
  induction es generalizing kvs with
  |nil =>
    cases kvs with
    |nil=>show(rfl,.nil,.nil)
    |cons q kvs=>simp at e
  |cons p es ih =>
   cases kvs with
   |nil=>simp at e
   |cons q kvs =>
    rw[Le,Le]at e h1 h2;injection e with e1 e2;cases h1 with
    |cons a1 a2 =>
      cases h2 with
      |cons b1 b2 =>
        let(b,c,f):=ih e2 a2 b2;simp only[Le];by_cases h:q.1=k;let a:p.1=k:=e1.trans h;simp only[h,a,if_true];show(by rw[b],.cons ?_ c,.cons dn f);rw[<-h];show a1;let a:¬p.1=k:=λz=>h (e1.symm.trans z);simp only[h,a,if_false];show(by rw[b,e1],.cons a1 c,.cons b1 f)
theorem C4{es:OS}{k:bc}{b:aG}(e:es.map (λp=>p.1)=kvs.map (λp=>p.1))(h1:DNs K N H (es.map λp=>V.ref p.2.1) (kvs.map λp=>dZ p.1))(h2:DNs K N H (es.map λp=>p.2.2) (kvs.map λp=>p.2))(a:DN K N H (.ref b) (dZ k))(dn:DN K N H v d) :
  (wo es k b v).map (λp=>p.1)=(oS kvs k d).map (λp=>p.1)/\DNs K N H ((wo es k b v).map λp=>V.ref p.2.1) ((oS kvs k d).map λp=>dZ p.1)/\DNs K N H ((wo es k b v).map λp=>p.2.2) ((oS kvs k d).map λp=>p.2):=by unfold wo oS;rw[yy k e];by_cases c:(dY kvs k).isSome=Pq;rw[OG c,OG c];show zg k v d e h1 h2 dn;rw[OH c,OH c];simp only[Lw,Le,FB];show(by rw[e],h1.app (.cons a .nil),h2.app (.cons dn .nil))
theorem aS.retreeR{S S' R:Pg}{d':av}{a:aG}{o:HO}(h:aS K M P H0 (A++(Pm (Po v) (.tr S d))::B) H)(k:a∈S)(pm:S.Perm (S'++R))(l:OT K (Nw M (A++(Pm (Po v) (.tr S d))::B)) (upd H a o) v d' S') :
  aS K M P H0 (A++(Pm (Po v) (.tr S' d'))::B) (upd H a o):=by
 cbv;let(v',ev,ot,h0):=h.tr _ _ _ (K0 _ K3);cases ev;let oe:oas (A++(Pm (Po v) (Sl.tr S d))::B)=oas A++(S++oas B):=by rw[ac,ad,am]
 let nd:=h.nd;rw[oe]at nd;let(y,r,s):=K6.mp nd;let(C,D,w):=K6.mp r
 w_up;let na:Nw M (A++(Pm (Po v) (Sl.tr S d))::B) a:=.inr (by rw[oe];show K0 _ (K1 _ k));let kN:aM (Nw M (A++(Pm (Po v) (Sl.tr S d))::B)) H (upd H a o):=aM.own na;let g:oas (A++(Pm (Po v) (Sl.tr S' d'))::B)=oas A++(S'++oas B):=by rw[ac,ad,am]
 let i:∀b,b∈S'->b∈S:=λb z=>pm.mem_iff.mpr (K1 _ z);let up:∀b,Nw M (A++(Pm (Po v) (Sl.tr S' d'))::B) b->Nw M (A++(Pm (Po v) (Sl.tr S d))::B) b:=Nw.sub λb z=>by
  rw[g]at z;rw[oe];rcases K2.mp z with z|z;show K1 _ z;rcases K2.mp z with z|z;show K0 _ (K1 _ (i b z));show K0 _ (K0 _ z)
 let e:∀(b:aG) (u:HO),upd H a o b=Po u->Nw M (A++(Pm (Po v) (Sl.tr S' d'))::B) b->Nw M (A++(Pm (Po v) (Sl.tr S d))::B) b:=λb Y Y z=>up b z;let c:∀x t,(Pm x t)∈A\/(Pm x t)∈B->(Pm x t)∈A++(Pm (Po v) (Sl.tr S d))::B:=λx t m=>by
  rcases m with m|m;show K1 _ m;show K0 _ (K5 _ m)
 let old:∀x t,(Pm x t)∈A++(Pm (Po v) (Sl.tr S' d'))::B->(Pm x t)=(Pm (Po v) (Sl.tr S' d'))\/((Pm x t)∈A\/(Pm x t)∈B):=λx t m=>by
  rcases K2.mp m with m|m;show .inr (.inl m);rcases K9.mp m with m|m;show .inl m;show .inr (.inr m)
 let other:∀x t b,(Pm x t)∈A\/(Pm x t)∈B->b∈cn (Pm x t)->b≠a:=λx t b m p z=>by
  subst z;rcases m with m|m;show s b (aL.mpr ⟨_,m,p⟩) b (K1 _ k) rfl;show w b k b (aL.mpr ⟨_,m,p⟩) rfl
 show⟨h.keep.put (h0 a k),λb q z=>?_,h.mt,h.pm,λx d' m=>?_,λx d' m=>?_,λx d' m=>?_,λx S2 d' m=>?_,?_⟩;by_cases f:b=a;subst f;rw[aq]at z;cases z;rw[ao f]at z;show h.live b q z;rcases old _ _ m with m|m;cases m;let(w',e1,dn):=h.fr x d' (c _ _ m);show⟨w',e1,(dn.keep kN).to e⟩;rcases old _ _ m with m|m;cases m;let(b,us2,e1,e2,dn,j):=h.ow x d' (c _ _ m);subst e1;show⟨b,us2,rfl,by rw[ao (other _ _ b m (K7.mpr rfl))];show e2,(dn.keep kN).to e,j⟩;rcases old _ _ m with m|m;cases m;let(b,us2,e1,e2,dn,j):=h.io x d' (c _ _ m);subst e1;show⟨b,us2,rfl,by rw[ao (other _ _ b m (K7.mpr rfl))];show e2,(dn.keep kN).to e,j⟩;rcases old _ _ m with m|m;cases m;show⟨v,rfl,l.to e,λb f=>h0 b (i b f)⟩;let(w',e1,dn,j):=h.tr x S2 d' (c _ _ m);subst e1;show⟨w',rfl,(dn.keep kN λb f=>ao (other _ _ b m (by rw[am];show f))).to e,j⟩;rw[g];let n:(oas A++((S'++R)++oas B)).Nodup:=(fo _ (M0 _ pm)).nodup_iff.mp nd;show n.sublist (nl (List.Sublist.append_right ?_ _) _);show List.sublist_append_left _ _
theorem Rel.retreeT{i:Nat}{S S' R:Pg}{d':av}{a:aG}{o:HO}(h:Rel K M P H0 σ0 σ env ts H)(e:env[i]?=Po (.tr S d))(ev:σ[i]?=Po (Po v))(f:a∈S)(pm:S.Perm (S'++R))(b:OT K (Nw M (aw σ env ts)) (upd H a o) v d' S') :
  Rel K M P H0 σ0 σ (env.set i (.tr S' d')) ts (upd H a o):=by
 cbv;let(x,A,B,e1,q1,g):=h.split e;rw[ev]at e1;cases e1
 w_up;let r:=h.e;rw[q1]at r b;show(by rw[g];show r.retreeR f pm b,by simp[h.len],h.vw,λj c e'=>?_);by_cases hj:i=j;subst hj;let hi:i< -env:=(Lc.mp e).1;rw[Lp hi]at e';cases e';rw[Lj hj]at e';show h.ios j c e'
theorem Rel.dct{i:Nat}{S:Pg}(h:Rel K M P H0 σ0 σ env ts H)(e:env[i]?=Po (.tr S (fQ kvs))):∃a es,σ[i]?=Po (Po (.ref a))/\S=[a]/\H a=Po (.ext (cu a es))/\DNs K (Nw M (aw σ env ts)) H (es.map λp=>V.ref p.2.1) (kvs.map λp=>dZ p.1) /\
  DNs K (Nw M (aw σ env ts)) H (es.map λp=>p.2.2) (kvs.map λp=>p.2)/\es.map (λp=>p.1)=kvs.map (λp=>p.1):=by
 cbv;let(x,e1,m):=h.slot e;let(v,ev,ot,_):=h.e.tr _ _ _ m;let(a,es,rfl,b,c,hk,hv,d):=ot.dct_of rfl
 w_up;show(a,es,by rw[e1,ev],b,c,hk,hv,d)
end
section
variable{X:Cx}{K:cp}{pos:Pos}{e:bi}{te tj:DE}
theorem DY(hK:X.K=K)(a:X.A.units+2<Qj):OpR X (q5 .NotIn) (pk K):=by subst hK;show wJ a
theorem KH(hK:X.K=K)(a:X.A.units+2<Qj):IxR X (IC K):=by subst hK;show KJ a
theorem hu2{k:Nat}{A:Around}(a:bW k A):A.units+2<Qj:=LW (Nat.add_le_add_left (by decide:2<=64) _) a.units
def Ew(i:Nat)(tj te:DE):DS:=λDD env=>te env λs1 b=>(∃S kvs,b[i]?=Po (.tr S (fQ kvs)))/\tj b λs2 a=>∃(S:Pg) (kvs:OX) (k:bc) (d:av),
 a[i]?=Po (.tr S (fQ kvs))/\aK a s2=Po (dZ k)/\aK a s1=Po d/\kvs.length<sizeLine/\DD.nx (a.set i (.tr S (fQ (oS kvs k d))))
theorem v8(i:Nat){y:ck}{npos c:Pos}{j:bi}(hK:X.K=K)(I:X.A.units+2<Qj)(hN:X.N[i]?=some y)(hj:PE X j (up K tj))(J:PE X e (up K te))
  (hv:Vis X.env.scope y⊕'Pw) (hd:(y==("__debug__" : ck))=false⊕'Pu)
  (t:(y==("__classdict__" : ck))=false⊕'Pu)
  (L:(∀v,QV (.Subscript (.Name y npos) j c) X.env v=(do
   let ov <-Qf [v] (eval (.Name y npos) X.env)
   let iv <-Qf [v,ov] (eval j X.env)
   Qn c
   Qf [v,ov,iv] (ZJ ov iv v)
   release [v,ov,iv] []))⊕'Pv)
  (hs:Q3 [.Subscript (.Name y npos) j c] e pos.line X.env=pure false⊕'Pt) (hw:Q4 [.Subscript (.Name y npos) j c] e X.env=pure none⊕'Pt)
  (h1:(Qg [.Subscript (.Name y npos) j c] X.env).map (·.2)=[QV (.Subscript (.Name y npos) j c) X.env]⊕'Pt):PS X (.Assign [.Subscript (.Name y npos) j c] e pos) (upS K (Ew i tj te)):=by
 subst hK;show(mS J (mT (ah hN hv hd t) hj (Iu I) L) hs hw h1).imp λD σ H h=>?_;let(M,P,H0,σ0,env,ts,DD,nv,u,O,ok):=h;show(M,P,H0,σ0,env,ts,_,u,O,λs1 n q H1 h1 l=>?_);let((Z,E,Q),h1):=h1;let(a,_,r,_):=l.dct Q;show(.ref a,r,M,P,H0,σ0,n,ts++[(q,s1)],_,l,h1,λs2 g F H2 h2 o=>?_)
 cbv;let(S,kvs,k,d,e2,T,U,hl,V):=h2;let f:Rel X.K M P H0 σ0 σ g (ts++[(q,s1),(F,s2)]) H2:=by simpa using o
 let w:=f.kept (v:=q) (s:=s1) (!1) U;let m:=f.kept (v:=F) (s:=s2) (!1) T;let(a',es,p,z,W,hk,hv,C):=f.drop.dct e2;rw[r]at p;cases p;let(b,xs,rfl,_,_):=m.tuple
 w_up;let G:-es=-kvs:=by let:=congrArg nn C;simpa using this
 show(k,a,b,es,kvs,rfl,rfl,m.dv,W,hk.dv,C,!0,ok.nx _ _ _ V ?_);let(Y,p2,p3):=C4 (b:=b) (k:=k) C hk hv m w;let na:Nw M (aw σ g ts) a:=by let(x,A,B,e1,q1,q2):=f.drop.split e2;show .inr ?_;rw[q1,ac,ad];rw[r]at e1;cases e1;rw[am,z];simp
 let kN:aM (Nw M (aw σ g ts)) H2 (upd H2 a (.ext (cu a (wo es k b q)))):=aM.own na;show f.drop.retreeT (R:=[]) e2 r (by rw[z];simp) (!1) ?_;rw[z];show .dct aq (p2.keep kN) (p3.keep kN) Y
end
section
variable{K:cp}{M P N:aG->Prop}{H0 H:Hp}{E:O9}{σ0 σ:St}{env:Pf}{ts:O0}{v:V}{d:av}{kvs:OX}
theorem aS.addO(h:aS K M P H0 E H){p:aG}{o:HO}(c:H p=Pp)(ot:∀N,OT K N (upd H p o) (.ref p) d [p]):aS K M P H0 (E++[(Po (.ref p),.tr [p] d)]) (upd H p o):=by
 let oe:oas (E++[(Po (.ref p),Sl.tr [p] d)])=oas E++[p]:=by rw[ac];rfl
 let i:p ∉ oas E:=λz=>by
  let(vs',q,_):=h.own z;rw[c]at q;cases q
 let h0:H0 p=Pp:=by
  cases e:H0 p with
  |none=>rfl
  |some o=>show absurd c (h.live p (by rw[e];simp))
 let up:∀b o,H b=Po o->Nw M (E++[(Po (.ref p),Sl.tr [p] d)]) b->Nw M E b:=λb Y e z=>by
  rcases z with z|z;show .inl z;rw[oe]at z;rcases K2.mp z with z|z;show .inr z;rw[K7.mp z,c]at e;cases e
 let h':=h.same (aA.new (o:=o) c);show(h'.keep,h'.live,h.mt,h.pm,λx d' m=>?_,λx d' m=>?_,λx d' m=>?_,λx S d' m=>?_,?_);rcases K2.mp m with m|m;let(v,e,dn):=h.fr x d' m;show(v,e,(dn.to up).keep (aM.same (aA.new c)));rw[K7]at m;cases m;rcases K2.mp m with m|m;let(a,g,e,e2,dn,r):=h.ow x d' m;show(a,g,e,aA.new c _ _ e2,(dn.to up).keep (aM.same (aA.new c)),r);rw[K7]at m;cases m;rcases K2.mp m with m|m;let(a,g,e,e2,dn,r):=h.io x d' m;show(a,g,e,aA.new c _ _ e2,(dn.to up).keep (aM.same (aA.new c)),r);rw[K7]at m;cases m;rcases K2.mp m with m|m;let(v,e,dn,r):=h.tr x S d' m;show(v,e,(dn.to up).keep (aM.same (aA.new c)) λa f=>by
  let(xs,z):=dn.lives a f;rw[aA.new c _ _ z,z],r)
 rw[K7]at m;cases m;show(_,rfl,ot _,λa f=>by rw[K7.mp f];show h0);rw[oe];show K6.mpr (h.nd,!1,λa f b j=>by rw[K7.mp j];exactλz=>i (z▸f))
theorem aS.addD(h:aS K M P H0 E H){p:aG}(a:H p=Pp):aS K M P H0 (E++[(Po (.ref p),.tr [p] (fQ []))]) (upd H p (.ext (cu p []))):=h.addO a λY=>.dct (es:=[]) (kvs:=[]) aq .nil .nil rfl
theorem Rel.addD(h:Rel K M P H0 σ0 σ env ts H){p:aG}(a:H p=Pp):Rel K M P H0 σ0 σ env (ts++[(.ref p,.tr [p] (fQ []))]) (upd H p (.ext (cu p []))):=h.withRes (h.e.addD a) rfl
end
section
variable{X:Cx}{K:cp}{pos:Pos}{e1 e2:bi}{tk tv:DE}
def ES:DE:=λenv R=>∀S,R (.tr S (fQ [])) env
theorem Gc:PE X (.Dict [] [] pos) (up K ES):=Dn.imp λσ H Q h=>by
 let(M,P,H0,σ0,env,ts,R,a,b,c):=h
 exactλp d=>c _ _ _ _ (b _) (a.addD d)
def ER(tk tv:DE):DE:=λenv R=>tk env λs1 b=>tv b λs2 a=>∃(k:bc) (d:av),aK a s1=Po (dZ k)/\aK a s2=Po d/\∀S,R (.tr S (fQ [(k,d)])) a
theorem Gb(hK:X.K=K)(x:X.A.units+2<Qj)(hk:PE X e1 (up K tk))(hv:PE X e2 (up K tv)):PE X (.Dict [Po e1] [e2] pos) (up K (ER tk tv)):=by
 subst hK;show(Dm (LW (L3 _) x) hk hv).imp λσ H Q h=>?_;let(M,P,H0,σ0,env,ts,R,q,y,z):=h;intro p C;show(M,P,H0,σ0,env,_,_,q.addD C,y,λs1 j w H1 h1 l=>(M,P,H0,σ0,j,_,_,l,h1,λs2 f o H2 h2 m=>?_))
 cbv;let(k,d,D,E,F):=h2;let c:Rel X.K M P H0 σ0 σ f ((ts++[(.ref p,.tr [p] (fQ []))])++[(w,s1),(o,s2)]) H2:=by simpa using m
 let g:=c.kept (v:=w) (s:=s1) (!1) D;let n:=c.kept (v:=o) (s:=s2) (!1) E;let i:=c.drop;let r:=i.e;rw[au]at r g n;let(v',ev,ot,h0):=r.tr _ _ _ (K0 _ K3);let(a,es,t,N,G,I,J,L):=ot.dct_of (kvs:=[]) rfl;rw[t]at ev;cases ev;let u:es=[]:=by simpa using L
 subst u;let(b,xs,rfl,_,_):=g.tuple
 w_up;show(k,b,rfl,g.dv,G,z _ _ _ _ (F [p]) ?_);let na:Nw M (aw σ f ts++tmp [(V.ref p,Sl.tr [p] (fQ []))]) p:=.inr (by rw[ac];show K0 _ (aL.mpr (_,K7.mpr rfl,K7.mpr rfl)));let kN:aM (Nw M (aw σ f ts++tmp [(V.ref p,Sl.tr [p] (fQ []))])) H2 (upd H2 p (.ext (cu p [(k,b,o)]))):=aM.own na;show i.drop.withRes ?_ rfl;show aS.retreeR (B:=[]) (R:=[]) (S:=[p]) r (!1) (!1) ?_;show .dct (es:=[(k,b,o)]) (kvs:=[(k,d)]) aq ((DNs.cons g .nil).keep kN) ((DNs.cons n .nil).keep kN) rfl
end
open Builtin.Str StrLaws PySem.NumText
def cpl(x:ck):Pd:=x.cps.toList
theorem qG(x y:ck):cpl (x++y)=cpl x++cpl y:=by simp[cpl,Str.cps_append]
abbrev wD(w:OQ):av:=.list (w.map λr=>fzD (r.map .int))
section
variable{v:V}
theorem dz{α:Type}(xs:List α)(v:α):atI (xs++[v]) (-1)=Po v:=by unfold atI ixN;rw[OH (!2),OG (by rw[LB];simp;lia)];show(xs++[v])[(-1+((xs++[v]).length:Int)).toNat]?=Po v;rw[show(-1+((xs++[v]).length:Int)).toNat=-xs by rw[LB];simp;lia];simp
end
noncomputable def yL(CX:CXT)(P:ky)(w:kD)(K:cp)(mg:ck->O3)(base:cc)(N:Pi)(qual:ck)(scope:Qc)(f:aG)(cd:ba)(cl:OY)(A:Around)(outer:Pa)(s:bb)(H:Hp)(E:XK):Cx where
 prog:=P
 w := w
 K := K
 mg := mg
 base:=base
 A := A.deeper (envX qual scope (~~~s) f cd cl)
 N := N
 s₀ := s
 H₀ := H
 env:=envX qual scope (~~~s) f cd cl
 outer:=outer
 stack:=envX qual scope (~~~s) f cd cl::outer
 ex := []
 calm:=Pq
 fn := λY=>Pr
 pn := []
 xe := λe s'=>kn (kq P w) (A.deeper (envX qual scope (~~~s) f cd cl)) (Z7 (envX qual scope (~~~s) f cd cl) e) (λY a=>CX outer H s E e a) (λe' a=>CX outer H s E e' a) s'
structure gy(p x:ck)(sc:Qc):Prop where
 kind:sc.kind=.function
 co : sc.isCoroutine=false
 gen:sc.isGenerator=false
 par:sc.names.lookup p=some .local
 fre:sc.names.lookup x=some .free
 nocell:∀y∈sc.names,y.2≠.cell
 one:∀y∈sc.names,y.2=.free->y.1=x
 ne : p≠x
section
variable{CX:CXT}{P:ky}{w:kD}{K:cp}{mg:ck->O3}{base:cc}{qual p x:ck}{scope:Qc}{f c:aG}{cd:ba}{A:Around}{outer:Pa}{s:bb}{H:Hp}{E:XK}{u u0:ba}{v v0:V}{h₁:cc}{tk:Nat}
theorem uH(S:gy p x scope)(hd:A.handled=none)(e:qW P w K mg base A outer s H)(a:s.heap.IsCell c (some u0))(n:br v0 u0)(k:H c=none)(r:br v u)
  (l:h₁.Ns s.heap.objs.size (λy=>[(p,u)].reverse.lookup y)) (hk:∀b o,s.heap.get? b=some o->h₁.get? b=some o) :
  Inv (yL CX P w K mg base [p,x] qual scope f cd [(x,c)] A outer s H E) [] [some v,some v0] H { s with heap:=h₁,toks:=tk }:=by
 let g:∀b:aG,b ∉ (yL CX P w K mg base [p,x] qual scope f cd [(x,c)] A outer s H E).ex:=λb z=>absurd (show b∈([]:Pg) from z) (!1);let look:∀y d,gu y [(x,c)]=Po d->y=x/\d=c:=λy d h=>by
  let:=hV h;rw[K7]at this;cases this;show(rfl,rfl)
 let m:gu x [(x,c)]=Po c:=!1
 show((e.mod,S.kind,rfl,rfl,Lf _,λy z d h1 h2=>?_,λy j=>?_,λy d h=>absurd h (by show ¬Pr=Pq;decide),λY=>hd,Around.frames_deeper e.frames,.inr (rfl,rfl),λb z=>absurd z (g b),e.bs,e.bsz,λb Y Y=>g b,λb z=>absurd z (g b),e.funs,e.frf,e.tab),
  rfl,e.bare,Un.kept hk,(_,l,λi y z h1 h2 B=>?_),λy d h=>?_,e.hok.fresh (Lf _),λy d h=>?_,λq t=>absurd (show q∈([]:OU) from t) (!1),e.hok.kept hk,rfl)
 rw[(look y d h1).1,(look z d h2).1];let j:scope.names.lookup y=Po .cell\/scope.names.lookup y=Po .free:=j;rcases j with j|j;show absurd rfl (S.nocell _ (hV j));let:=S.one _ (hV j) rfl;simp only at this;rw[this];show(c,m)
 match i,h1,h2 with
 | 0,h1,h2 =>
  let h1:p=y:=by simpa[yL] using h1
  let h2:v=z:=by simpa using h2
  subst h1 h2;show(u,r,.inl (S.par,?_));simp
 | 1,h1,h2 =>
  let h1:x=y:=by simpa[yL] using h1
  let h2:v0=z:=by simpa using h2
  subst h1 h2;show(u0,n,.inr (.inr S.fre,c,m,a.keeps hk))
 |i+2,h1,h2=>simp at h2
 let(_,rfl):=look y d h;show(_,a.keeps hk);let(_,rfl):=look y d h;show k
theorem Ab{params:QO}{body:bi}{pm ctv:ba}{c':aG}{t:TE}{Q:VK}{k:Nat}(S:gy p x scope)(n:bW (k+1) A)(h:qW P w K mg base A outer s H)(ho:s.heap.get? f=Po (Q9 "<lambda>" qual params body scope [(Pm x c)] pm c' ctv))(i:s.heap.CodeRec (.ref c') qual)
  (B:Qh (ZA "<lambda>" qual params body scope [(Pm x c)] pm (.ref c') ctv) ⟨[u],[]⟩=pure [(Pm p u)]) (a:s.heap.IsCell c (Po u0)) (C:br v0 u0) (j:H c=Pp) (r:br v u)
  (D:PE (yL CX P w K mg base [p,x] qual scope f (.ref c') [(Pm x c)] A outer s H E) body t) (F:t [Po v,Po v0] H Q):Qo (kq P w) A (.call (.ref f) ⟨[u],[]⟩) (CR CX outer P w H s Q E) s:=by let l:s.heap.NoLimit:=h.mod.nolimit.keeps λb o e=>(h.bs b o e).1;show kla_callFunE n.depth ho rfl S.co S.gen rfl i ?_;rw[B];show kf (wpAny_newFunctionEnv S.nocell (λy G=>by rw[K7.mp G];show S.par) (λh₁ m g=>⟨l.fresh _ g,?_⟩) S.kind);let d:∀b o,s.heap.get? b=Po o->h₁.get? b=Po o:=λb o e=>g.extBut b o (Lr (Lh e)) (La _ e);show Qo _ _ (.expr body (envX qual scope (~~~s) f (.ref c') [(Pm x c)])) _ _;show kla_codeExpr ?_;let I:=uH (CX:=CX) (E:=E) (qual:=qual) (f:=f) (cd:=.ref c') (tk:=s.toks+[(Pm p u)].length) S n.hd h a C j r m d;show qD (D [] _ _ H _ I F) (λM s' hs=>?_) λe s' hs=>hs;let(z,H',J,L,q):=hs;show⟨z,H',J.os,J.bare,J.base,J.hok,L,q⟩
end
section
variable{X:Cx}{pins:OU}{σ:St}{H:Hp}{s:bb}{params:QO}{body:bi}{scope:Qc}{pos:Pos}{E:ba->bb->Prop}{clos:OY}
theorem xh(I:Inv X pins σ H s)(L:uV X)(k:QB scope X.env=pure clos)(l:Za params X.env=([],[])){Q:ba->bb->Prop}
  (h : ∀f c' pm ctv s' H',Inv X pins σ H' s'->aA H H'->s'.heap.get? f=Po (Q9 "<lambda>" (X.env.qual ++ "<lambda>") params body scope clos pm c' ctv)->jD X pins H' f->HE H' c' (X.env.qual ++ "<lambda>")->Q (.ref f) s') :
  kn (kq X.prog X.w) X.A (eval (.Lambda params body scope pos) X.env) Q E s:=by
 cbv;let(c,T,a,C,hL):=L;let N:H T=Po (.tbl (X.env.qual ++ "<lambda>")):=I.base.tbls T _ (I.ok.tab T _ hL);let(ps,e,g,d):=I.hok T _ N;let(bm,ob,b1,b2,x,O,R,y):=I.mod.bmain
 w_up;let v:=I.mod.glob.keeps I.bk;let z:kw≠T:=λq=>by
  let(o,es,ep,e',hd,_):=v;rw[q,e]at e';cases e';cases hd
 let B:bm≠T:=λq=>by
  let e':=I.bk _ _ x;rw[q,e]at e';cases e';cases O
 let D:bm≠kw:=λq=>by
  let(o,es,ep,e',hd,_):=v;let e2:=I.bk _ _ x;rw[q,e']at e2;cases e2;rw[hd]at y;cases y
 let P:s.heap.BuiltinsAt X.mg T:=(bm,ob,b1,b2,D,B,I.bk _ _ x,O,R,y)
 show kla_eval l ?_;cases hc:Zk pos ps.toList with
 |none =>
  show kla_makeFunction k I.ok.glob v a (C.keeps I.bk) e g hc z P λc' ctv h' tk hx m S n F=>?_
  cbv;let(c2,oc,vs,t,e2,r,hd,hv):=n;cases e2;let G:E4 (upd H c' (.frz oc (.own 0))) h' T (X.env.qual ++ "<lambda>"):=by show(_,F,by rw[NJ];show TriplesOk_snoc _ _ _ _ g,λp U i=>?_);rw[NJ]at i;rcases uP _ g i with i|rfl;let(c2,J,V,K,t2,e1,e2,e3):=d _ _ i;show(c2,J,V,K,t2,e1,by rw[ao (ay e2 (I.hok.fresh m))];show e2,e3);show(c',oc,_,vs,t,rfl,aq,hd,hv)
  let(j,W):=I.grow (tk:=tk) N hx m r hd hv G
  w_up;let M:=j.kept (t':=tk) (h':=h'.push (Q9 "<lambda>" (X.env.qual ++ "<lambda>") params body scope clos ((X.mg "__name__").getD .none) c' ctv)) λb o e=>La _ e;show h _ c' _ ctv _ _ M W (Lm _ rfl) (j.fpOk (Lf _) (j.hok.fresh (Lf _))) (_,_,_,_,aq,hd,hv)
 |some U =>
  let(c',oc,u,vs,t,rfl,e1,hd,hv):=d _ _ hc;let(r,_):=I.hok c' _ e1;show kla_makeFunctionHit k I.ok.glob v a (C.keeps I.bk) e g hc P λctv h' tk hk hsz=>?_;let j:=I.kept (t':=tk) hk;let M:=j.kept (t':=tk) (h':=h'.push (Q9 "<lambda>" (X.env.qual ++ "<lambda>") params body scope clos ((X.mg "__name__").getD .none) c' ctv)) λb o e=>La _ e;show h _ c' _ ctv _ _ M (aA.refl _) (Lm _ rfl) (j.fpOk (Lf _) (j.hok.fresh (Lf _))) (_,_,_,_,e1,hd,hv)
end
theorem jh:∀a:O7,HT.lexLt a a=Pr
 |[]=>HT.lexLt_nil_nil
 |x::a=>by rw[HT.lexLt_cons,OG rfl];show jh a
theorem Bv:∀a b:O7,HT.lexLt a b=Pq->HT.lexLt b a=Pr
 |[],[],h=>by rw[HT.lexLt_nil_nil]at h;cases h
 |[],y::b,_=>HT.lexLt_cons_nil ..
 |x::a,[],h=>by rw[HT.lexLt_cons_nil]at h;cases h
 |x :: a,y::b,h=>by
  rw[HT.lexLt_cons]at h ⊢;by_cases e:x=y;rw[OG e]at h;rw[OG e.symm];show Bv a b h;rw[OH e]at h;rw[OH λz=>e z.symm];let:=of_decide_eq_true h;show decide_eq_false (!0)
theorem Bu:∀a b c:O7,HT.lexLt a b=Pr->HT.lexLt b c=Pr->HT.lexLt a c=Pr
 |[],[],c,_,h=>h
 |[],y::b,c,h,_=>by rw[HT.lexLt_nil_cons]at h;cases h
 |x::a,b,[],_,_=>HT.lexLt_cons_nil ..
 |x::a,[],z::c,_,h=>by rw[HT.lexLt_nil_cons]at h;cases h
 |x :: a,y::b,z::c,h1,h2=>by
  rw[HT.lexLt_cons]at h1 h2 ⊢;by_cases e1:x=y;rw[OG e1]at h1;by_cases e2:y=z;rw[OG e2]at h2;rw[OG (e1.trans e2)];show Bu a b c h1 h2;rw[OH e2]at h2;rw[OH λq=>e2 (e1.symm.trans q),e1];show h2;rw[OH e1]at h1;let h1:=of_decide_eq_false h1;by_cases e2:y=z;rw[OH λq=>e1 (q.trans e2.symm)];show decide_eq_false (!0);rw[OH e2]at h2;let h2:=of_decide_eq_false h2;rw[OH (!0)];show decide_eq_false (!0)
theorem gp(a b:Int×O7):dy a b=if a.1=b.1 then HT.lexLt a.2 b.2 else decide (a.1<b.1):=by unfold dy;by_cases e:a.1=b.1;rw[OG e,OG e];by_cases e2:a.2=b.2;rw[OG e2,e2,jh];rw[OH e2];rw[OH e,OH e]
theorem Al(a b:Int×O7)(h:dy a b=Pq):dy b a=Pr:=by rw[gp]at h ⊢;by_cases e:a.1=b.1;rw[OG e]at h;rw[OG e.symm];show Bv _ _ h;rw[OH e]at h;rw[OH λz=>e z.symm];let:=of_decide_eq_true h;show decide_eq_false (!0)
theorem Ak(a b c:Int×O7)(h1:dy a b=Pr)(h2:dy b c=Pr):dy a c=Pr:=by rw[gp]at h1 h2 ⊢;by_cases e1:a.1=b.1;rw[OG e1]at h1;by_cases e2:b.1=c.1;rw[OG e2]at h2;rw[OG (e1.trans e2)];show Bu _ _ _ h1 h2;rw[OH e2]at h2;rw[OH λq=>e2 (e1.symm.trans q),e1];show h2;rw[OH e1]at h1;let h1:=of_decide_eq_false h1;by_cases e2:b.1=c.1;rw[OH λq=>e1 (q.trans e2.symm)];show decide_eq_false (!0);rw[OH e2]at h2;let h2:=of_decide_eq_false h2;rw[OH (!0)];show decide_eq_false (!0)
theorem uh{ks:OK}(h1:1<=-ks):∃j,(aX ks).getLast? = Po j/\j< -ks/\∀i,i< -ks->(ks.getD i (0,[])).1<=(ks.getD j (0,[])).1:=by
 let o:=bz ks;let hl:(aX ks).length=-ks:=by rw[o.length_eq,LH]
 let l:-ks-1<(aX ks).length:=!0
 let f:(aX ks).getLast? = Po (aX ks)[ks.length-1]:=by
  rw[M8,<-K8 l]
  congr 1
  lia
 show(_,f,cS _ (cE _),λi hi=>?_);let m:i∈aX ks:=o.mem_iff.mpr (LP.mpr hi);let(a,p,e):=LC m;rw[hl]at p;let key:dy (ks.getD (aX ks)[ks.length-1] (0,[])) (ks.getD i (0,[]))=Pr:=by
  by_cases h2:-ks<2;let e1:-ks=1:=!0
  let:(aX ks)[ks.length-1]=i:=by
   rw[<-e]
   congr 1
   lia
  rw[this,gp,OG rfl,jh];obtain⟨lt,d⟩:∃lt:Nat->Nat->Bool,lt=λi j=>dy (ks.getD i (0,[])) (ks.getD j (0,[])):=(_,rfl)
  let ex:aX ks=(aB lt (Qz (-ks))).toList:=by unfold aX;rw[OH h2,d]
  let as:∀a b,lt a b=Pq->lt b a=Pr:=λa b h=>by rw[d]at h ⊢;show Al _ _ h
  let tr:∀a b c,lt a b=Pr->lt b c=Pr->lt a c=Pr:=λa b c h1 h2=>by rw[d]at h1 h2 ⊢;show Ak _ _ _ h1 h2
  let asc:=yZ as tr (n:=-ks) h1;let far:=kI.le as tr asc (a:=a) (b:=-ks-1) (!0) (!0);let g:∀k,(hk:k< -ks)->gA (aB lt (Qz (-ks))) k=(aX ks)[k]'(!0):=λk hk=>by
   unfold gA;let hz:k<(aB lt (Qz (-ks))).size:=by
    let:(aB lt (Qz (-ks))).toList.length=-ks:=by rw[<-ex];show hl
    rw[<-ge,this];show hk
   rw[gf,M5 hz];show _=_;simp only[ex,NU,tD]
  rw[g _ (!0),g a p,e,d]at far;show far
 rw[gp]at key;by_cases e3:(ks.getD (aX ks)[ks.length-1] (0,[])).1=(ks.getD i (0,[])).1;lia;rw[OH e3]at key;let:=of_decide_eq_false key;lia
theorem gh{α:Type}{p:Pd}{xs:List α}{d:α}(h:p.Perm (dm (-xs))):(pick p xs d).Perm xs:=by let h1:=h.map λi=>xs.getD i d;show h1.trans (List.Perm.of_eq ?_);apply Mh;simp;intro i a b;simp at a;simp[a]
theorem JR{CX:CXT}{P:ky}{w:kD}{K:cp}{mg:ck->O3}{base:cc}{N N':Pi}{qual:ck}{scope sc:Qc}{f:aG}{cd:ba}{cl:OY}{A:Around}{outer:Pa}{s:bb}{H:Hp}{E:XK}{ix:OM}
  (h : bOk N scope N' ix sc=Pq):bX (yL CX P w K mg base N qual scope f cd cl A outer s H E).N (yL CX P w K mg base N qual scope f cd cl A outer s H E).env N' ix sc:=oH rfl rfl h
section
variable{prog:ky}{w:kD}{A:Around}{s:bb}
theorem sX{us:Ph}{ns:O7}(h2:2<=-us)(k:∀i (h:i< -us),∃t,us[i]=ir (ns.getD i 0) t)(hl:-ns=-us):iy prog w A us (ns.map λn=>(Pm n [])) s:=by
 show kas_kind (T:=.type "int") h2 (λv hv=>?_) (!2) (by rfl) ⟨rfl,λi j C hi hj hc=>?_⟩;let(i,hi,rfl):=LC hv;let(t,e):=k i hi;rw[e];show .now;let e1:us.getD i dr=us[i]:=by simp[hi]
 let e2:us.getD j dr=us[j]:=by simp[hj]
 show kn (kq prog w) A (keyLt' _ (us.getD i dr) (us.getD j dr)) C (λY Y=>False) s;rw[e1,e2];let(t,ex):=k i hi;let(u,a):=k j hj;rw[ex,a];let g:∀m,m< -us->(ns.map λn=>(Pm n ([]:O7))).getD m (Pm 0 [])=(Pm (ns.getD m 0) []):=λm b=>by
  rw[Lb,LD,Lb,K8 (!0)];rfl
 rw[g i hi,g j hj,gp]at hc;show kat_lt_int ?_;let e:(if (Pm (ns.getD i 0) ([]:O7)).1=(Pm (ns.getD j 0) ([]:O7)).1 then HT.lexLt (Pm (ns.getD i 0) ([]:O7)).2 (Pm (ns.getD j 0) ([]:O7)).2 else decide ((Pm (ns.getD i 0) ([]:O7)).1<(Pm (ns.getD j 0) ([]:O7)).1))=decide (ns.getD i 0<ns.getD j 0):=by by_cases z:ns.getD i 0=ns.getD j 0;rw[OG z,jh];show(decide_eq_false (!0)).symm;rw[OH z]
 rw[e]at hc;show hc
end
def jI(ns:O7):O7:=pick (aX (ns.map λn=>(n,[]))) ns 0
theorem ue(ns:O7):(jI ns).Perm ns:=gh (by let:=bz (ns.map λn=>(n,([]:O7)));rwa [K4]at this)
section
variable{X:Cx}{K:cp}
theorem yn(hK:X.K=K):fU X (.builtin "sorted") (λxs H Q=>∃(p:aG) (ns:O7),xs=[.ref p]/\SqL K H p (ns.map V.int)/\ns.length<64 /\
  ∀q,H q=Pp->Q (.ref q) (upd H q (.lst ((jI ns).map V.int)))):=by
 subst hK;intro pins s σ H xs us Q I r h;let(p,ns,rfl,hs,m,q):=h;let(u,rfl,v):=jG r;cases (show u=di p from v);let(a,g,w,_):=I.list hs;let b:=-g;rw[K4]at b;let d:∀i (h:i< -a),∃t,a[i]=ir (ns.getD i 0) t:=λi hi=>by
  let e:i< -ns:=!0
  cbv;let(u,e1,(t,e2)):=g.get (i:=i) (x:=.int ns[i]) (by rw[LD,K8 e];rfl);rw[K8 hi]at e1;cases e1
  w_up;show(t,?_);rw[e2,Lb,K8 e];rfl
 show oZ (vs:=a) (ks:=ns.map λn=>(n,[])) w.isList (!0) (by rw[K4];lia) (λh2 h' k=>sX h2 d (!0)) λD h' c k l j=>?_;let f:∀i∈aX (ns.map λn=>(n,([]:O7))),i< -ns:=λi hi=>by let:=cS i hi;rwa [K4]at this
 let ep:pick (aX (ns.map λn=>(n,([]:O7)))) (ns.map V.int) .non=(jI ns).map V.int:=by unfold jI pick;rw[LA];show L6 λi hi=>?_;let:=f i hi;rw[Lb,LD,K8 this];show _=V.int (ns.getD i 0);rw[Lb,K8 this];rfl
 show(.ref D,upd H D (.lst ((jI ns).map V.int)),I.laid (t':=s.toks) (o:=.lst ((jI ns).map V.int)) k l (?_,_,c,ep▸fW g (λi hi=>by rw[K4];show f i hi),j),rfl,q _ (I.hok.fresh l));rw[K4,(ue ns).length_eq,qE];lia
def Et(t:DA):DE:=λenv R=>t env λss a=>∃s ns,ss=[s]/\aZ a s=Po (.list (li ns))/\ns.length<64/\R (.ow (li (jI ns))) a
variable{e:bi}{p pos:Pos}{tl:DA}
theorem FT(hK:X.K=K)(g:Gl X "sorted")(i:X.mg "sorted" = none)(j:PA X [e] (upA K tl))(k:kh [e] X.env=[(false,eval e X.env)]⊕'Pt):PE X (.Call (.Name "sorted" p) [e] [] pos) (up K (Et tl)) :=
 (cY (yn (K:=K) hK) g i boot_sorted j (!2) (!2) k rfl).imp λσ H Q h=>by
 let(M,P,H0,σ0,env,ts,R,c,l,m):=h;show(M,P,H0,σ0,env,ts,_,c,l,λss f vs H1 h1 hl b=>?_)
 cbv;let(s,ns,rfl,e1,d,n):=h1;let(v,rfl):=uE hl;let(a,us,rfl,sq,q):=(b.view (v:=v) (!1) e1).list
 w_up;rw[q.ints]at sq;show(a,ns,rfl,sq,d,λr o=>m _ _ _ _ n (b.resOw o (l5 _)))
end
def s9:Sl->Sl
 |.fr d=>.fr d
 |_=>.un
theorem xy{s:Sl}{d:av}(h:s9 s=.fr d):s=.fr d:=by cases s <;> first|show h|cases h
theorem sZ{s:Sl}{a:aG}{x:Pb}:a ∉ cn (x,s9 s):=λz=>by
 rcases gl z with⟨_,⟨ds,e⟩|⟨ds,e⟩⟩|⟨S,d,e,_⟩ <;> cases s <;> cases e
def Ev(t:DE)(env:Pf)(s:Sl):Prop:=∀R:Sl->Pf->Prop,R s env->t env R
def EvA(t:DA)(env:Pf)(ss:Pf):Prop:=∀R:Pf->Pf->Prop,R ss env->t env R
def EvT(t:DT)(env:Pf)(k:Bool):Prop:=∀R:Bool->Pf->Prop,R k env->t env R
def EvO(t:DO)(env:Pf)(k:O2):Prop:=∀R:O2->Pf->Prop,R k env->t env R
def EvI(t:DI)(env:Pf)(ds:Pe):Prop:=∀R:Pe->Pf->Prop,R ds env->t env R
def E2(g:G2)(d e x:av):Prop:=∀R:av->Prop,R x->g d e R
def EB(g:GB)(ds:Pe)(x:av):Prop:=∀R:av->Prop,R x->g ds R
def EL(g:av->av->(Pe->Prop)->Prop)(d e:av)(x:Pe):Prop:=∀R:Pe->Prop,R x->g d e R
section
variable{env:Pf}{s s1 s2 s':Sl}{d d1 d2 x:av}{ds es xs ys:Pe}{i:Nat}{m n:Int}{ta tb te:DE}{tl:DA}{ss:Pf}{g:G2}{k:Bool}{DD:gW}
theorem G9(h:(env[i]?).bind slD=Po d):Ev (HV i) env (.vw i):=λY r=>(d,h,r)
theorem KM:Ev (dC d) env (.fr d):=λY r=>r
theorem Hg(h:env[i]?=Po (.fr d)):Ev (Fe i) env (.fr d):=λR r=>by unfold Fe;rw[h];show r
theorem Jr(h1:Ev ta env s1)(h2:Ev tb env s2)(e1:aZ env s1=Po d1)(e2:aZ env s2=Po d2)(h:E2 g d1 d2 x):Ev (dOp g ta tb) env (.fr x):=λY r=>h1 _ (h2 _ (d1,d2,e1,e2,h _ r))
theorem Hd{g:av->av->(Pe->Prop)->Prop}(h1:Ev ta env s1)(h2:Ev tb env s2)(e1:aZ env s1=Po d1)(e2:aZ env s2=Po d2)(h:EL g d1 d2 xs):Ev (Ht g ta tb) env (.ow xs):=λY r=>h1 _ (h2 _ (d1,d2,e1,e2,h _ r))
theorem Ju{g:GB}(h1:EvA tl env ss)(e1:fX env ss=Po ds)(h:EB g ds x):Ev (dCB g tl) env (.fr x):=λY r=>h1 _ (ds,e1,h _ r)
theorem Ha(h1:EvA tl env ss)(e1:bh env ss=Po ds)(z:-ss<=sizeLine):Ev (Fb tl) env (.fr (.tuple ds)):=λY r=>h1 _ (ds,e1,z,r)
theorem Hf(h1:EvA tl env ss)(e1:bh env ss=Po ds)(z:-ss<=sizeLine):Ev (Fd tl) env (.ow ds):=λY r=>h1 _ (ds,e1,z,r)
theorem Hb{l h:O2}{t1 t2:DO}(h1:Ev te env s)(h2:EvO t1 env l)(a:EvO t2 env h)(e1:aZ env s=Po (.list ds)):Ev (HW te t1 t2) env (.ow (B0 ds l h)):=λY r=>h1 _ (h2 _ (a _ (ds,e1,r)))
theorem Js:EvO l8 env Pp:=λY r=>r
theorem Eg(h1:Ev te env s)(e1:aZ env s=Po (.int n)):EvO (AI te) env (Po n):=λY r=>h1 _ (n,e1,r)
theorem He:EvA yK env []:=λY r=>r
theorem Eh(h1:Ev te env s)(h2:EvA tl env ss):EvA (ju te tl) env (s::ss):=λY r=>h1 _ (h2 _ r)
theorem Ef(h1:Ev te env s)(e1:aZ env s=Po (.bool k)):EvT (l6 te) env k:=λY r=>h1 _ (k,e1,r)
theorem Jt{n:String}(h1:Ev te env s)(e1:aZ env s=Po d)(e2:Dx d=Pq):Ev (dIs n te) env (.fr (.bool (isK n d))):=λY r=>h1 _ (d,e1,e2,r)
theorem KN{f:Int->Int->Int}:E2 (gI f) (.int m) (.int n) (.int (f m n)):=λY r=>(m,n,rfl,rfl,r)
theorem Jx{C:Int->Int->Prop}{f:Int->Int->Int}(c:C m n):E2 (gIC C f) (.int m) (.int n) (.int (f m n)):=λY r=>(m,n,rfl,rfl,c,r)
theorem KO{f:Int->Int->Bool}:E2 (gB f) (.int m) (.int n) (.bool (f m n)):=λY r=>(m,n,rfl,rfl,r)
theorem Hn:E2 HR d .none (.bool (ku d)):=λY r=>(rfl,r)
theorem El:E2 Az d .none (.bool (!ku d)):=λY r=>(rfl,r)
theorem Jw(h1:iB d=Po ds)(h2:atI ds n=Po x):E2 gIx d (.int n) x:=λY r=>(ds,n,x,h1,rfl,h2,r)
theorem Hm(h:iB d=Po es):EB G5 [d] (.int (-es)):=λY r=>(d,es,rfl,h,r)
theorem Hl{ns:O7}(h:cj es=Po ns):EB HP [.list es] (.int ns.sum):=λY r=>(es,ns,rfl,h,r)
theorem Hk(z:-xs+-ys<=sizeLine):EL HS (.list xs) (.list ys) (xs++ys):=λY r=>(xs,ys,rfl,rfl,z,r)
theorem Ej(h1:Ev te env s)(e1:aK env s=Po (.list ds)):EvI (tO te) env ds:=λY r=>h1 _ (ds,e1,r)
theorem Ei(h1:EvA tl env [s])(e1:aZ env s=Po (.int n))(a:-4611686018427387904<=n)(z2:n<4611686018427387904):EvI (AH tl) env (fF 0 n.toNat):=λY r=>h1 _ (s,n,rfl,e1,a,z2,r)
theorem Ek{b:Bool}(h1:EvA tl env [s])(e1:aK env s=Po (sqD b ds)):EvI (AK b tl) env (l4 ds):=λY r=>h1 _ (s,ds,rfl,e1,r)
theorem DL{n:Nat}(h:decide (n<=100)=Pq):n<=sizeLine:=Ld (of_decide_eq_true h) (Ld (!2) ar)
theorem ws_seq{t u:DS}(h:t { DD with nx:=u DD } env):Fc t u DD env:=h
theorem Fk(h1:Ev te env s)(z:i< -env)(e1:gF env s=Po s')(h:DD.nx (env.set i s')):BX i te DD env:=h1 _ (s',z,e1,h)
theorem Fl(h1:Ev te env s)(h:DD.rt s env):Hr te DD env:=h1 _ h
theorem Fm{c:DT}{t u:DS}(h1:EvT c env k)(h:if k=Pq then t DD env else u DD env):Hy c t u DD env:=h1 _ h
theorem Fn{it:DI}{g:DG}{tb:DS}(h1:EvI it env ds)(h:FD ds g tb DD env):HX it g tb DD env:=h1 _ h
theorem Fo{a:Sl}(h1:Ev te env s)(e1:aK env s=Po d)(e2:env[i]?=Po a)(e3:pO a=Po ds)(z:-ds<sizeLine)(e4:kY a (ds++[d])=Po s')(h:DD.nx (env.set i s')):yc (HY i te) DD env:=((ds,by rw[e2];show e3),h1 _ (d,a,ds,s',e1,e2,e3,z,e4,h))
theorem Fq{sp:DSp}{R:Sl->Pf->Prop}(h1:EvA tl env ss)(e1:bh env ss=Po ds)(h:sp (ds.map .fr) (dK (λr Y=>R r env) ⟨⟩)):yd sp tl env R:=h1 _ (ds,e1,h)
theorem Fp{it:DI}{ix:OM}{g:DG}{tt:DT}{R:Sl->Pf->Prop}(h1:EvI it env ds)(h:CD ds ix g tt te env (dK R ⟨⟩)):qC it ix g tt te env R:=h1 _ h
theorem wg_name{R:Pf->Prop}(z:i< -env)(h:R (env.set i (.fr d))):tK i d env R:=(z,h)
theorem wk_K{R:Sl->Pf->Prop}{w:Wn R}(h:R s env):dK R w s env:=h
theorem wx_set(h:te env λs a=>∃s',i< -a/\gF a s=Po s'/\DD.nx (a.set i s')):BX i te DD env:=h
theorem wx_ret(h:te env DD.rt):Hr te DD env:=h
theorem wx_drop(h:te env λY a=>DD.nx a):yc te DD env:=h
end
section
variable{prog:ky}{w:kD}{A:Around}{R:ZC->bb->Prop}{I:aG}{fp wr:Pg}{P:Nat->ba->Prop}{St:Nat->cc->Prop}
def oP(ns:O7)(d x:Int):Prop:=ns=[]/\x=d\/x∈ns/\∀y∈ns,y<=x
theorem vf{ns:O7}{j:Nat}(h:j< -ns):ns.take (j+1)=ns.take j++[ns.getD j 0]:=by rw[Mz,K8 h,Lb,K8 h];rfl
theorem xa{ns:O7}(W:Walks prog w A.in1 I fp wr ns.length P St)(Y:∀i v,P i v->∃t,v=ir (ns.getD i 0) t)(S:aG)(H:S ∉ fp)(d:Int)(Q:Tok) :
  ∀(k j:Nat) (s:bb) (J:Ph) (c:Nat),ns.length-j=k->j<=ns.length->St j s.heap->(J=[]/\j=0\/∃x t,J=[ir x t,ir x t]/\x∈ns.take j/\∀y∈ns.take j,y<=x) ->
  s.heap.get? S=some { cls:=.type "list",dict:=none,data:=.seq J.toArray c,slots:=#[] } ->
  (∀x t h' tk,oP ns d x->(∀b o,b ∉ wr->b≠S->s.heap.get? b=some o->h'.get? b=some o)->R (.ok (.ret (.int x t))) { s with heap:=h',toks:=tk }) ->
  Qo (kq prog w) A (.builtin "max.loop" ([.ref I,.none,.ref S],[(("default" : ck),.int d Q)])) R s:=by
 let K:S ∉ wr:=λh=>H (W.sub _ h);let g:(toString "max" ++ toString ".loop" : String) = "max.loop" := by decide
 intro k
 induction k with
 |zero =>
  intro j s J c hk hj E C L M;let N:j=-ns:=!0
  show Qu F.entry_max_loop ?_;rw[Around.under_plainId F.plain_max_loop _];show kn _ A.in1 (ZV (.ref S) >>= _) _ _ s;show jj (QI L rfl ?_);show kn _ A.in1 (tryCatch (Zp (.ref I)) _ >>= _) _ _ s;show jj (ZK (W.done s _ _ (N▸E) λh' tk l=>?_));let m:=l S _ K L;rcases C with⟨rfl,h0⟩|⟨x,t,rfl,r,n⟩
  show jj (QL (kf (M d Q h' tk (.inl (Ni.mp (!0),rfl)) λb o f a e=>l b o f e)));show kn _ A.in1 (ZU S (λ_=>#[]) >>= _) _ _ _;show jj ?_;show QS m rfl (jj (Ze (kf ?_)));rw[N,ML]at r n;show M x t _ tk (.inr (r,n)) λb o f a e=>(Lx _ _ (Ne.symm a)).trans (l b o f e)
 |succ k ih =>
  intro j s J c hk hj E C L M;let B:j< -ns:=!0
  show Qu F.entry_max_loop ?_;rw[Around.under_plainId F.plain_max_loop _];show kn _ A.in1 (ZV (.ref S) >>= _) _ _ s;show jj (QI L rfl ?_);show kn _ A.in1 (tryCatch (Zp (.ref I)) _ >>= _) _ _ s;show jj (ZK (W.item j s _ _ B E λv h' tk T D l=>?_));let m:=l S _ K L;let(u,rfl):=Y _ _ T;let O:=vf B;generalize ns.getD j 0=y at *;let go:∀(h2:cc) (c2:Nat),(∀z∈ns.take j,z<=y)->(∀b o,b≠S->h'.get? b=Po o->h2.get? b=Po o)->h2.get? S=Po { cls:=.type "list",dict:=Pp,data:=.seq #[.int y u,.int y u] c2,slots:=#[] } ->
    Qo (kq prog w) A (.builtin "max.loop" ([.ref I,.none,.ref S],[(("default" : ck),.int d Q)])) R { s with heap:=h2,toks:=tk }:=λh2 c2 Z k2 U =>
   ih (j+1) _ [.int y u,.int y u] c2 (!0) B (W.frame _ _ _ D λb V o e=>k2 b o (λh:b=S=>H (by rw[<-h];show V)) e) (.inr (y,u,rfl,by rw[O];simp,λz hz=>by
    rw[O]at hz;rcases K2.mp hz with hz|hz;show Z z hz;rw[K7.mp hz];show NS _)) U
    λx t G p X q=>M x t G p X λb o f a e=>q b o f a (k2 b o a (l b o f e))
  rcases C with⟨rfl,h0⟩|⟨x,t,rfl,r,n⟩
  show kn _ A.in1 (ZU S (λ_=>#[.int y u,.int y u]) >>= _) _ _ _;show jj ?_;show QS m rfl ?_;rw[g];show kf (Qm F.plain_max_loop _,go _ _ (λz hz=>by rw[h0]at hz;simp at hz) (λb o a e=>(Lx _ _ (Ne.symm a)).trans e) (LG _ m rfl));show kn _ A.in1 (tryCatch (Qf [.int y u,.int y u] (richCompare .Gt (.int y u) (.int x t) >>= _)) _ >>= _) _ _ _;show jj (ZK (qT (jj (show kn _ _ (q5 .Gt (.int y u) (.int x t)) _ _ _ from gt_int ?_))));show jj (qT (Qd ?_));show jj (Ze (kf ?_));cases C:decide (x<y) with
  |true =>
   let C:=of_decide_eq_true C;simp only[if_true];show jj ?_;show QS m rfl (jj (Ze ?_));rw[g];show kf (Qm F.plain_max_loop _,go _ _ (λz hz=>by let:=n z hz;lia) (λb o a e=>(Lx _ _ (Ne.symm a)).trans e) (LG _ m rfl))
  |false =>
   let C:=of_decide_eq_false C;simp only[Lz,if_false];show jj (Ze ?_);rw[g];show kf (Qm F.plain_max_loop _,ih (j+1) _ [.int x t,.int x t] c (!0) B D (.inr (x,t,rfl,by rw[O];simp[r],λz hz=>by
    rw[O]at hz;rcases K2.mp hz with hz|hz;show n z hz;rw[K7.mp hz];lia)) m λx t G p X q=>M x t G p X λb o f a e=>q b o f a (l b o f e))
theorem yx(a v:ba):argsOk "max" ([a],[(("default" : ck),v)]):=by unfold argsOk;kernel_rfl
theorem yo{E:ba->bb->Prop}{s:bb}{x:ba}{ns:O7}{d:Int}{f:Tok}{Q:ba->bb->Prop}
  (h : kn (kq prog w) A.in1 (Z4 x) (λit a=>∃I fp wr P St,it=.ref I/\Walks prog w A.in1 I fp wr ns.length P St/\St 0 a.heap/\(∀b∈fp,b<a.heap.objs.size)/\(∀i v,P i v->∃t,v=ir (ns.getD i 0) t) /\
   ∀x t h' tk,oP ns d x->(∀b o,b ∉ wr->a.heap.get? b=some o->h'.get? b=some o)->Q (.int x t) { a with heap:=h',toks:=tk }) E s) :
  kn (kq prog w) A (call (.builtin "max") [x] [(("default" : ck),.int d f)]) Q E s:=by
 let c:(toString "max" ++ toString ".loop" : String) = "max.loop" := by decide
 show uN F.kind_max F.plain_max F.entry_max (yx _ _) ?_;show kn _ A.in1 (tx "max" ["key","default"] 0 ([],[(("default" : ck),.int d f)]) >>= _) _ _ s;show jj (ZD (show tx "max" ["key","default"] 0 ([],[(("default" : ck),.int d f)])=pure [Pp,Po (.int d f)] from rfl) ?_);show jj (kf ?_);show jj (qD h (λit a g=>?_) λY Y e=>e);let(I,fp,wr,P,St,rfl,W,j,k,p,q):=g;show jj (KP ?_);let l:(~~~a) ∉ fp:=λm=>L0 _ (k _ m);rw[c];show kf (Qm F.plain_max_loop _,xa W p (~~~a) l d f _ 0 _ [] 0 rfl (Ln _) (W.frame _ _ _ j λb Y o e=>La _ e) (.inl (rfl,rfl)) (Lm _ rfl) λx t h' tk m hk=>?_);show q x t h' tk m λb o n e=>hk b o n (Lr (Lh e)) (La _ e)
end
section
variable{X:Cx}{K:cp}{e:bi}{tl:DA}{p pos kpos p3:Pos}
def Ik(K:cp)(d:Int)(t:TA):TE:=λσ H Q=>t σ H λxs H1=>∃(p:aG) (ns:O7),xs=[.ref p]/\SqL K H1 p (ns.map V.int)/\∀m:Int,oP ns d m->Q (.int m) H1
theorem Dk{t:TA}{d:Int}{j}(hK:X.K=K)(hc:X.calm=true)(D:Gl X "max")(l:X.mg "max" = none)(E:PA X [e] t)
  (O:kh [e] X.env=[(false,eval e X.env)]⊕'Pt)
  (c:qr pos (kh [e] X.env)=(false,eval e X.env)::qr pos (kh [] X.env)⊕'Pt):PE X (.Call (.Name "max" p) [e] [(some "default",.Constant (.int d) j p3,kpos)] pos) (Ik K d t):=by
 subst hK;intro pins s σ H Q I h;show Qb (ie I D l PyProof.Rows.boot_max ?_ (!2) (!2));show callWith_kw (thn (E pos pins s σ H _ I h) λus s1 m=>?_) c (by rw[c];rfl) rfl rfl;let(vs,H1,F,r,q):=m;show thn ((Db ci Gk:PK X [(Po "default",.Constant (.int d) j p3,kpos)] _) pos pins s1 σ H1 (λB H2=>B=[.int d]/\H2=H1) F (rfl,rfl)) λP s2 n=>?_
 cbv;let(B,H2,y,rz,G,J):=n;subst G J;let(u,rfl,(L,rfl)):=jG rz;let(q0,ns,rfl,hs,q):=q;let(u,rfl,M):=jG r
 w_up;cases (show u=di q0 from M);let(a,C,N,_):=y.list hs;let hl:=N.isList;let z:q0<(~~~s2):=by let(_,e,_):=hl;show Lh e
 let hsz:a.toArray.size=-ns:=by let:=-C;simp at this ⊢;lia
 let W:=(Walks.list (prog:=X.prog) (w:=X.w) (A:=X.A.in1) (y.ok.hd hc) (~~~s2) q0 (Lr z) a.toArray)
 rw[hsz]at W;show kn _ _ (call (.builtin "max") [.ref q0] [(("default" : ck),.int d L)]) _ _ _;show yo (ns:=ns) (QZ hl ?_);show((~~~s2),_,_,_,_,rfl,W,((_,Lm _ rfl,rfl,rfl),hl.push _),λb f=>?_,λi v k=>?_,λx t h' tk l hk=>?_);rcases K9.mp f with rfl|f;show Lh (Lm _ rfl);obtain rfl:=K7.mp f;show Lh (La _ (id hl).choose_spec.1)
 .let k:a[i]?=Po v:=by simpa using k
  let hi:i< -a:=(Lc.mp k).1;let g:i< -ns:=by simp at hsz;lia
  cbv;let(u,e1,(t,e2)):=C.get (i:=i) (x:=.int ns[i]) (by rw[LD,K8 g];rfl);rw[k]at e1;cases e1
  w_up;show(t,?_);rw[e2,Lb,K8 g];rfl
 show(.int x,H2,y.kept λb o e=>hk b o (λf=>absurd (Lh e) ((K7.mp f)▸L0 _)) (La _ e),(_,rfl),q _ l)
def EG(d:Int)(t:DA):DE:=λenv R=>t env λss a=>∃s es ns,ss=[s]/\aZ a s=Po (.list es)/\cj es=Po ns/\∀m:Int,oP ns d m->R (.fr (.int m)) a
theorem FX{d:Int}{j}(hK:X.K=K)(hc:X.calm=true)(i:Gl X "max")(k:X.mg "max" = none)(l:PA X [e] (upA K tl))
  (n:kh [e] X.env=[(false,eval e X.env)]⊕'Pt)
  (c:qr pos (kh [e] X.env)=(false,eval e X.env)::qr pos (kh [] X.env)⊕'Pt):PE X (.Call (.Name "max" p) [e] [(some "default",.Constant (.int d) j p3,kpos)] pos) (up K (EG d tl)) :=
 (Dk (K:=K) hK hc i k l n c).imp λσ H Q h=>by
 let(M,P,H0,σ0,env,ts,R,f,o,r):=h;show(M,P,H0,σ0,env,ts,_,f,o,λss g vs H1 h1 hl b=>?_)
 cbv;let(s,es,ns,rfl,e1,e2,t):=h1;let(v,rfl):=uE hl;let(a,us,rfl,sq,q):=(b.view (v:=v) (!1) e1).list
 w_up;rw[dX e2]at q;rw[q.ints]at sq;show(a,ns,rfl,sq,λm h1=>r _ _ _ _ (t m h1) (b.drop.addFr (.int m)))
end
def x9(i:Nat)(t:DE):DE:=λenv R=>∃S d,env[i]?=Po (.tr S d)/\t ((env.map s9).set i (.fr d)) λs a=>∃m:Int,aZ a s=Po (.int m)/\R (.fr (.int m)) env
theorem C0(i:Nat){X:Cx}{K:cp}{e:bi}{t:DE}(h:PE X e (up K t)):PE X e (up K (x9 i t)):=h.imp λσ H Q h=>by
 let(M,P,H0,σ0,env,ts,R,g,(S,d,e,p),q):=h;let k:=g.frzT e;let r:i< -env:=(Lc.mp e).1;let l:∀(x:Pb) (s:Sl),(x,s)∈aw σ ((env.map s9).set i (.fr d)) []->(∃s',s=s9 s')/\∀d',s=.fr d'->(x,Sl.fr d')∈aw σ (env.set i (.fr d)) ts:=λx s m=>by
  let m:(x,s)∈σ.zip ((env.map s9).set i (.fr d)):=by simpa[aw] using m
  let(j,hj,n):=LC m;rw[L4,LL,K4]at hj;rw[Ma]at n;let(e1,e2):=ip n;rw[Ms]at e2;by_cases c:i=j;rw[OG c]at e2;show((.fr d,e2.symm),λd' hd=>K1 _ ?_);rw[MB];show(j,by rw[L4,LL];lia,?_);rw[Ma,Ms,OG c,e1,e2,hd];rw[OH c,Mb]at e2;show((_,e2.symm),λd' hd=>K1 _ ?_);rw[MB];show(j,by rw[L4,LL];lia,?_);rw[Ma,Ms,OH c,e1,xy (e2.trans hd)]
 let no:∀a,a ∉ oas (aw σ ((env.map s9).set i (.fr d)) []):=λa z=>by
  let((x,s),u,w):=aL.mp z;let((s',rfl),_):=l x s u;show sZ w
 show(N0,N0,H,σ,_,[],_,((aM.refl,λa z=>z,λa z=>z.elim,λa z=>z.elim,λx d m=>?_,λx ds m=>?_,λx ds m=>?_,λx S d m=>?_,?_),?_,(λv j m=>by cases m),λj ds' m=>?_),p,λs o v H1 h1 f=>?_);let(v,e1,dn):=k.e.fr x d ((l x _ m).2 d rfl);show(v,e1,dn.to λb Y Y z=>z.elim (λz=>z.elim) λz=>absurd z (no b));let((s',e1),_):=l _ _ m;cases s' <;> cases e1
 let((s',e1),_):=l _ _ m;cases s' <;> cases e1
 let((s',e1),_):=l _ _ m;cases s' <;> cases e1
 rw[LZ.mpr no];show LI;rw[LL,K4];show g.len;let m2:=LF m;rcases M7 m2 with h|h;let(s,_,e1):=Lo.mp h;cases s <;> cases e1
 cases h;let(m,e1,y):=h1;let ev:=(f.view (v:=v) (s:=s) (!1) e1).int;subst ev;show q _ _ _ _ y ((g.same f.e.keep.none).addFr (.int m))
section
variable{X:Cx}{K:cp}
def JE(i:Nat)(u:DS):DS:=λDD env=>∃S d,env[i]?=Po (.tr S d)/\u DD (env.set i (.fr d))
theorem CP(i:Nat){ss:O6}{u:DS}(h:PSs X ss (upS K u)):PSs X ss (upS K (JE i u)):=h.imp λD σ H h=>by
 let(M,P,H0,σ0,env,ts,DD,nv,a,(S,d,e,b),ok):=h;show(M,P,H0,σ0,_,ts,DD,nv,a.frzT e,b,ok)
end
section
variable{prog:ky}{w:kD}{A:Around}{E:ba->bb->Prop}{s:bb}
theorem nq(a b:O7):dy (0,a) (0,b)=HT.lexLt a b:=by unfold dy;rw[OG rfl];split;rename_i h;simp only at h;rw[h,jh];rfl
def KW(h:cc)(v:ba)(ns:O7):Prop:=∃(l:aG) (a:O8),v=.ref l/\h.IsList l a/\At a ns
theorem pQ{l b:aG}{items a:O8}{ns e:O7}{Q:Bool->bb->Prop}(hl:s.heap.IsList l items)(o:s.heap.IsList b a)(f:At items ns)(g:At a e)
  (p:A.units<Qj) (h:Q (HT.lexLt ns e) s):kn (kq prog w) A (oneLt' Pq (.ref l) (.ref b)) Q E s:=by
 cbv;let((cls,dd,data,sl),ho,hc,n,hd):=id hl;let((m,i,data2,j),k,c,q,d):=id o;simp only at hc hd c d;subst hc hd c d
 w_up;rw[oneLt'_eq];simp only[if_true];show jj (wpAny_cRoomFor p ?_);show jj (wpAny_callSpecialIfBound?_slot (_,ho,rfl) F.slot_list_lt (Zr F.slot_list_lt (_,ho,rfl) F.entry_list_lt (F.args_list_lt_2 _ _) (sE l b items a n q dd i sl j ns e f g) (ho,k,?_)));show Qd h
theorem za{us:Ph}{ks:OK}(d:A.units<Qj)(h2:2<=-us)(k:∀i (h:i< -us),∃ns,ks.getD i (0,[])=(0,ns)/\KW s.heap us[i] ns):iy prog w A us ks s:=by
 show kas_kind (T:=.type "list") h2 (λv hv=>?_) (!2) (by rfl) (rfl,λi j C hi hj hc=>?_);let(i,hi,rfl):=LC hv;let(ns,_,l,a,e,(o,ho,hc,_),_):=k i hi;rw[e];show hc▸(Looks.ld ho).andThen .now;let e1:us.getD i dr=us[i]:=by simp[hi]
 let e2:us.getD j dr=us[j]:=by simp[hj]
 show kn (kq prog w) A (keyLt' _ (us.getD i dr) (us.getD j dr)) C (λY Y=>False) s;rw[e1,e2];let(ns,f,l,a,g,m,n):=k i hi;let(t,p,b,c,q,r,j2):=k j hj;rw[f,p,nq]at hc;rw[g,q,keyLt'_oneType];show pQ m r n j2 d hc
end
def Fi(kds:Pe):Prop:=(∀d∈kds,GY d)\/(∀d∈kds,GZ d)\/∀d∈kds,GW d
section
variable{K:cp}
theorem AD{N:aG->Prop}{H:Hp}{vs:Pl}{ds:Pe}{us:Ph}(q:DNs K N H vs ds)(r:aU vs us)(i:Nat)(h:i< -us):∃v,br v us[i]/\DN K N H v (ds.getD i .none)/\ds.getD i .none∈ds:=by
 let hl:=q.len;let a:=-r
 cbv;let(u,e,b):=r.get (i:=i) (x:=vs[i]) (!1);rw[K8 h]at e;cases e
 w_up;let c:(vs[i],ds[i])∈vs.zip ds:=by rw[Nu];show(i,by rw[M9];show(K8 _,K8 _))
 let e2:ds.getD i .none=ds[i]:=by simp[Lb,show i< -ds by lia]
 rw[e2];show(_,b,xP q _ c,cE _)
end
theorem nP{α β:Type}(f:α->β)(l:List α)(i:Nat)(d:α):(l.map f).getD i (f d)=f (l.getD i d):=by simp only[Lb,LD];cases l[i]? <;> rfl
theorem nQ(kds:Pe)(i:Nat):(kds.map fe).getD i (0,[])=fe (kds.getD i .none):=nP fe kds i .none
section
variable{X:Cx}{pins:OU}{σ:St}{H:Hp}{s:bb}{A:Around}
theorem Ah{kds:Pe}{kv:Pl}{ks:Ph}(hk:Fi kds)(g:A.units+64<Qj)(I:Inv X pins σ H s)(dn:DNs X.K N0 H kv kds)(c:aU kv ks)(h2:2<=-ks):iy X.prog X.w A ks (kds.map fe) s:=by
 let hl:-kds=-ks:=by rw[<-dn.len,(-c)]
 rcases hk with hk|hk|hk;show DU g h2 (by rw[K4];show hl) λi hi=>?_;let(v,a,dx,b):=AD dn c i hi;rw[nQ];show DW I dx.dv a (hk _ b);let h:kds.map fe=(kds.map λd=>(fe d).1).map λn=>(Pm n []):=by rw[LA];show L6 λd hd=>?_;let(n,rfl):=hk d hd;rfl
 rw[h];show sX h2 (λi hi=>?_) (by rw[K4];show hl);let(v,a,dx,b):=AD dn c i hi;let k:(kds.map λd=>(fe d).1).getD i 0=(fe (kds.getD i .none)).1:=nP (λd=>(fe d).1) kds i .none;rw[k];let(n,e):=hk _ b;rw[e]at dx ⊢;rw[dx.dv.intI]at a;show a
 .show za (!0) h2 λi hi=>?_;let(v,a,dx,b):=AD dn c i hi;rw[nQ];let(ns,e):=hk _ b;rw[e]at dx ⊢
  cbv;let(l,ys,rfl,sq,q):=dx.dv.lstI;let(f,m,pl,_):=I.list sq;let(h1,h2):=E3 q m
  w_up;show⟨ns,?_,l,f.toArray,a,pl.isList,⟨by simpa using h1,λj hj=>h2 j (by simpa using hj)⟩⟩;show(Pm (0:Int) ((cj (ns.map fy)).getD []))=_;rw[bt];rfl
end
section
variable{X:Cx}{pins:OU}{σ:St}{H0:Hp}{f:ba}{vs:Ph}{A:Around}{E:ba->bb->Prop}{a kS:aG}
structure Ce(X:Cx)(pins:OU)(σ:St)(H0:Hp)(a kS:aG)(e1:Nat)(kds:Pe)(ks:Ph)(s:bb):Prop where
 ex : ∃H kv c,Inv X pins σ H s/\aA H0 H/\aU kv ks/\DNs X.K N0 H kv (kds.take ks.length)/\jD X pins H a/\jD X pins H kS/\s.heap.get? kS=some (qb "list" ks.toArray c)
 la : s.heap.get? a=some (qb "list" #[] e1)
theorem uf{e1 n:Nat}{kds:Pe}(ne:a≠kS)(hn:n<64){body:ba->PUnit->Sem (ForInStep PUnit)}
  (K:∀x ks e (s:bb) (C:ba->bb->Prop),nn ks<64->kn (kq X.prog X.w) A (call f [x]) (λk s1=>s1.heap.get? kS=some (qb "list" (mu ks) e)/\C k s1) (λY Y=>False) s ->
   kn (kq X.prog X.w) A (body x ⟨⟩) (λr s'=>r=.yield ⟨⟩/\∃k s1 c,C k s1/\s'={ s1 with heap:=s1.heap.update kS (dt (·.push k)) }/\s'.heap.get? kS=some (qb "list" (mu (ks++[k])) c)) E s)
  (L:kds.length=vs.length) (call:∀i (h:i<vs.length),∀H s,Inv X pins σ H s->aA H0 H->kn (kq X.prog X.w) A (call f [vs[i]]) (iA X pins σ H s (kds.getD i .none)) (λY Y=>False) s) :
  ∀(r ks:Ph) (s:bb),r=vs.drop ks.length->ks.length+r.length=n->Ce X pins σ H0 a kS e1 kds ks s ->
   kn (kq X.prog X.w) A (forIn r PUnit.unit body) (λY s'=>∃ks,ks.length=n/\Ce X pins σ H0 a kS e1 kds ks s') E s:=by
 intro r
 induction r with
 |nil =>
  intro ks s _ hl h;rw[vk];show kf (ks,by simpa using hl,h)
 |cons x r ih =>
  intro ks s u hl h;rw[Lu]at hl;rw[MY];let((H,kv,c,I,D,M,dn,fa,fk,F),la):=h;let j:-ks< -vs:=by let:=congrArg nn u;rw[Oi,Lu]at this;lia
  let hx:vs[ks.length]=x/\r=vs.drop (-ks+1):=by rw[Mc j]at u;injection u with h1 h2;show(h1.symm,h2)
  let hc:=call (-ks) j H s I D;rw[hx.1]at hc;show jj (qD (K x ks c s (λk s1=>iA X pins σ H s (kds.getD (-ks) .none) k s1) (!0) (qD hc (λk s1 l=>?_) λY Y z=>z)) (λq s' N=>?_) λY Y z=>z);let(H',v,G,d,m,p,kp):=id l;show((kp kS _ fk F).1,l);let(rfl,k,s1,c2,(H',v,G,d,m,p,kp),es,y):=N;subst es;let t:=xE fk (kp kS _ fk F).2;let B:=xE fa (kp a _ fa la).2;let J:=dV s1.heap kS (dt (·.push k));let O:=G.turnedN (t':=s1.toks) (fp:=[kS]) (h':=s1.heap.update kS (dt (·.push k))) (λb g=>by rw[K7.mp g];show t) λb o g e=>(J.2 b (λz=>g (by simp[z]))).trans e;show kn (kq X.prog X.w) A (forIn r PUnit.unit body) _ E _;show ih (ks++[k]) _ (by rw[LB,Mj];show hx.2) (by rw[LB,Mj];lia) ((H',kv++[v],c2,O,D.trans d,u7 M m,?_,B,t,y),?_);let e:kds.take (ks++[k]).length=kds.take (-ks)++[kds.getD (-ks) .none]:=by rw[LB,Mj,Mz,K8 (!0),Lb,K8 (!0)];rfl
  rw[e];show(dn.keep (aM.same d)).app (.cons p .nil);show(J.2 a ne).trans (kp a _ fa la).1
theorem ug{kds:Pe}{s:bb}{n:Nat}{P:PySem.Fin->bb->Prop}(I:Inv X pins σ H0 s)(fa:jD X pins H0 a)(ho:s.heap.get? a=Po (qb "list" vs.toArray n))(u:-vs<64)(hu:A.units+64<Qj)
  (q:-kds=-vs) (L:Fi kds) (call:∀i (h:i< -vs),∀H s',Inv X pins σ H s'->aA H0 H->kn (kq X.prog X.w) A (call f [vs[i]]) (iA X pins σ H s' (kds.getD i .none)) (λ_ _=>False) s')
  (h : ∀H s' c,Inv X pins σ H s'->aA H0 H->jD X pins H a->s'.heap.get? a=Po (qb "list" (pick (aX (kds.map fe)) vs dr).toArray c)->P (.done (.ret .none)) s') :
  kn (kq X.prog X.w) A (ksk_tree a f Pr) P E s:=by
 let ha:a<(~~~s):=Lh ho;let s1:=dV s.heap a (dt λ_=>(#[]:O8));obtain⟨e1,v⟩:∃e1,(s.heap.update a (dt λ_=>(#[]:O8))).get? a=Po (qb "list" #[] e1):=(_,QU ho λ_=>#[])
 let keep:∀b o,b≠a->s.heap.get? b=Po o->(((s.heap.update a (dt λ_=>(#[]:O8))).push (qb "tuple" vs.toArray 0)).push (qb "list" #[] 0)).get? b=Po o:=λb o d e =>
  La _ (La _ ((s1.2 b d).trans e))
 let M:(((s.heap.update a (dt λ_=>(#[]:O8))).push (qb "tuple" vs.toArray 0)).push (qb "list" #[] 0)).get? a=Po (qb "list" #[] e1):=La _ (La _ v);let hsz:((s.heap.update a (dt λ_=>(#[]:O8))).push (qb "tuple" vs.toArray 0)).objs.size=(~~~s)+1:=by rw[size_push',Mr]
 unfold ksk_tree;show jj (Z6 ho rfl ?_);show jj (QF ho rfl ?_ (by rw[Li,qE];lia) (Ln _));show jj (Zf v rfl ?_);show jj (wpAny_newTuple ?_ (by show -vs<=_;rw[qE];lia));show jj (Q2 ?_ (Ln _));show qT ?_;obtain⟨kS,g⟩:∃kS,kS=((s.heap.update a (dt λ_=>(#[]:O8))).push (qb "tuple" vs.toArray 0)).objs.size:=(_,rfl)
 let gk:(((s.heap.update a (dt λ_=>(#[]:O8))).push (qb "tuple" vs.toArray 0)).push (qb "list" #[] 0)).get? kS=Po (qb "list" (mu []) 0):=by rw[g];show Lm _ rfl
 let y:a≠kS:=by rw[g,hsz];show Lr (L5 ha)
 let fk:jD X pins H0 kS:=I.fpOk (by rw[g,hsz];lia) (I.hok.fresh (by rw[g,hsz];lia));let I1:=I.turnedN (t':=s.toks) (fp:=[a]) (h':=((s.heap.update a (dt λ_=>(#[]:O8))).push (qb "tuple" vs.toArray 0)).push (qb "list" #[] 0)) (λb d=>by rw[K7.mp d];show fa) λb o d e=>keep b o (λz=>d (by simp[z])) e;rw[<-g];show kn (kq X.prog X.w) A (ksk_rest a f Pr vs.toArray e1 (.ref kS)) P E { s with heap:=((s.heap.update a (dt λ_=>(#[]:O8))).push (qb "tuple" vs.toArray 0)).push (qb "list" #[] 0) };unfold ksk_rest;show jj (QL ?_)
 first
  |rw[List.forIn_toArray]
  |(rw[<-oo];simp only[List.toList_toArray])
  |rw[<-oo]
 show jj (qD (uf (f:=f) (A:=A) (e1:=e1) (n:=-vs) (kds:=kds) y u (λx ks e s' C hz hx=>?_) q call vs [] _ rfl (!1) ((H0,[],0,I1,aA.refl _,.nil,.nil,fa,fk,gk),M)) (λ_ s' hd=>?_) λ_ _ x=>x);show jj (ZT (qD hx (λk B hk=>?_) λ_ _ hF=>hF.elim));let(W,hC):=hk;let ea:(mu ks).push k=mu (ks++[k]):=!1
 obtain⟨c2,r⟩:∃c2,(B.heap.update kS (dt (·.push k))).get? kS=Po (qb "list" (mu (ks++[k])) c2):=(_,by rw[<-ea];show QU W (·.push k))
 try dsimp only
 show jj (QF W rfl ?_ (by rw[Li,qE];lia) (Ld (MI (Array.size_push ..)) (by rw[Li,qE];lia)));show kf (rfl,k,B,c2,hC,rfl,r);let(ks,hl,((H,kv,c,Y,sm,rv,dn,D,N,F),la)):=hd;rw[LY (!0)]at dn;show jj (Z6 F rfl ?_);let fin:∀(m:Ph) (st:SortSt),-m=-vs->m=pick (aX (kds.map fe)) vs dr->(arrOf st).map (·.2)=m.toArray->failedOf st=Pp->kn (kq X.prog X.w) A (ksk_tail a Pr e1 (.ref kS) st) P E s':=λm st a0 O J R=>by
  let t1:=dV s'.heap kS (dt λ_=>(#[]:O8));let t:(s'.heap.update kS (dt λ_=>(#[]:O8))).get? a=Po (qb "list" #[] e1):=(t1.2 a y).trans la;let t2:=dV (s'.heap.update kS (dt λ_=>(#[]:O8))) a (dt λ_=>m.toArray);obtain⟨c2,r⟩:∃c2,((s'.heap.update kS (dt λ_=>(#[]:O8))).update a (dt λ_=>m.toArray)).get? a=Po (qb "list" m.toArray c2):=(_,QU t λ_=>m.toArray)
  unfold ksk_tail
  try dsimp only
  rw[J];show jj (QF F rfl ?_ (by rw[Li,qE];lia) (Ln _));show jj (Ze ?_);show jj (Zf t rfl ?_);simp only[Lz,if_false];show jj (QF t rfl ?_ (Ln _) (by rw[Li,qE];lia));rw[R];simp only[bne_self_eq_false,Lz,if_false];show kf (h H _ c2 (Y.turnedN (t':=s'.toks) (fp:=[kS,a]) (λb d=>?_) λb o d e=>?_) sm D (by rw[<-O];show r));rcases K9.mp d with rfl|d;show N;rw[K7.mp d];show D;simp only[K9,Lv,or_false,not_or]at d;show(t2.2 b d.2).trans ((t1.2 b d.1).trans e)
 unfold ksk_end
 try dsimp only
 simp only[Lz,if_false];by_cases h2:2<=-vs;let hn2:¬vs.toArray.size<2:=by rw[Li];lia
 rw[OH hn2,OH hn2];show jj (qD (Ah L hu Y dn rv (!0)) (λκ S T=>?_) λ_ _ x=>x.elim);let(rfl,K):=T;show jj (qD (kat_run (κ:=κ) (A:=A) (prog:=X.prog) (w:=X.w) (ks:=ks) (vs:=vs) (G:=λp s2=>p=aB (λi j=>dy ((kds.map fe).getD i (0,[])) ((kds.map fe).getD j (0,[]))) (Qz (-vs))/\s2=S)
  (Q := λl s2=>∃p:O5,p=aB (λi j=>dy ((kds.map fe).getD i (0,[])) ((kds.map fe).getD j (0,[]))) (Qz (-vs))/\p.size=-vs/\arrOf l=p.map (kas_item (ks.toArray.zip vs.toArray))/\failedOf l=Pp/\s2=S)
  hl h2 u (λp' l s2 a1 a2 a3 Z=>(p',Z.1,a1,a2,a3,Z.2)) (qk (λs2=>s2=S) (λi j C s2 hi hj e hc=>by subst e;show K i j C (!0) (!0) (hc _ rfl)) (kW (n:=-vs) (!0)) (λs2 e=>(rfl,e)) rfl)) ?_ λ_ _ e=>e)
 rintro⟨⟨⟩,l⟩ s2 ⟨p,U,O,V,R,rfl⟩;dsimp only;show fin (p.toList.map λi=>vs.getD i dr) l (by rw[K4,ge,O]) ?_ (kat_snds hl V) R;unfold aX pick;rw[OH (by rw[K4];lia),U,K4,q];let hn2:vs.toArray.size<2:=by rw[Li];lia
 rw[OG hn2,OG hn2];show jj (kf ?_);show jj (kf ?_);dsimp only;show fin vs _ rfl ?_ ?_ rfl;unfold aX pick;rw[OG (by rw[K4];lia),K4,q];apply Mh;simp;intro i h1 h2;simp at h2;simp[h2];show(ks.toArray.zip vs.toArray).map (·.2)=_;apply Oa.mp;simp;show Oh (!0)
end
section
variable{X:Cx}{pins:OU}{σ:St}{H0:Hp}{f:aG}{vs:Ph}{A:Around}{E:ba->bb->Prop}{s:bb}
theorem mJ{kds:Pe}{l:aG}{Q:ba->bb->Prop}(I:Inv X pins σ H0 s)(hl:s.heap.IsList l vs.toArray)(e:-vs<64)(n:A.in1.in1.units+64<Qj)
  (j:-kds=-vs) (k:Fi kds) (call:∀i (h:i< -vs),∀H s',Inv X pins σ H s'->aA H0 H->kn (kq X.prog X.w) A.in1.in1 (call (.ref f) [vs[i]]) (iA X pins σ H s' (kds.getD i .none)) (λY Y=>False) s')
  (h : ∀H s' D c,Inv X pins σ H s'->aA H0 H->jD X pins H D->s'.heap.get? D=Po (qb "list" (pick (aX (kds.map fe)) vs dr).toArray c)->Q (.ref D) s') :
  kn (kq X.prog X.w) A (wi (.builtin "sorted") [.ref l] [(dD "key",.ref f)]) Q E s:=by
 show call_function_entry_kw kind_sorted Z5 Z9 (ksk_s1 _ _) ?_;unfold Builtin.«sorted»;show jj (m:=checkCount "sorted" 1 1 _) (kf ?_);show jj (collect_list hl ?_ (by rw[qE];lia));show jj (Q2 ?_ (by rw[qE];lia));let hsz:((s.heap.push (qb "list" #[] 0)).update (~~~s) (dt (·++vs.toArray))).objs.size=(~~~s)+1:=by rw[Mr,size_push']
 let d:(((s.heap.push (qb "list" #[] 0)).update (~~~s) (dt (·++vs.toArray))).push (qb "list" vs.toArray 0)).get? ((~~~s)+1)=Po (qb "list" vs.toArray 0):=by rw[<-hsz];show Lm _ rfl
 let keep:∀b o,s.heap.get? b=Po o->(((s.heap.push (qb "list" #[] 0)).update (~~~s) (dt (·++vs.toArray))).push (qb "list" vs.toArray 0)).get? b=Po o:=λb o q=>by
  let a:b<(~~~s):=Lh q;rw[ri _ _ _ (by rw[hsz];show Lr (L5 a)),NT _ _ _ _ (Lr a),ri _ _ _ (Lr a)];show q
 show kn _ _ _ _ _ { s with heap:=((s.heap.push (qb "list" #[] 0)).update (~~~s) (dt (·++vs.toArray))).push (qb "list" vs.toArray 0) };rw[hsz];show jj (qT (wpAny_call_entry_kw ZN (_,d,rfl) ZI ?body (ksk_l1 _ _)))
 case body =>
  show kn (kq X.prog X.w) A.in1.in1 (Builtin.«list.sort» ([.ref ((~~~s)+1)],[(dD "key",.ref f)])) _ _ _;rw[ksk_t1];show ug (kds:=kds) (I.kept (t':=s.toks) keep) (I.fpOk (L3 _) (I.hok.fresh (L3 _))) d e n j k call λH s' c p r fp g=>(_,rfl,kf (_,rfl,?_))
  show h H s' _ c p r fp g
end
theorem CG{K:cp}{H:Hp}{vs:Pl}{ds:Pe}(q:DNs K N0 H vs ds):Rel K N0 N0 H (vs.map Po) (vs.map Po) (ds.map Sl.fr) [] H:=by
 let mm:∀x s,(x,s)∈aw (vs.map Po) (ds.map Sl.fr) []->∃v d,x=Po v/\s=.fr d/\(v,d)∈vs.zip ds:=λx s m=>by
  let m:(x,s)∈(vs.map Po).zip (ds.map Sl.fr)++[]:=m;rw[Ls,List.zip_map]at m
  cbv;let((v,d),c,e):=Lo.mp m;cases e
  w_up;show(v,d,rfl,rfl,c)
 let oe:oas (aw (vs.map Po) (ds.map Sl.fr) [])=[]:=r0.mpr λ⟨x,s⟩ m=>by
  let(v,d,rfl,rfl,_):=mm x s m;show dS _ _
 let ne:∀b,Nw N0 (aw (vs.map Po) (ds.map Sl.fr) []) b->N0 b:=λb z=>by
  rcases z with z|z;show z;rw[oe]at z;cases z
 show((aM.refl,λa h=>h,λa z=>z.elim,λa z=>z,λx e m=>?_,λx e m=>?_,λx e m=>?_,λx S e m=>?_,by rw[oe];show LI),by rw[K4,K4,q.len],λw i m=>(by cases m),λi ds' e=>rfl)
 .cbv;let(v,d,rfl,e1,c):=mm _ _ m;cases e1
  w_up;show(v,rfl,(xP q _ c).to λb Y Y z=>ne b z)
 let(v,d,_,e1,_):=mm _ _ m;cases e1;let(v,d,_,e1,_):=mm _ _ m;cases e1;let(v,d,_,e1,_):=mm _ _ m;cases e1
def lW(tb:DE)(es:Pe)(kd:av):Prop:=tb (es.map .fr) λs env=>aK env s=Po kd
section
variable{X:Cx}{pins:OU}{σ:St}{H:Hp}{s:bb}{params:QO}{scope:Qc}{body:bi}{f c c':aG}{qual p x:ck}{pm ctv:ba}{k:Nat}{A:Around}{tb:DE}{kd:av}
theorem xm{fl:Except ba Flow}{s':bb}(I:Inv X pins σ H s)(c:CR CX0 X.stack X.prog X.w H s (λv H'=>aA H H'/\DN X.K N0 H' v kd) E0 fl s'):∃r,fl=.ok (.ret r)/\iA X pins σ H s kd r s':=by
 cases fl with
 |error e=>show c.elim
 |ok fl =>
  cases fl with
  |ret z =>
   let(d,H',os,bare,un,hok,f,g,dn):=c;show(_,rfl,H',d,I.call' (ch:=[]) os un hok bare (λb z=>nomatch z),g,f,dn,λb o a e=>(un.keep b o e a.1 (λz=>?_) (!1),un.free b o e a.1 (!1)));rcases K9.mp (I.stkSub b z) with z|z;show a.2.1 z;show a.2.2.1 z
  |next=>show False.elim c
  |brk=>show False.elim c
  |cont=>show False.elim c
theorem Bw{vs:Pl}{ds:Pe}(q:DNs X.K N0 H vs ds)(hk:lW tb ds kd):up X.K tb (vs.map Po) H λv H'=>aA H H'/\DN X.K N0 H' v kd:=by show(N0,N0,H,_,_,[],_,CG q,hk,λs1 env' v' H' c a=>((a.e.keep).none,?_));let:=a.kept (ts:=[]) (v:=v') (s:=s1) (!1) c;show this.to λb Y Y z=>z.elim
theorem Ac{d:av}{v:V}{u:ba}(I:Inv X pins σ H s)(c:qW X.prog X.w X.K X.mg X.base A X.stack s H)(e:bW (k+1) A)(S:ax [p] [p] scope)
  (g:Qh (ZA "<lambda>" qual params body scope [] pm (.ref c') ctv) ([u],[])=pure [(p,u)])
  (a:PE (gC CX0 X.prog X.w X.K X.mg X.base [p] qual scope f (.ref c') A X.stack s H E0) body (up X.K tb))
  (ho:s.heap.get? f=Po (Q9 "<lambda>" qual params body scope [] pm c' ctv)) (b:s.heap.CodeRec (.ref c') qual) (r:br v u) (hd:DN X.K N0 H v d) (hk:lW tb [d] kd) :
  kn (kq X.prog X.w) A (call (.ref f) [u]) (iA X pins σ H s kd) (λY Y=>False) s :=
 QN (QJ (DM (CX:=CX0) (E:=E0) (ps:=[p]) (us:=[u]) (vs:=[v]) S e c ho b g (.cons r .nil) rfl a (Bw (.cons hd .nil) hk)) λres s' i=>by
  let(z,rfl,h):=xm I i;show h)
theorem Ad{d j:av}{v v0:V}{u u0:ba}(I:Inv X pins σ H s)(l:qW X.prog X.w X.K X.mg X.base A X.stack s H)(m:bW (k+1) A)(S:gy p x scope)
  (n:Qh (ZA "<lambda>" qual params body scope [(x,c)] pm (.ref c') ctv) ([u],[])=pure [(p,u)])
  (a:PE (yL CX0 X.prog X.w X.K X.mg X.base [p,x] qual scope f (.ref c') [(x,c)] A X.stack s H E0) body (up X.K tb))
  (ho:s.heap.get? f=Po (Q9 "<lambda>" qual params body scope [(x,c)] pm c' ctv)) (e:s.heap.CodeRec (.ref c') qual) (b:s.heap.IsCell c (Po u0)) (o:br v0 u0) (g:H c=Pp)
  (r : br v u) (hd:DN X.K N0 H v d) (i:DN X.K N0 H v0 j) (hk:lW tb [d,j] kd) :
  kn (kq X.prog X.w) A (call (.ref f) [u]) (iA X pins σ H s kd) (λY Y=>False) s :=
 QN (QJ (Ab (CX:=CX0) (E:=E0) S m l ho e n b o g r a (Bw (.cons hd (.cons i .nil)) hk)) λres s' q=>by
  let(z,rfl,h):=xm I q;show h)
end
section
variable{X:Cx}{K:cp}{e:bi}{t:TA}{q0 pos kpos lpos:Pos}{params:QO}{scope:Qc}{body:bi}{p x:ck}{i:Nat}{tb:DE}{KR:St->Hp->av->av->Prop}
def Co(K:cp)(KR:St->Hp->av->av->Prop)(t:TA):TE:=λσ H Q=>t σ H λxs H1=>∃(q:aG) (vs:Pl) (N:aG->Prop) (ds kds:Pe),xs=[.ref q]/\SqL K H1 q vs/\DNs K N H1 vs ds/\kds.length=-ds/\Fi kds/\(∀i,i< -ds->KR σ H1 (ds.getD i .none) (kds.getD i .none))/\vs.length<64 /\
 ∀H2,aA H1 H2->∀q,H2 q=Pp->Q (.ref q) (upd H2 q (.lst (pick (aX (kds.map fe)) vs .non)))
theorem wC(hK:X.K=K)(L:uV X)(Y:bW 4 X.A)(Z:Gl X "sorted")(hm:X.mg "sorted" = Pp)(ha:PA X [e] t)(n:Za params X.env=([],[]))
  (E:∀{pins:OU}{s:bb}{σ:St}{H:Hp},Inv X pins σ H s->∃clos,QB scope X.env=pure clos)
  (F:∀{σ:St}{H H':Hp}{d kd:av},KR σ H d kd->aA H H'->KR σ H' d kd)
  (k:∀{pins:OU}{s:bb}{σ:St}{H:Hp}{clos:OY}{f c':aG}{pm ctv u:ba}{v:V}{d kd:av},Inv X pins σ H s->QB scope X.env=pure clos->s.heap.get? f=Po (Q9 "<lambda>" (X.env.qual ++ "<lambda>") params body scope clos pm c' ctv)->s.heap.CodeRec (.ref c') (X.env.qual ++ "<lambda>") ->
   br v u->DN X.K N0 H v d->KR σ H d kd->kn (kq X.prog X.w) X.A.in1.in1 (call (.ref f) [u]) (iA X pins σ H s kd) (λ_ _=>False) s)
  (o:qr pos (kh [e] X.env)=(Pr,eval e X.env)::qr pos (kh [] X.env)) :
  PE X (.Call (.Name "sorted" q0) [e] [(Po "key",.Lambda params body scope lpos,kpos)] pos) (Co K KR t):=by
 subst hK;intro pins s σ H Q I h;let(clos,hc):=E I;show Qb (ie I Z hm boot_sorted ?_ (!2) (!2));show callWith_kw (thn (ha pos pins s σ H _ I h) λus s1 G=>?_) o (by rw[o];rfl) rfl rfl;let(xs,H1,I1,r,q):=G;show kn _ _ (evalAll [(do let v <-eval (.Lambda params body scope lpos) X.env;Qn pos;pure v)]) _ _ s1;show wpAny_evalAll_cons (jj (xh I1 L hc n λf c' pm ctv s2 H2 J B p l cz=>jj (QE (kf (wpAny_evalAll_nil ?_)))));let(T,vs,N,ds,kds,rfl,sq,dn,a0,M,x,a3,q):=q;let(u,rfl,ru):=jG r;cases (show u=di T from ru);let(a4,O,hp,_):=J.list (B.seq sq);let U:=-O;obtain⟨C,g⟩:∃C,C=Q9 "<lambda>" (X.env.qual ++ "<lambda>") params body scope clos pm c' ctv:=(_,rfl)
 rw[<-g]at p;let I3:Inv X ((f,C)::pins) σ H2 s2:=J.pins_of λz hz=>by
  rcases K9.mp hz with rfl|hz;show(p,l.1,l.2.1,l.2.2.1,λv=>by rw[g];exactλz=>by cases z);show J.pin z (K0 _ hz)
 let P:DNs X.K N0 H2 vs ds:=(dn.keep (aM.same B)).to λb _ _ z=>z.elim;show kn _ _ (wi (.builtin "sorted") [.ref T] [(dD "key",.ref f)]) _ _ _;let a5:-ds=-vs:=dn.len.symm;show mJ (kds:=kds) I3 hp.isList (!0) ?_ (!0) M (λi hi H' s' m j=>?_) λH' s' D c m j a gD=>?_;let:=Y.un;show X.A.units+1+1+64<Qj;lia
 .cbv;let(v,rx,dx,md):=AD P O i hi;let W:=(m.pin (f,C) (K0 _ K3)).1;rw[g]at W;let(oc,u,ws,t,e1,e2,e3):=cz;let(R,_):=m.hok c' _ (j _ _ e1)
  w_up;show k m hc W (_,_,_,_,rfl,R,e2,e3) rx (dx.keep (aM.same j)) (F (x i (!0)) (B.trans j))
 let I4:Inv X pins σ H' s':=m.pins_of λz hz=>m.pin z (K0 _ (K5 _ hz));let y:jD X pins H' D:=(a.1,a.2.1,a.2.2.1,a.2.2.2.1,a.2.2.2.2.1,λz hz=>a.2.2.2.2.2 z (by
  rcases K2.mp hz with hz|hz;show K1 _ hz;show K0 _ (K5 _ hz)))
 let S:∀i∈aX (kds.map fe),i< -vs:=λi hi=>by let:=cS i hi;rw[K4]at this;lia
 show(.ref D,upd H' D (.lst (pick (aX (kds.map fe)) vs .non)),I4.track y (?_,_,c,fW O S,gD),rfl,q _ (B.trans j) _ a.1);unfold pick;rw[K4,(bz _).length_eq,LH,K4,qE];lia
theorem Dh(hK:X.K=K)(L:uV X)(l:bW 4 X.A)(m:Gl X "sorted")(n:X.mg "sorted" = Pp)(o:PA X [e] t)(S:ax [p] [p] scope)
  (q:∀(qual:ck) (pm c ctv u:ba),Qh (ZA "<lambda>" qual params body scope [] pm c ctv) ([u],[])=pure [(p,u)])
  (b:QB scope X.env=pure []) (g:Za params X.env=([],[]))
  (a:∀(A:Around) (s:bb) (H:Hp) (f:aG) (cd:ba),PE (gC CX0 X.prog X.w X.K X.mg X.base [p] (X.env.qual ++ "<lambda>") scope f cd A X.stack s H E0) body (up X.K tb))
  (i:qr pos (kh [e] X.env)=(Pr,eval e X.env)::qr pos (kh [] X.env)) :
  PE X (.Call (.Name "sorted" q0) [e] [(Po "key",.Lambda params body scope lpos,kpos)] pos) (Co K (λY Y d kd=>lW tb [d] kd) t) :=
 wC hK L l m n o g (λY=>([],b)) (λh Y=>h) (λI hc ho j r hd hk=>by
  rw[b]at hc;cases hc;show Ac (k:=1) I I.env0.in1.in1 l.in1.in1 S (q _ _ _ _ _) (a _ _ _ _ _) ho j r hd hk) i
theorem Di(hK:X.K=K)(L:uV X)(O:bW 4 X.A)(P:Gl X "sorted")(Q:X.mg "sorted" = Pp)(R:PA X [e] t)(S:gy p x scope)
  (hN:X.N[i]?=Po x) (hv:Vis X.env.scope x) (b:X.env.kindOf x=Po .cell\/X.env.kindOf x=Po .free) (D:X.env.kindOf x≠Po .local)
  (T:∀(qual:ck) (cl:OY) (pm c ctv u:ba),Qh (ZA "<lambda>" qual params body scope cl pm c ctv) ([u],[])=pure [(p,u)])
  (n:∀c,X.env.cells.lookup x=Po c->QB scope X.env=pure [(x,c)]) (o:Za params X.env=([],[]))
  (g:∀(A:Around) (s:bb) (H:Hp) (f:aG) (cd:ba) (c:aG),bW 1 (A.deeper (envX (X.env.qual ++ "<lambda>") scope (~~~s) f cd [(x,c)]))->PE (yL CX0 X.prog X.w X.K X.mg X.base [p,x] (X.env.qual ++ "<lambda>") scope f cd [(x,c)] A X.stack s H E0) body (up X.K tb))
  (E:qr pos (kh [e] X.env)=(Pr,eval e X.env)::qr pos (kh [] X.env)) :
  PE X (.Call (.Name "sorted" q0) [e] [(Po "key",.Lambda params body scope lpos,kpos)] pos) (Co K (λσ H d kd=>∃v0 q,σ[i]?=Po (Po v0)/\DN K N0 H v0 q/\lW tb [d,q] kd) t):=by
 subst hK;show wC rfl L O P Q R o (λI=>?_) (λh U=>?_) (λ{pins s σ H clos f c' pm ctv u v d kd} I hc ho F r hd hk=>?_) E;let(c,hc):=I.ok.has x b;show(_,n c hc);let(v0,q,V,dn,hk):=h;show(v0,q,V,dn.keep (aM.same U),hk)
 .cbv;let(c,j):=I.ok.has x b;rw[n c j]at hc;cases hc;let(v0,q,G,J,hk):=hk;let(m,W,y):=I.loc;let(u0,M,l):=y i x v0 hN G hv
  w_up;let a:s.heap.IsCell c (Po u0):=by
   rcases l with⟨z,_⟩|⟨_,c2,B,Y⟩
   show absurd z D;rw[j]at B;cases B;show Y
  let C:bW 2 X.A.in1.in1:=O.in1.in1;show Ad (k:=1) I I.env0.in1.in1 C S (T _ _ _ _ _ _) (g _ _ _ _ _ _ (C.deeper _)) ho F a M (I.freeC x c j) r hd J hk
def qj:av->av
 |.list es=>.tuple [.int (-es),.list es]
 |d=>d
def Bx(tb:DE)(d kd:av):Prop:=tb [.fr d] λs env=>aK env s=Po kd
def xo(tb:DE)(d a kd:av):Prop:=tb [.fr d,.fr a] λs env=>aK env s=Po kd
theorem xB{ds:Pe}{a:av->av}{P:av->av->Prop}(h:∀d∈ds,P d (a d)){i:Nat}(hi:i< -ds):P (ds.getD i .none) ((ds.map a).getD i .none):=by
 let e1:ds.getD i .none=ds[i]:=by simp[Lb,hi]
 let e2:(ds.map a).getD i .none=a ds[i]:=by simp[Lb,hi]
 rw[e1,e2];show h _ (cE hi)
end
def FnI(K:cp)(x:ck)(st:Stmt):Prop:=∃f fd,cv K kw x=Po (Po (.ref f))/\Fun K x x st f fd
def FnL(K:cp)(x:ck)(st:Stmt):Prop:=∃f fd,cv K kw x=Po (Po (.ref f))/\Fun K x x st f fd/\∀base:cc,K.In base->yE K base x fd
structure BnI(K:cp):Prop where
 len:cv K kw "len" = some none
 range:cv K kw "range" = some none
 min:cv K kw "min" = some none
 max:cv K kw "max" = some none
 enumerate:cv K kw "enumerate" = some none
 zip:cv K kw "zip" = some none
 all:cv K kw "all" = some none
 any:cv K kw "any" = some none
 isinstance:cv K kw "isinstance" = some none
 bool:cv K kw "bool" = some none
 int:cv K kw "int" = some none
 list:cv K kw "list" = some none
 tuple:cv K kw "tuple" = some none
 sorted:cv K kw "sorted" = some none
 str:cv K kw "str" = some none
 sum:cv K kw "sum" = some none
 abs:cv K kw "abs" = some none
 reversed:cv K kw "reversed" = some none
 dict:cv K kw "dict" = some none
section
variable{P:ky}{w:kD}{K:cp}{mg:ck->O3}{base h:cc}{x:ck}{st:Stmt}{f:aG}{oc:ba}{od an:O4}{osl:ON}{kV doc pm cdv ct:ba}{k:Nat}{ps:Pi}{sp:DSp}
theorem BnI.bn(X:K.In h)(G:h.Ns kw mg)(z:BnI K):Bn mg :=
 let m:∀{y:ck},cv K kw y=Po Pp->mg y=Pp:=λe=>Np X G e
 (m z.len,m z.range,m z.min,m z.max,m z.enumerate,m z.zip,m z.all,m z.any,m z.isinstance,m z.bool,m z.int,m z.list,m z.tuple,m z.sorted,m z.str,m z.sum,m z.abs,m z.reversed,m z.dict)
theorem fnI(a:cv K kw x=Po (Po (.ref f)))(l:K.lookup f=Po (oc,od,.func (hX x x (dc st) (bA st) (af st) .none kV doc pm an cdv ct),osl))(c:nf K cdv x=Pq)(k:eE K (.ref f)=Pq):FnI K x st:=(f,_,a,xC l c k)
theorem fnL{b T:aG}{d:O4}{e:ON}{vs:O8}(hx:x∈fq)(a:cv K kw x=Po (Po (.ref f)))(l:K.lookup f=Po (oc,od,.func (hX x x (dc st) (bA st) (af st) .none kV doc pm an cdv ct),osl))(c:nf K cdv x=Pq)(k:eE K (.ref f)=Pq)
  (hc:cdv=.ref b) (g:K.lookup b=Po (.type "code",d,.fields vs,e)) (h:yG vs b T):FnL K x st:=(f,_,a,xC l c k,λbase i=>GL hx a l hc g h i)
theorem yp(X:K.In h)(G:h.Ns kw mg)(g:FnI K x st)(b:∀{f:aG}{fd:kx},Fun K x x st f fd->bE K fd ps [])(ok:∀{f:aG}{fd:kx},Fun K x x st f fd->aY P w K mg base CX0 k f fd ps (spD K sp)):Cal P w K mg base x k (spD K sp):=by let(f,fd,a,F):=g;show HZ F (gt X G a) (b F) (ok F)
theorem Kh(X:K.In h)(G:h.Ns kw mg)(c:K.In base)(g:FnL K x st)(b:∀{f:aG}{fd:kx},Fun K x x st f fd->bE K fd ps [])(ok:∀{f:aG}{fd:kx},Fun K x x st f fd->yE K base x fd->aY P w K mg base CX0 k f fd ps (spD K sp)):Cal P w K mg base x k (spD K sp):=by let(f,fd,a,F,L):=g;show HZ F (gt X G a) (b F) (ok F (L base c))
theorem HA{rz:RSp}(X:K.In h)(G:h.Ns kw mg)(g:FnI K x st)(b:∀{f:aG}{fd:kx},Fun K x x st f fd->bE K fd ps [])(ok:∀{f:aG}{fd:kx},Fun K x x st f fd->aY P w K mg base (CXE P w) k f fd ps (spR K rz)):HF P w K mg base x k rz:=by let(f,fd,a,F):=g;show(f,fd,ps,ok F,b F,F.kp,gt X G a)
theorem KB{l:ry}{fa:aG}(X:K.In h)(G:h.Ns kw mg)(b:mg "law" = Po (.ref fa))(g:FnI K "law" st)(c:∀{fd:kx},Fun K "law" "law" st fa fd->∀(s:bb) (v:ba),Zl s fd ([v],[]) [("_law_script",v)])
  (ok:∀{fd:kx}{base:cc},Fun K "law" "law" st fa fd->K.In base->aY l.prog w K mg base CX0 k fa fd ["_law_script"] (spD K sp)):∃fd:kx,(∀(s:bb) (v:ba),Zl s fd ([v],[]) [("_law_script",v)])/\∀base:cc,K.In base->base.Ns kw mg->aY l.prog w K mg base CX0 k fa fd ["_law_script"] (spD K sp):=by
 cbv;let(f,fd,a,F):=g;let e:=b.symm.trans (gt X G a);cases e
 w_up;show(fd,c F,λbase d Y=>ok F d)
end
section
variable{X:Cx}{K:cp}{e:bi}{te:DE}{pos pos':Pos}
def JI(i:Nat)(te:DE):DS:=λDD env=>∃n,env[i]?=Po (.fr (.int n))/\te env λs a=>∃m,aZ a s=Po (.int m)/\i< -a/\DD.nx (a.set i (.fr (.int (n+m))))
theorem Ge{i:Nat}{x:ck}(hN:X.N.Nodup)(hi:X.N[i]?=some x)(hx:Loc X.env.scope x)(d:PE X e (up K te))(f:(X.fn x=true\/X.env.scope.names.lookup x=some .local)⊕'Px) :
  PS X (.AugAssign (.Name x pos') .Add e pos) (upS K (JI i te)):=(Gj hN hi hx d G0 f).imp λD σ H h=>by
 cbv;let(M,P,H0,σ0,env,ts,DD,nv,b,(n,g,j),ok):=h;let(o,e1,m1):=b.slot g;let(v,ev,dn):=b.e.fr _ _ m1;subst ev;let hv:=dn.dv.intI;subst hv
 w_up;show(.int n,e1,M,P,H0,σ0,env,ts,_,b,j,λs1 c k H1 h1 a=>?_);let(m,ev,hl,l):=h1;let w:=(a.view (v:=k) (!1) ev).int;subst w;show(n,m,rfl,rfl,ok.nx _ _ _ l ((a.drop.addFr (.int (n+m))).store nv hl rfl))
end
section
variable{K:cp}{M P N:aG->Prop}{H0 H:Hp}{E T:O9}{σ0 σ:St}{env:Pf}{ts tt:O0}{v:V}{s:Sl}{d:av}
theorem aS.foldS(h:aS K M P H0 (E++T) H){p:aG}{vs:Pl}{ds:Pe}{S:Pg}(c:H p=Pp)(q:OTs K (Nw M (E++T)) H vs ds S)(hs:∀a∈S,a∈oas T)(j:∀a∈oas T,H0 a=Pp)(ns:S.Nodup):aS K M P H0 (E++[(Pm (Po (.ref p)) (.tr (p::S) (.list ds)))]) (upd H p (.lst vs)):=by
 let oe:oas (E++[(Pm (Po (.ref p)) (Sl.tr (p::S) (.list ds)))])=oas E++p::S:=by rw[ac,ad,am];simp[oas]
 let g:p ∉ oas (E++T):=λz=>by
  let(vs',q,_):=h.own z;rw[c]at q;cases q
 let h0:H0 p=Pp:=by
  cases e:H0 p with
  |none=>rfl
  |some o=>show absurd c (h.live p (by rw[e];simp))
 let up:∀b o,H b=Po o->Nw M (E++[(Pm (Po (.ref p)) (Sl.tr (p::S) (.list ds)))]) b->Nw M (E++T) b:=λb o e z=>by
  rcases z with z|z;show .inl z;rw[oe]at z;rcases K2.mp z with z|z;show .inr (by rw[ac];show K1 _ z);rcases K9.mp z with z|z;rw[z,c]at e;cases e;show .inr (by rw[ac];show K0 _ (hs b z))
 let old:∀x s,(Pm x s)∈E++[(Pm (Po (.ref p)) (Sl.tr (p::S) (.list ds)))]->(Pm x s)∈E++T\/(Pm x s)=(Pm (Po (.ref p)) (Sl.tr (p::S) (.list ds))):=λx s m=>by
  rcases K2.mp m with m|m;show .inl (K1 _ m);show .inr (K7.mp m)
 let h':=h.same (aA.new (o:=.lst vs) c);show⟨h'.keep,h'.live,h.mt,h.pm,λx d' m=>?_,λx d' m=>?_,λx d' m=>?_,λx S d' m=>?_,?_⟩;rcases old _ _ m with m|m;let(v,e,dn):=h.fr x d' m;show⟨v,e,(dn.to up).keep (aM.same (aA.new c))⟩;cases m;rcases old _ _ m with m|m;let(a,i,e,e2,dn,r):=h.ow x d' m;show⟨a,i,e,aA.new c _ _ e2,(dn.to up).keep (aM.same (aA.new c)),r⟩;cases m;rcases old _ _ m with m|m;let(a,i,e,e2,dn,r):=h.io x d' m;show⟨a,i,e,aA.new c _ _ e2,(dn.to up).keep (aM.same (aA.new c)),r⟩;cases m;rcases old _ _ m with m|m;let(v,e,dn,r):=h.tr x S d' m;show⟨v,e,(dn.to up).keep (aM.same (aA.new c)) λa d=>by
  let(xs,z):=dn.lives a d;rw[aA.new c _ _ z,z],r⟩
 cases m;show⟨_,rfl,.lst aq (pP (q.to up) c),λa d=>(K9.mp d).elim (λz=>by rw[z];show h0) λz=>j a (hs a z)⟩;rw[oe];let nd:=h.nd;rw[ac]at nd g;let(k,n,l):=K6.mp nd;show K6.mpr ⟨k,Ll.mpr ⟨λz=>g (K0 _ (hs p z)),ns⟩,λa d b f z=>?_⟩;rcases K9.mp f with f|f;rw[f]at z;show g (K1 _ (z▸d));show l a d b (hs b f) z
theorem Rel.resLstS(h:Rel K M P H0 σ0 σ env (ts++tt) H){p:aG}{vs:Pl}{ds:Pe}{S:Pg}(c:H p=Pp)(q:OTs K (Nw M (aw σ env (ts++tt))) H vs ds S)(hs:∀a∈S,a∈oas (tmp tt))(h0:∀a∈oas (tmp tt),H0 a=Pp)(ns:S.Nodup) :
  Rel K M P H0 σ0 σ env (ts++[(.ref p,.tr (p::S) (.list ds))]) (upd H p (.lst vs)):=by let b:=h.e;rw[au]at b q;show h.drop.withRes (b.foldS c q hs h0 ns) rfl
theorem OT.listI{S:Pg}{ds:Pe}(h:OT K N H v (.list ds) S):∃a vs S',v=.ref a/\S=a::S'/\H a=Po (.lst vs)/\OTs K N H vs ds S':=by
 cases h with
 |lst b q=>show(_,_,_,rfl,rfl,b,q)
theorem Rel.temL{S:Pg}{ds:Pe}(h:Rel K M P H0 σ0 σ env ts H)(m:(v,Sl.tr S (.list ds))∈ts):∃a vs S',v=.ref a/\S=a::S'/\H a=Po (.lst vs)/\OTs K (Nw M (aw σ env ts)) H vs ds S'/\∀b∈S,H0 b=Pp:=by
 cbv;let(w,c,ot,h0):=h.e.tr _ _ _ (eY m);cases c;let(a,vs,S',e1,e2,d,q):=ot.listI
 w_up;show(a,vs,S',e1,e2,d,q,h0)
theorem OTs.chunks{vs:Pl}{ds:Pe}{S:Pg}(h:OTs K N H vs ds S):S.Nodup->∃T:Nat->Pg,(∀i,i< -vs->OT K N H (vs.getD i .non) (ds.getD i .none) (T i)/\(∀a∈T i,a∈S)/\(T i).Nodup)/\∀i j,i< -vs->j< -vs->i≠j->∀a∈T i,a ∉ T j :=
 OTs.ind (C:=λvs ds S=>S.Nodup->∃T:Nat->Pg,(∀i,i< -vs->OT K N H (vs.getD i .non) (ds.getD i .none) (T i)/\(∀a∈T i,a∈S)/\(T i).Nodup)/\∀i j,i< -vs->j< -vs->i≠j->∀a∈T i,a ∉ T j)
  (λY=>(λY=>[],λi hi=>absurd hi (My _),λi j hi=>absurd hi (My _)))
  (λ{x xs d ds S S'} o q ih nd=>by
   let(f,g,e):=K6.mp nd;let(T,t1,t2):=ih g;show(λi=>match i with|0=>S|i+1=>T i,λi hi=>?_,λi j hi hj c a b=>?_);cases i with
   |zero=>show(o,λa b=>K1 _ b,f)
   |succ i =>
    let(a1,a2,k):=t1 i (L7 hi);show(a1,λa b=>K0 _ (a2 a b),k)
   cases i with
   |zero=>cases j with
    |zero=>show absurd rfl c
    |succ j=>exactλz=>e a b a ((t1 j (L7 hj)).2.1 a z) rfl
   |succ i=>cases j with
    |zero=>exactλz=>e a z a ((t1 i (L7 hi)).2.1 a b) rfl
    |succ j=>show t2 i j (L7 hi) (L7 hj) (λz=>c (by rw[z])) a b) h
theorem OTs.pick{vs:Pl}{ds:Pe}{S:Pg}(h:OTs K N H vs ds S)(nd:S.Nodup){p:Pd}(f:p.Nodup)(hl:∀i∈p,i< -vs):∃S',OTs K N H (_L.pick p vs .non) (_L.pick p ds .none) S'/\S'.Nodup/\∀a∈S',a∈S:=by
 let(T,t1,t2):=h.chunks nd
 suffices g:∀p:Pd,p.Nodup->(∀i∈p,i< -vs)->∃S',OTs K N H (_L.pick p vs .non) (_L.pick p ds .none) S'/\S'.Nodup/\(∀a∈S',a∈S)/\∀a∈S',∃i∈p,a∈T i by
  let(S',a,b,c,_):=g p f hl;show(S',a,b,c)
 intro p
 induction p with
 |nil=>exactλY Y=>([],.nil,LI,λa d=>absurd d Lv,λa d=>absurd d Lv)
 |cons i p ih =>
  intro f hl
  cbv;let(l,m):=Ll.mp f;let(S',q1,n,q,k):=ih m λj hj=>hl j (K5 _ hj);let hi:=hl i K3;let(o,r,s):=t1 i hi
  w_up;show(T i++S',.cons o q1,K6.mpr (s,n,λa d b e z=>?_),λa d=>(K2.mp d).elim (r a) (q a),λa d=>?_);let(j,hj,e):=k b e;show t2 i j hi (hl j (K5 _ hj)) (λz=>l (z▸hj)) a d (z▸e);rcases K2.mp d with d|d;show(i,K3,d);let(j,hj,e):=k a d;show(j,K5 _ hj,e)
abbrev fB(a:OQ):Pe:=a.map λr=>eg (r.map fy)
theorem OTs.ints{N':aG->Prop}:∀{r:O7}{vs:Pl}{S:Pg},OTs K N H vs (r.map fy) S->OTs K N' H vs (r.map fy) S
 |[],_,_,h=>by cases h;show .nil
 |_::_,_,_,.cons h q=>by cases h;show .cons (.int _) q.ints
theorem OTs.rows{N':aG->Prop}:∀{a:OQ}{vs:Pl}{S:Pg},OTs K N H vs (fB a) S->OTs K N' H vs (fB a) S
 |[],_,_,h=>by cases h;show .nil
 |_::_,_,_,.cons h q=>by cases h with|lst b r=>show .cons (.lst b r.ints) q.rows
theorem OT.rows{N':aG->Prop}{a:OQ}{S:Pg}(h:OT K N H v (.list (fB a)) S):OT K N' H v (.list (fB a)) S:=by
 cases h with
 |lst b q=>show .lst b q.rows
end
section
variable{X:Cx}{K:cp}{pos:Pos}{a b e:bi}{ta tb:DE}
def EU(ta tb:DE):DE:=λenv R=>ta env λs1 a=>tb a λs2 b=>∃S1 d1 S2 d2,s1=.tr S1 (.list d1)/\s2=.tr S2 (.list d2)/\d1.length+-d2<=sizeLine/\∀S,R (.tr S (.list (d1++d2))) b
theorem Gd(hK:X.K=K)(s:PE X a (up K ta))(f:PE X b (up K tb)):PE X (.BinOp a .Add b pos) (up K (EU ta tb)):=(Dj (lB (K:=K) hK) s f).imp λσ H Q h=>by
 let(M,P,H0,σ0,env,ts,R,n,t,u):=h;show(M,P,H0,σ0,env,ts,_,n,t,λs1 g o H1 h1 i=>(M,P,H0,σ0,g,ts++[(o,s1)],_,i,h1,λs2 j q H2 h2 k=>?_))
 cbv;let(S1,d1,S2,d2,rfl,rfl,hz,w):=h2;let d:Rel K M P H0 σ0 σ j (ts++[(o,.tr S1 (.list d1)),(q,.tr S2 (.list d2))]) H2:=by simpa using k
 let(a1,x,l,rfl,rfl,y,q1,A):=d.temL (v:=o) (S:=S1) (ds:=d1) (!1);let(a2,B,m,rfl,rfl,C,r,z2):=d.temL (v:=q) (S:=S2) (ds:=d2) (!1)
 w_up;show(a1,a2,x,B,rfl,rfl,SqL.of y,SqL.of C,by rw[q1.len,r.len];show hz,λp D=>u _ _ _ _ (w (p::(l++m))) ?_);let oe:oas (tmp [(V.ref a1,Sl.tr (a1::l) (.list d1)),(V.ref a2,Sl.tr (a2::m) (.list d2))])=(a1::l)++(a2::m):=by show oas [(Po (V.ref a1),Sl.tr (a1::l) (.list d1)),(Po (V.ref a2),Sl.tr (a2::m) (.list d2))]=_;rw[ad,ad,am,am];simp[oas]
 let nd:=d.e.nd;rw[au,ac,oe]at nd;let(_,E,_):=K6.mp nd;let(m1,m2,F):=K6.mp E;show d.resLstS D (q1.app r) (λb f=>?_) (λb f=>?_) (K6.mpr ((Ll.mp m1).2,(Ll.mp m2).2,λb f c hc=>F b (K5 _ f) c (K5 _ hc)));rw[oe];show(K2.mp f).elim (λz=>K1 _ (K5 _ z)) λz=>K0 _ (K5 _ z);rw[oe]at f;show(K2.mp f).elim (A b) (z2 b)
def tN(k:Nat)(t:DE):DE:=λenv R=>∃S d,env[k]?=Po (.tr S d)/\t ((env.map s9).set k (.fr d)) λs a=>∃S1 b,s=.tr S1 (.list (fB b))/\∀S,R (.tr S (.list (fB b))) env
theorem z9{k:Nat}{t:DE}:∀σ H Q,up K (tN k t) σ H Q->up K t σ H Q:=λσ H Q h=>by
 let(M,P,H0,σ0,env,ts,R,c,(S,d,e,u),y):=h;let l:=c.frzT e;let A:k< -env:=(Lc.mp e).1;let n:∀(x:Pb) (s:Sl),(x,s)∈aw σ ((env.map s9).set k (.fr d)) []->(∃s',s=s9 s')/\∀d',s=.fr d'->(x,Sl.fr d')∈aw σ (env.set k (.fr d)) ts:=λx s m=>by
  let m:(x,s)∈σ.zip ((env.map s9).set k (.fr d)):=by simpa[aw] using m
  let(j,hj,q):=LC m;rw[L4,LL,K4]at hj;rw[Ma]at q;let(e1,e2):=ip q;rw[Ms]at e2;by_cases f:k=j;rw[OG f]at e2;show((.fr d,e2.symm),λd' hd=>K1 _ ?_);rw[MB];show(j,by rw[L4,LL];lia,?_);rw[Ma,Ms,OG f,e1,e2,hd];rw[OH f,Mb]at e2;show((_,e2.symm),λd' hd=>K1 _ ?_);rw[MB];show(j,by rw[L4,LL];lia,?_);rw[Ma,Ms,OH f,e1,xy (e2.trans hd)]
 let no:∀a,a ∉ oas (aw σ ((env.map s9).set k (.fr d)) []):=λa z=>by
  let((x,s),B,C):=aL.mp z;let((s',rfl),_):=n x s B;show sZ C
 show(N0,N0,H,σ,_,[],_,((aM.refl,λa z=>z,λa z=>z.elim,λa z=>z.elim,λx d m=>?_,λx ds m=>?_,λx ds m=>?_,λx S d m=>?_,?_),?_,(λv j m=>by cases m),λj ds' m=>?_),u,λs g v H1 h1 i=>?_);let(v,e1,dn):=l.e.fr x d ((n x _ m).2 d rfl);show(v,e1,dn.to λb Y Y z=>z.elim (λz=>z.elim) λz=>absurd z (no b));let((s',e1),_):=n _ _ m;cases s' <;> cases e1
 let((s',e1),_):=n _ _ m;cases s' <;> cases e1
 let((s',e1),_):=n _ _ m;cases s' <;> cases e1
 rw[LZ.mpr no];show LI;rw[LL,K4];show c.len;let m2:=LF m;rcases M7 m2 with h|h;let(s,_,e1):=Lo.mp h;cases s <;> cases e1
 cases h
 .cbv;let(S1,o,rfl,D):=h1;let e7:=i.e;rw[show aw σ g ([]++[(v,Sl.tr S1 (.list (fB o)))])=aw σ g []++tmp [(v,Sl.tr S1 (.list (fB o)))] from au]at e7;let nd:=e7.nd;let(w,E,ot,h0):=e7.tr _ _ _ (K0 _ K3);cases E
  w_up;rw[ac]at nd;let p:S1.Nodup:=by let:=(K6.mp nd).2.1;rwa [show oas (tmp [(v,Sl.tr S1 (.list (fB o)))])=S1 by show oas [(Po v,Sl.tr S1 (.list (fB o)))]=S1;rw[ad,am];simp[oas]]at this
  let F:d8 K (Nw M (aw σ env ts)) H H1 v (.tr S1 (.list (fB o))):=.tr ot.rows (λa r=>(h0 a r,c.newAddr (h0 a r))) p;show y _ _ _ _ (D S1) (c.withRes (c.e.called i.e.keep.none F) rfl)
theorem ur{sc}{N':Pi}{ix:OM}{it:DI}{g:DG}{tt:DT}{te:DE}{tg iter elt:bi}{ifs:Pj}(k:Nat){i:Nat}{y:ck}{a d:Pos}(hN:X.N.Nodup)(b:X.N[i]?=some y)(e:X.env.scope.names.lookup y=some .local)(hc:X.calm=true)(S:bX X.N X.env N' ix sc)(hi:PI X tg iter (upI K it))
  (f:∀s H C fp,PG (bCx X N' sc s H C fp) tg (upG K g)) (j:∀s H C fp,PIf (bCx X N' sc s H C fp) ifs (upT K tt)) (l:∀s H C fp,PE (bCx X N' sc s H C fp) elt (up K te))
  (c:Qv (.ListComp elt [(tg,iter,ifs,0)] sc pos) (some (.Name y d)) a.line X.env=pure true⊕'Pt)
  (hs:(∀x,q4 iter X.env x=pure x)⊕'Pv):PS X (.Assign [.Name y d] (.ListComp elt [(tg,iter,ifs,0)] sc pos) a) (upS K (BX i (tN k (oj it ix g tt te)))):=(dg hN b e hc S hi f j l c hs).imp (A9 λσ H Q h=>tQ σ H Q (z9 σ H Q h))
end
section
variable{X:Cx}{K:cp}{e:bi}{tl:DA}{q0 pos kpos lpos:Pos}{params:QO}{scope:Qc}{body:bi}{p:ck}{i:Nat}{tb:DE}
def Eu(tb:DE)(t:DA):DE:=λenv R=>t env λss a=>∃S ds b,ss=[.tr S (.list ds)]/\ds.length<64/\Fi (ds.map b)/\(∀d∈ds,Bx tb d (b d))/\∀S',R (.tr S' (.list (pick (aX ((ds.map b).map fe)) ds .none))) a
theorem FU(hK:X.K=K)(L:uV X)(I:bW 4 X.A)(J:Gl X "sorted")(N:X.mg "sorted" = none)(O:PA X [e] (upA K tl))(S:ax [p] [p] scope)
  (l:∀(qual:ck) (pm c ctv u:ba),Qh (ZA "<lambda>" qual params body scope [] pm c ctv) ([u],[])=pure [(p,u)])
  (o:QB scope X.env=pure []) (m:Za params X.env=([],[]))
  (k:∀(A:Around) (s:bb) (H:Hp) (f:aG) (cd:ba),PE (gC CX0 X.prog X.w X.K X.mg X.base [p] (X.env.qual ++ "<lambda>") scope f cd A X.stack s H E0) body (up X.K tb))
  (r:qr pos (kh [e] X.env)=(false,eval e X.env)::qr pos (kh [] X.env)⊕'Pt) :
  PE X (.Call (.Name "sorted" q0) [e] [(some "key",.Lambda params body scope lpos,kpos)] pos) (up K (Eu tb tl)) :=
 (Dh (K:=K) (tb:=tb) hK L I J N O S l o m k r).imp λσ H Q h=>by
 let(M,P,H0,σ0,env,ts,R,t,U,W):=h;show(M,P,H0,σ0,env,ts,_,t,U,λss n vs H1 h1 hl g=>?_)
 cbv;let(S,ds,E,rfl,x,y,hk,Y):=h1;let(v,rfl):=uE hl;let g:Rel K M P H0 σ0 σ n (ts++[(v,.tr S (.list ds))]) H1:=g;let(a,us,T,rfl,rfl,ga,q,z):=g.temL (v:=v) (S:=S) (ds:=ds) (!1)
 w_up;let oe:oas (tmp [(V.ref a,Sl.tr (a::T) (.list ds))])=a::T:=by show oas [(Po (V.ref a),Sl.tr (a::T) (.list ds))]=_;rw[ad,am];simp[oas]
 let nd:=g.e.nd;rw[au,ac,oe]at nd;let B:=(Ll.mp (K6.mp nd).2.1).2;show(a,us,N0,ds,ds.map E,rfl,SqL.of ga,q.dn (λb z=>z.elim) (λb _ z=>z.elim),K4 ..,y,λi hi=>xB (P:=λd kd=>lW tb [d] kd) hk hi,by rw[q.len];show x,λH2 F Z hp=>?_);let j:=g.same F
 cbv;let(a',C,T',e1,e2,D,G,z'):=j.temL (v:=.ref a) (S:=a::T) (ds:=ds) (!1);cases e1;cases e2;let eu:C=us:=by let:=F _ _ ga;rw[D]at this;cases this;rfl
 subst eu;let pn:(aX ((ds.map E).map fe)).Nodup:=(bz _).nodup_iff.mpr MM;let(S',q2,n2,s2):=G.pick B pn λi hi=>by
  let:=cS i hi;rw[K4,K4]at this;rw[G.len];show this
 w_up;show W _ _ _ _ (Y (Z::S')) (j.resLstS hp q2 (λb l=>by rw[oe];show K5 _ (s2 b l)) (λb l=>by rw[oe]at l;show z b l) n2)
end
theorem yg{ds:Pe}{ix:OM}{g:DG}{tt:DT}{te:DE}{env:Pf}{R:Sl->Pf->Prop}(p:Nat->Bool)(f:Nat->av)(hz:-ds<=1000000)
  (h : ∀i,(h:i< -ds)->∀(Q:av->Prop) (a:Prop),(p i=Pq->Q (f i))->(p i=Pr->a)->g ds[i] (jR ix env) λb1=>tt b1 λk b2=>if k=Pq then te b2 λs b=>∃s' d,gF b s=Po s'/\eF [] s'=Po d/\Q d else a)
  (c:∀S,R (.tr S (.list (((dm (-ds)).filter p).map f))) env):CDT ds ix g tt te env R:=by show(λi rs=>rs=((dm i).filter p).map f/\i<=-ds,(rfl,Ln _),λi rs hi w=>?_,λrs w S=>by rw[w.1];show c S);let(rfl,_):=w;show(?_,?_);let:=LS p (dm i);rw[LH]at this;rw[K4];show Lg (!0) ar;show h i hi _ _ (λe=>(?_,hi)) (λe=>(?_,hi));rw[Mm,Md,Lw];simp[e];rw[Mm,Md,Lw];simp[e]
section
variable{env:Pf}{s:Sl}{ta tb te:DE}{tl:DA}{g:G2}{k:Bool}{R:Sl->Pf->Prop}{RT:Bool->Pf->Prop}
theorem Cg(h1:Ev te env s)(e1:aZ env s=Po (.bool k))(h:RT k env):l6 te env RT:=h1 _ (k,e1,h)
theorem Ci{c:Bool}{A A' B B':Prop}(a:A'->A)(b:B'->B)(h:if c=Pq then A' else B'):if c=Pq then A else B:=u6 (p:=c=Pq) (by cases c <;> rfl) a b h
theorem Ch{c:Bool}{A A' B B':Prop}(a:A'->A)(b:B'->B)(h:if c=Pr then A' else B'):if (!c)=Pq then A else B:=u6 (p:=c=Pr) (by cases c <;> rfl) a b h
theorem Km(h1:Ev (dOp g ta tb) env s)(h:R s env):dOp g ta tb env R:=h1 _ h
theorem Ie(h1:Ev (Fb tl) env s)(h:R s env):Fb tl env R:=h1 _ h
end
section
variable{K:cp}{M P:aG->Prop}{H0 H:Hp}{σ0 σ:St}{env:Pf}{ts:O0}{v:V}
theorem ve{a:aG}{T:Pg}{ds:Pe}(h:Rel K M P H0 σ0 σ env (ts++[(.ref a,.tr (a::T) (.list ds))]) H):oas (tmp [(V.ref a,Sl.tr (a::T) (.list ds))])=a::T/\T.Nodup:=by
 let oe:oas (tmp [(V.ref a,Sl.tr (a::T) (.list ds))])=a::T:=by show oas [(Po (V.ref a),Sl.tr (a::T) (.list ds))]=_;rw[ad,am];simp[oas]
 let nd:=h.e.nd;rw[au,ac,oe]at nd;show(oe,(Ll.mp (K6.mp nd).2.1).2)
theorem Rel.picked{a d:aG}{T:Pg}{us:Pl}{ds:Pe}{ix:Pd}(h:Rel K M P H0 σ0 σ env (ts++[(.ref a,.tr (a::T) (.list ds))]) H)(ga:H a=Po (.lst us))(k:H d=Pp)(pn:ix.Nodup)(hl:∀i∈ix,i< -ds) :
  ∃S',Rel K M P H0 σ0 σ env (ts++[(.ref d,.tr S' (.list (pick ix ds .none)))]) (upd H d (.lst (pick ix us .non))):=by
 cbv;let(a',f,p,e1,e2,c,j,l):=h.temL (v:=.ref a) (S:=a::T) (ds:=ds) (!1);cases e1;cases e2;let m:f=us:=by rw[ga]at c;cases c;rfl
 subst m;let(oe,g):=ve h
 w_up;let(S',n,o,s2):=j.pick g pn λi hi=>by rw[j.len];show hl i hi
 show(d::S',h.resLstS k n (λb e=>by rw[oe];show K5 _ (s2 b e)) (λb e=>by rw[oe]at e;show l b e) o)
end
section
variable{X:Cx}{K:cp}{e:bi}{tl:DA}{q0 pos kpos lpos:Pos}{params:QO}{scope:Qc}{body:bi}{p x:ck}{i:Nat}{tb:DE}
def xY(tb:DE)(i:Nat)(t:DA):DE:=λenv R=>t env λss a=>∃S ds c b,ss=[.tr S (.list ds)]/\a[i]?=Po (.fr c)/\ds.length<64/\Fi (ds.map b)/\(∀d∈ds,xo tb d c (b d))/\∀S',R (.tr S' (.list (pick (aX ((ds.map b).map fe)) ds .none))) a
theorem CT(i:Nat)(hK:X.K=K)(L:uV X)(J:bW 4 X.A)(O:Gl X "sorted")(U:X.mg "sorted" = none)(V:PA X [e] (upA K tl))(S:gy p x scope)
  (hN:X.N[i]?=some x) (hv:Vis X.env.scope x) (k:X.env.kindOf x=some .cell\/X.env.kindOf x=some .free) (n:X.env.kindOf x≠some .local)
  (W:∀(qual:ck) (cl:OY) (pm c ctv u:ba),Qh (ZA "<lambda>" qual params body scope cl pm c ctv) ([u],[])=pure [(p,u)])
  (o:∀c,X.env.cells.lookup x=some c->QB scope X.env=pure [(x,c)]) (l:Za params X.env=([],[]))
  (j:∀(A:Around) (s:bb) (H:Hp) (f:aG) (cd:ba) (c:aG),bW 1 (A.deeper (envX (X.env.qual ++ "<lambda>") scope s.heap.objs.size f cd [(x,c)]))->PE (yL CX0 X.prog X.w X.K X.mg X.base [p,x] (X.env.qual ++ "<lambda>") scope f cd [(x,c)] A X.stack s H E0) body (up X.K tb))
  (t:qr pos (kh [e] X.env)=(false,eval e X.env)::qr pos (kh [] X.env)⊕'Pt) :
  PE X (.Call (.Name "sorted" q0) [e] [(some "key",.Lambda params body scope lpos,kpos)] pos) (up K (xY tb i tl)) :=
 (Di (K:=K) (tb:=tb) hK L J O U V S hN hv k n W o l j t).imp λσ H Q h=>by
 let(M,P,H0,σ0,env,ts,R,y,Y,Z):=h;show(M,P,H0,σ0,env,ts,_,y,Y,λss m vs H1 h1 hl g=>?_)
 cbv;let(S,ds,F,G,rfl,e0,B,C,hk,hR):=h1;let(v,rfl):=uE hl;let g:Rel K M P H0 σ0 σ m (ts++[(v,.tr S (.list ds))]) H1:=g;let(a,us,T,rfl,rfl,ga,q,z):=g.temL (v:=v) (S:=S) (ds:=ds) (!1);let(x0,ex,m0):=g.slot e0;let(v0,D,E):=g.e.fr _ _ m0
 w_up;show(a,us,N0,ds,ds.map G,rfl,SqL.of ga,q.dn (λb z=>z.elim) (λb _ z=>z.elim),K4 ..,C,λi hi=>(v0,F,by rw[ex,D],E.to λb _ _ z=>z.elim,xB (P:=λd kd=>lW tb [d,F] kd) hk hi),by rw[q.len];show B,λH2 I p' hp=>?_);let pn:(aX ((ds.map G).map fe)).Nodup:=(bz _).nodup_iff.mpr MM;let(S',r):=(g.same I).picked (I _ _ ga) hp pn λi hi=>by
  let:=cS i hi;rwa [K4,K4]at this
 show Z _ _ _ _ (hR S') r
end
section
variable{X:Cx}{K:cp}{pos:Pos}
theorem Rel.alone{H:Hp}{σ:St}{env:Pf}(hl:-σ=-env)(h:∀(x:Pb) (s:Sl),(x,s)∈σ.zip env->s=.un\/∃d v,s=.fr d/\x=Po v/\DN K N0 H v d):Rel K N0 N0 H σ σ env [] H:=by
 let c:aw σ env []=σ.zip env:=by simp[aw,tmp]
 let no:∀a,a ∉ oas (aw σ env []):=λa z=>by
  rw[c]at z;let((x,s),f,e):=aL.mp z;rcases h x s f with rfl|⟨d,v,rfl,rfl,_⟩
  simp[cn]at e;simp[cn]at e
 show((aM.refl,λa z=>z,λa z=>z.elim,λa z=>z.elim,λx d m=>?_,λx ds m=>?_,λx ds m=>?_,λx S d m=>?_,?_),hl,(λv j m=>by cases m),λj ds' m=>rfl);rw[c]at m;rcases h x _ m with z|⟨d',v,e1,e2,dn⟩
 cases z;cases e1;show(v,e2,dn.to λb Y Y z=>z.elim (λz=>z.elim) λz=>absurd z (no b));rw[c]at m;rcases h _ _ m with z|⟨d',v,e1,_⟩
 cases z;cases e1;rw[c]at m;rcases h _ _ m with z|⟨d',v,e1,_⟩
 cases z;cases e1;rw[c]at m;rcases h _ _ m with z|⟨d',v,e1,_⟩
 cases z;cases e1;rw[LZ.mpr no];show LI
def EM(k i:Nat)(tt:DT):DS:=λDD env=>∃(S:Pg) (ds:Pe) (p:Nat->Bool),env[k]?=Po (.tr S (.list ds))/\i< -env/\ds.length<=1000000 /\
 (∀j (h:j< -ds),tt [.fr ds[j],.fr (.list ds)] λb Y=>b=p j)/\∀S',DD.nx ((env.set k .un).set i (.tr S' (.list (pick ((dm (-ds)).filter p) ds .none))))
theorem v9{sc}(k:Nat){i:Nat}{x r y:ck}{tt:DT}{c:bi}{E t F py l:Pos}(hN:X.N.Nodup)(hK:X.K=K)(hk:X.N[k]?=some r)(G:Vis X.env.scope r)(I:X.N[i]?=some y)(hy:X.env.scope.names.lookup y=some .local)(hc:X.calm=true)(S:bX X.N X.env [x,r] [none,some k] sc)
  (hg:∀s H C fp,PG (bCx X [x,r] sc s H C fp) (.Name x t) (jo 0)) (ht:∀s H C fp,PIf (bCx X [x,r] sc s H C fp) [c] (upT K tt)) (he:∀s H C fp,PE (bCx X [x,r] sc s H C fp) (.Name x E) (d5 0))
  (J:(r==("__debug__" : ck))=false⊕'Pu) (L:(r==("__classdict__" : ck))=false⊕'Pu)
  (O:Qv (.ListComp (.Name x E) [(.Name x t,.Name r F,[c],0)] sc pos) (some (.Name y py)) l.line X.env=pure true⊕'Pt)
  (hs:(∀x,q4 (.Name r F) X.env x=pure x)⊕'Pv):PS X (.Assign [.Name y py] (.ListComp (.Name x E) [(.Name x t,.Name r F,[c],0)] sc pos) l) (upS K (EM k i tt)):=by
 subst hK;show(dg hN I hy hc S (gM (ah hk G J L)) hg ht he O hs).imp λD σ H h=>?_
 cbv;let(M,P,H0,σ0,env,ts,DD,nv,Q,(S,ds,p,e,hi,hz,R,hR),ok):=h;let(v,ev,n):=Q.move e rfl;let(a,us,T,rfl,rfl,ga,q,z):=n.temL (v:=v) (S:=S) (ds:=ds) (!1)
 w_up;let U:∀H2,aA H H2->DN X.K N0 H2 (.ref a) (.list ds):=λH2 u=>by
  let:=(OT.lst ga q).dn (M:=N0) (λb z=>z.elim) (λb _ z=>z);show this.keep (aM.same u)
 let dns:DNs X.K N0 H us ds:=q.dn (M:=N0) (λb z=>z.elim) (λb _ z=>z);let ul:-us=-ds:=q.len;show(.ref a,ev,a,rfl,(us,SqL.of ga),λj m ys H2=>m=-ds-j/\j<=-ds/\ys=pick ((dm j).filter p) us .non/\aA H H2,(_,rfl,Ln _,rfl,λ_ _ e=>e),?_);rintro j m ys H2 ⟨rfl,hj,rfl,u⟩;let d:=u _ _ ga;by_cases f:j< -ds
 .let g:j< -us:=!0
  let ly:(pick ((dm j).filter p) us V.non).length<=j:=by let:=LS p (dm j);rw[LH]at this;simpa[pick] using this
  show .inr ((us,us[j],SqL.of d,K8 g),LW ly (Lg f (Ld hz ar)),λA H'=>A=pick ((dm (j+1)).filter p) us .non/\aA H H',λA H' z=>(-ds-(j+1),!0,rfl,f,z.1,z.2),λx H' yl=>?_);let(eh,ex):=yl;rw[eh];clear eh;let ex:=ex us (SqL.of d);rw[K8 g]at ex;cases ex;let W:fR σ [Pp,Po k]=[Pp,Po (.ref a)]:=by show[Pp,(σ[k]?).join]=_;rw[ev];rfl
  show upT X.K tt ((fR σ [Pp,Po k]).set 0 (Po us[j])) H2 _;rw[W];show upT X.K tt [Po us[j],Po (.ref a)] H2 _;let Y:DN X.K N0 H2 us[j] ds[j]:=by
   cbv;let(x,ex,dx):=(dns.keep (aM.same u)).item f;rw[K8 g]at ex;cases ex
   w_up;show dx
  let rb:=Rel.alone (K:=X.K) (H:=H2) (σ:=[Po us[j],Po (.ref a)]) (env:=[.fr ds[j],.fr (.list ds)]) rfl λx s m=>by
   simp only[NZ,List.zip_nil_right,K9,Lv,or_false]at m;rcases m with m|m;cases m;show .inr (_,_,rfl,rfl,Y);cases m;show .inr (_,_,rfl,rfl,U H2 u)
  show(_,_,_,_,_,[],_,rb,R j f,λb env' H3 hb B=>?_);let s3:aA H H3:=λb o e=>B.e.keep b o (λz=>z) (u b o e);subst hb;let er:(dm (j+1)).filter p=(dm j).filter p++if p j=Pq then [j] else []:=by
   rw[Mm,Md]
   congr 1
   by_cases w:p j=Pq;simp[w];simp[w]
  by_cases w:p j=Pq;rw[OG w];show(us[j],rfl,?_,s3);rw[er,OG w];simp[pick,Lb,K8 g];rw[OH w];show(?_,s3);rw[er,OH w,Ls]
 let e2:j=-ds:=!0
 subst e2;show .inl ((us,SqL.of d,!0),λpn Z=>?_);let(S',r):=(n.same u).picked d Z (MM.filter p) λi hi=>LP.mp (Ly.mp hi).1;show ok.nx _ _ _ (hR S') (r.store nv (by rw[LL];show hi) rfl)
end
abbrev wT(w:OQ):av:=.list (fB w)
noncomputable def wyD(W:OJ):av:=.list (W.map wT)
section
variable{K:cp}{M P N:aG->Prop}{H0 H:Hp}{σ0 σ:St}{env:Pf}{ts:O0}{v:V}
theorem OTs.lastT{W:OJ}{w:OQ}{vs:Pl}{S:Pg}(h:OTs K N H vs ((W++[w]).map wT) S) :
  ∃vs' S' b us a,vs=vs'++[.ref b]/\S=S'++(b::a)/\OTs K N H vs' (W.map wT) S'/\H b=Po (.lst us)/\OTs K N H us (fB w) a:=by
 induction W generalizing vs S with
 |nil =>
  rw[sT,Le,FB]at h;cases h with
  |cons h q =>
   cbv;cases q;let(b,us,a,rfl,rfl,c,d):=h.listI
   w_up;show([],[],b,us,a,rfl,!1,.nil,c,d)
 |cons f W ih =>
  rw[MO,Le]at h;cases h with
  |@cons x xs _ _ S1 S2 h q =>
   let(vs',S',b,us,a,e1,e2,e,c,d):=ih q;subst e1 e2;show(x::vs',S1++S',b,us,a,rfl,!1,.cons h e,c,d)
theorem OTs.snocT{W:OJ}{w:OQ}{vs:Pl}{S a:Pg}{b:aG}{us:Pl}(q:OTs K N H vs (W.map wT) S)(c:H b=Po (.lst us))(d:OTs K N H us (fB w) a) :
  OTs K N H (vs++[.ref b]) ((W++[w]).map wT) (S++(b::a)):=by rw[Lw];show q.app ?_;let:=OTs.cons (OT.lst c d) (OTs.nil (K:=K) (N:=N) (H:=H));simpa using this
theorem Rel.waysT{i:Nat}{S:Pg}{W:OJ}{w:OQ}(h:Rel K M P H0 σ0 σ env ts H)(e:env[i]?=Po (.tr S (wyD (W++[w])))) :
  ∃a vs S' b us d,σ[i]?=Po (Po (.ref a))/\S=a::(S'++(b::d))/\S.Nodup/\(∀c∈S,Nw M (aw σ env ts) c)/\H a=Po (.lst (vs++[.ref b]))/\OTs K (Nw M (aw σ env ts)) H vs (W.map wT) S'/\H b=Po (.lst us)/\OTs K (Nw M (aw σ env ts)) H us (fB w) d:=by
 cbv;let(x,A,B,e1,q1,o):=h.split e;let(p,f,m):=h.slot e;let(v,ev,ot,_):=h.e.tr _ _ _ m;rw[e1]at f;cases f;subst ev;let(a,g,r,rfl,rfl,j,q):=OT.listI ot;let(vs',S',b,us,d,rfl,rfl,k,l,n):=OTs.lastT q
 w_up;let oe:oas (aw σ env ts)=oas A++((a::(S'++(b::d)))++oas B):=by rw[q1,ac,ad,am]
 let nd:=h.e.nd;rw[oe]at nd;show(a,vs',S',b,us,d,e1,rfl,(K6.mp (K6.mp nd).2.1).1,λc hc=>.inr ?_,j,k,l,n);rw[oe];show K0 _ (K1 _ hc)
theorem Rel.addUn(h:Rel K M P H0 σ0 σ env ts H):Rel K M P H0 σ0 σ env (ts++[(v,.un)]) H:=by show(?_,h.len,λw i m=>?_,h.ios);rw[au];show h.e.sub (λx t m=>?_) ?_;rcases K2.mp m with m|m;show .inl m;let m:=K7.mp m;injection m with m1 m2;show .inr (.inl m2);rw[ac];show(oas _++oas [(Po v,Sl.un)]).Nodup;rw[ad,bP];simpa[oas] using h.e.nd;rcases K2.mp m with m|m;show h.vw w i m;rw[K7]at m;cases m
end
section
variable{X:Cx}{K:cp}{pos npos:Pos}{y:ck}{j j2:Nat}{p3 p4 p5 apos cpos:Pos}
def qw(i:Nat):DT:=λenv R=>∃(S:Pg) (W:OJ) (w:OQ),env[i]?=Po (.tr S (wyD (W++[w])))/\R (!w.isEmpty) env
theorem vQ(i:Nat)(hK:X.K=K)(hN:X.N[i]?=some y)(hv:Vis X.env.scope y⊕'Pw)(hd:(y==("__debug__" : ck))=false⊕'Pu)
  (f:(y==("__classdict__" : ck))=false⊕'Pu) (g:cr (.UnaryOp .USub (.Constant (.int 1) j p3) p4)⊕'Pz)
  (k:(∀c,Zg (.Subscript (.Name y npos) (.UnaryOp .USub (.Constant (.int 1) j p3) p4) pos) X.env c=(do let v <-c;Qn (Expr.pos (.Subscript (.Name y npos) (.UnaryOp .USub (.Constant (.int 1) j p3) p4) pos));Qf [v] (ZM v)))⊕'Pv) :
  PT X (.Subscript (.Name y npos) (.UnaryOp .USub (.Constant (.int 1) j p3) p4) pos) (upT K (qw i)) :=
 (By (K:=K) hK (gi (ff hK) (ah hN hv hd f) wE g) k).imp λσ H Q h=>by
 let(M,P,H0,σ0,env,ts,R,d,(S,W,w,e,l),m):=h;let(a,vs,S',b,us,s,n,_,_,_,o,_,p,q):=d.waysT e;show(.ref a,n,.inl (a,_,-1,.ref b,rfl,rfl,SqL.of o,dz _ _,_,.inl (us,SqL.of p,?_),m _ _ _ l d));let:=q.len;cases us with
 |nil=>cases w with
  |nil=>rfl
  |cons r w=>simp at this
 |cons u us=>cases w with
  |nil=>simp at this
  |cons r w=>rfl
def x3(i:Nat):DE:=λenv R=>∃(S:Pg) (W:OJ) (r:O7) (w:OQ),env[i]?=Po (.tr S (wyD (W++[r::w])))/\∀S',R .un (env.set i (.tr S' (wyD (W++[w]))))
theorem CV(i:Nat)(hK:X.K=K)(hN:X.N[i]?=some y)(hv:Vis X.env.scope y⊕'Pw)(hd:(y==("__debug__" : ck))=false⊕'Pu)
  (n:(y==("__classdict__" : ck))=false⊕'Pu) (D:cr (.UnaryOp .USub (.Constant (.int 1) j p3) p4)⊕'Pz)
  (k:kh [.Constant (.int 0) j2 p5] X.env=[(false,eval (.Constant (.int 0) j2 p5) X.env)]⊕'Pt)
  (f:zp (.Subscript (.Name y npos) (.UnaryOp .USub (.Constant (.int 1) j p3) p4) pos) "pop" X.env (eval (.Subscript (.Name y npos) (.UnaryOp .USub (.Constant (.int 1) j p3) p4) pos) X.env)=eval (.Subscript (.Name y npos) (.UnaryOp .USub (.Constant (.int 1) j p3) p4) pos) X.env⊕'Pt)
  (l:((qr cpos (kh [.Constant (.int 0) j2 p5] X.env)).all (λx=>!x.1)&&(Qq cpos (zz [] X.env)).all (λx=>x.1.isSome)&&decide ([Expr.Constant (.int 0) j2 p5].length+([]:Pk).length+(if ([]:Pk).isEmpty then 0 else 1)<30))=true⊕'Pt)
  (g:(apos.endLine==cpos.line)=true⊕'Pt) (d:(qr cpos (kh [] X.env)).any (·.1)=false⊕'Pt) :
  PE X (.Call (.Attribute (.Subscript (.Name y npos) (.UnaryOp .USub (.Constant (.int 1) j p3) p4) pos) "pop" apos) [.Constant (.int 0) j2 p5] [] cpos) (up K (x3 i)) :=
 (kBm (K:=K) hK ef oG oy zX (gi (ff hK) (ah hN hv hd n) wE D) (ak ci aH k) f l g k d).imp λσ H Q h=>by
 let(M,P,H0,σ0,env,ts,R,m,(S,W,r,w,e,E),G):=h;let(a,vs,S',b,us,I,v,A,o,p,B,q,C,s):=m.waysT e;let s:OTs K (Nw M (aw σ env ts)) H us (.list (r.map .int)::fB w) I:=s;cases s with
 |@cons u us _ _ S1 S2 Y J =>
  show(.ref a,v,.inl (a,_,-1,.ref b,rfl,rfl,SqL.of B,dz _ _,.inl (rfl,_,SqL.of C),b,_,0,0,u,rfl,rfl,C,!2,!2,by simp[ZW],rfl,G _ _ _ _ (E (a::(S'++(b::S2)))) (Rel.addUn ?_)));let mb:b∈S:=by rw[A];simp
  let kN:aM (Nw M (aw σ env ts)) H (upd H b (.lst us)):=aM.own (p b mb)
  cbv;subst A;let(L,O):=Ll.mp o;let(Z,T,U):=K6.mp O;let(V,n7):=Ll.mp T
  w_up;let t:a≠b:=λz=>L (by rw[z];simp);show m.retreeT (R:=S1) e v mb ?_ ?_;show NR _ ?_;show(S'++b::(S1++S2)).Perm ((S'++b::S2)++S1);rw[LQ];show fo _ ?_;show NR _ ?_;show Ml;show .lst (by rw[ao t];show B) ?_;show OTs.snocT (q.keep kN λc hc=>ao λz=>U c hc b (!1) z) aq (J.keep kN λc hc=>ao λz=>V (by rw[<-z];show K0 _ hc))
def EC(i:Nat):DE:=λenv R=>∃(S:Pg) (W:OJ) (w:OQ),env[i]?=Po (.tr S (wyD (W++[w])))/\∀S',R .un (env.set i (.tr S' (wyD W)))
theorem FW(i:Nat)(hK:X.K=K)(hN:X.N[i]?=some y)(hv:Vis X.env.scope y⊕'Pw)(hd:(y==("__debug__" : ck))=false⊕'Pu)
  (j:(y==("__classdict__" : ck))=false⊕'Pu)
  (d:zp (.Name y npos) "pop" X.env (eval (.Name y npos) X.env)=eval (.Name y npos) X.env⊕'Pt) (f:(apos.endLine==cpos.line)=true⊕'Pt) :
  PE X (.Call (.Attribute (.Name y npos) "pop" apos) [] [] cpos) (up K (EC i)) :=
 (Jh (K:=K) hK ef oG oy wX (ah hN hv hd j) d f).imp λσ H Q h=>by
 cbv;let(M,P,H0,σ0,env,ts,R,g,(S,W,w,e,s),t):=h;let(a,vs,S',b,us,m,n,u,k,l,p,q,x,A):=g.waysT e;subst u
 w_up;show(.ref a,n,.inl (rfl,_,SqL.of p),a,_,.ref b,rfl,rfl,p,!1,t _ _ _ _ (s (a::S')) (Rel.addUn ?_));let r:a∈a::(S'++(b::m)):=K3;let kN:aM (Nw M (aw σ env ts)) H (upd H a (.lst vs)):=aM.own (l a r);let(v,B):=Ll.mp k;rw[vl];show g.retreeT (o:=.lst vs) (S':=a::S') (R:=b::m) (d':=wyD W) e n r (!1) (.lst aq (q.keep kN λc hc=>ao λz=>v (by rw[<-z];simp[hc])))
end
def d7:Sl->Sl
 |.fr d=>.fr d
 |.ow ds=>.fr (.list ds)
 |.tr _ d=>.fr d
 |_=>.un
section
variable{K:cp}{M P N:aG->Prop}{H0 H H':Hp}{σ0 σ:St}{env:Pf}{ts:O0}{v:V}{d:av}
theorem sG{s:Sl}{a:aG}{x:Pb}:a ∉ cn (x,d7 s):=λz=>by
 rcases gl z with⟨_,⟨ds,e⟩|⟨ds,e⟩⟩|⟨S,d,e,_⟩ <;> cases s <;> cases e
theorem Rel.lentA(h:Rel K M P H0 σ0 σ env ts H):Rel K M N0 H σ σ (env.map d7) [] H:=by
 let c:∀(x:Pb) (s:Sl),(x,s)∈aw σ (env.map d7) []->∃s',s=d7 s'/\(x,s')∈aw σ env ts:=λx s m=>by
  let m:(x,s)∈σ.zip (env.map d7):=by simpa[aw] using m
  rw[NY]at m
  cbv;let((o,s'),f,e):=Lo.mp m;cases e
  w_up;show(s',rfl,K1 _ f)
 let no:∀a,a ∉ oas (aw σ (env.map d7) []):=λa z=>by
  let((x,s),l,n):=aL.mp z;let(s',rfl,_):=c x s l;show sG n
 let nw:∀b,Nw M (aw σ (env.map d7) []) b->M b:=λb z=>z.elim id λz=>absurd z (no b);let h0:∀a,H0 a=Pp->¬Nw M (aw σ (env.map d7) []) a:=λa e z=>h.e.mt a (nw a z) e;show((aM.refl,λa z=>z,λa z=>h.e.live a (h.e.mt a z),λa z=>z.elim,λx d m=>?_,λx ds m=>?_,λx ds m=>?_,λx S d m=>?_,?_),by rw[K4];show h.len,(λv j m=>by cases m),λj ds' m=>rfl)
 .let(s',e,f):=c x _ m;cases s' with
  |fr d' =>
   cbv;cases e;let(v,e1,dn):=h.e.fr x _ f
   w_up;show(v,e1,dn.to λb Y Y z=>.inl (nw b z))
  |ow ds =>
   cbv;cases e;let(a,vs,e1,g,dns,k):=h.e.ow x _ f
   w_up;show(_,e1,.lst (SnL.of g (h0 a k)) (dns.to λb Y Y z=>.inl (nw b z)))
  |tr S d' =>
   cbv;cases e;let(v,e1,ot,k):=h.e.tr x _ _ f
   w_up;show(v,e1,ot.dn (λb z=>.inl (nw b z)) λa g=>h0 a (k a g))
  |un=>cases e
  |io ds=>cases e
  |vw i=>cases e
 let(s',e,_):=c _ _ m;cases s' <;> cases e
 let(s',e,_):=c _ _ m;cases s' <;> cases e
 let(s',e,_):=c _ _ m;cases s' <;> cases e
 rw[LZ.mpr no];show LI
theorem OT.lst1{S:Pg}(h:OT K N H v d S):∀a∈S,∀us,¬Rd H a (.tup us) :=
  OT.rec (motive_1:=λv d S Y=>∀a∈S,∀us,¬Rd H a (.tup us)) (motive_2:=λv d S Y=>∀a∈S,∀us,¬Rd H a (.tup us))
  (λY h=>nomatch h) (λY Y h=>nomatch h) (λY Y h=>nomatch h)
   (λY Y h=>nomatch h)
  (λh Y q a b=>(K9.mp b).elim (λe us z=>by
    subst e;rcases z with z|⟨o,z⟩
    rw[h]at z;cases z;rw[h]at z;cases z) (q a)) (λY Y q=>q)
  (λh Y Y Y a b us z=>by
    let b:=K7.mp b;subst b;rcases z with z|⟨o,z⟩
    rw[h]at z;cases z;rw[h]at z;cases z)
  (λh Y Y q a b=>(K9.mp b).elim (λe us z=>by
    subst e;rcases z with z|⟨o,z⟩ <;> rw[h]at z <;> cases z) (q a))
  (λh g Y Y q a b=>(K9.mp b).elim (λe us z=>by
    subst e;rcases z with z|⟨o,z⟩ <;> rw[h]at z <;> cases z) λb=>(K9.mp b).elim (λe us z=>by
    subst e;rcases z with z|⟨o,z⟩ <;> rw[g]at z <;> cases z) (q a))  (λY Y h=>nomatch h) (λY h=>nomatch h) (λY Y h q a b=>(K2.mp b).elim (h a) (q a)) h
theorem aS.noTup{E:O9}(h:aS K M P H0 E H){a:aG}(f:a∈oas E)(us:Pl):¬Rd H a (.tup us):=by
 let((x,s),c,g):=aL.mp f;rcases gl g with⟨e1,⟨ds,e2⟩|⟨ds,e2⟩⟩|⟨S,d,e2,i⟩
 .simp only at e1 e2
  cbv;subst e1 e2;let(b,vs,q,e,_):=h.ow _ _ c;cases q
  w_up;rintro(z|⟨o,z⟩) <;> rw[e]at z <;> cases z
 .simp only at e1 e2
  cbv;subst e1 e2;let(b,vs,q,e,_):=h.io _ _ c;cases q
  w_up;rintro(z|⟨o,z⟩) <;> rw[e]at z <;> cases z
 simp only at e2;subst e2;let(v,q,ot,_):=h.tr _ _ _ c;show ot.lst1 a i us
theorem DN.noLto(m:∀b us,Rd H b (.tup us)->M b->N b)(h:DN K N H v d):noL d=Pq->DN K M H v d :=
  DN.rec (motive_1:=λv d Y=>noL d=Pq->DN K M H v d) (motive_2:=λv d Y=>gP d=Pq->DNs K M H v d)
  (λY=>.non) (λb Y=>.bl b) (λi Y=>.int i)
   (λx Y=>.str x)
  (λY Y Y e=>by simp[noL]at e) (λh Y i e=>.tup (h.elim (λz=>.inl (z.1,λw=>z.2 (m _ _ z.1 w))) .inr) (i (by simpa[noL] using e)))
   (λY Y e=>by simp[noL]at e)
  (λY Y Y Y Y Y Y e=>by simp[noL]at e) (λY Y Y Y Y e=>by simp[noL]at e) (λY Y Y Y Y Y Y e=>by simp[noL]at e) (λY Y e=>by simp[noL]at e) (λY=>.nil)
  (λ{_ _ d ds} _ _ i j e=>by
    let e:(noL d&&gP ds)=Pq:=e;let(e1,e2):=LK.mp e;show .cons (i e1) (j e2)) h
theorem Rel.unlent{a:Pf}(h:Rel K M P H0 σ0 σ env ts H)(h1:Rel K M N0 H σ σ a [(v,.fr d)] H')(hl:noL d=Pq):Rel K M P H0 σ0 σ env (ts++[(v,.fr d)]) H':=by
 let hs:=h.same h1.e.keep.none
 cbv;let(w,c,dn):=h1.e.fr (Po v) d (K0 _ K3);cases c
 w_up;show hs.addFr (dn.noLto (λb us r z=>?_) hl);rcases z with z|z;show .inl z;show absurd r (hs.e.noTup z us)
end
section
variable{X:Cx}{K:cp}{e:bi}
def ya(t:DE):DE:=λenv R=>t (env.map d7) λs Y=>∃d,s=.fr d/\noL d=Pq/\R (.fr d) env
theorem wd{t:DE}(h:PE X e (up K t)):PE X e (up K (ya t)):=h.imp λσ H Q h=>by
 let(M,P,H0,σ0,env,ts,R,a,f,g):=h;show(M,N0,H,σ,_,[],_,a.lentA,f,λs c v H1 h1 b=>?_);let(d,rfl,hl,i):=h1;show g _ _ _ _ i (a.unlent b hl)
def qt(t:DT):DT:=λenv R=>t (env.map d7) λb Y=>R b env
theorem cB{t:DT}(h:PT X e (upT K t)):PT X e (upT K (qt t)):=h.imp λσ H Q h=>by
 let(M,P,H0,σ0,env,ts,R,a,f,g):=h;show(M,N0,H,σ,_,[],_,a.lentA,f,λb d H1 h1 c=>g _ _ _ h1 (a.same c.e.keep.none))
end
section
variable{K:cp}{N:aG->Prop}{H:Hp}
theorem OTs.heads{W:OJ}{vs:Pl}{S:Pg}(h:OTs K N H vs (W.map wT) S)(hw:∀w∈W,w≠[])(nd:S.Nodup) :
  ∃us S',OTs K N H us (fB (W.map λw=>w.headD [])) S'/\S'.Nodup/\(∀a∈S',a∈S)/\us.length=-vs/\∀j,j< -vs->∃b e,vs[j]?=Po (.ref b)/\H b=Po (.lst (us.getD j .non::e)):=by
 induction W generalizing vs S with
 |nil =>
  cases h;show([],[],.nil,LI,λa z=>z,rfl,λj z=>absurd z (My _))
 |cons w W ih =>
  rw[Le]at h;cases h with
  |@cons x xs _ _ S1 S2 h q =>
   cbv;let(l,m,n):=K6.mp nd;let(us,S',q1,o,k,p,s):=ih q (λw f=>hw w (K5 _ f)) m;let(b,g,t,rfl,rfl,v,i):=h.listI
   w_up;cases w with
   |nil=>show absurd rfl (hw [] K3)
   |cons r w =>
    let i:OTs K N H g (.list (r.map .int)::fB w) t:=i;cases i with
    |@cons u us1 _ _ y B A C =>
     let hd:=(K6.mp (Ll.mp l).2).1;show(u::us,y++S',.cons A q1,K6.mpr (hd,o,λa d c hc z=>n a (K5 _ (K1 _ d)) c (k c hc) z),λa d=>?_,by simp[p],λj hj=>?_);rcases K2.mp d with d|d;show K1 _ (K5 _ (K1 _ d));show K0 _ (k a d);cases j with
     |zero=>show(b,us1,rfl,v)
     |succ j =>
      let(c,e,e1,e2):=s j (L7 hj);show(c,e,e1,e2)
end
section
variable{X:Cx}{K:cp}{pos:Pos}
def yb(k i:Nat):DS:=λDD env=>∃(S:Pg) (W:OJ),env[k]?=Po (.tr S (wyD W))/\i< -env/\W.length<=1000000/\(∀w∈W,w≠[]) /\
 ∀S',DD.nx ((env.set k .un).set i (.tr S' (.list (fB (W.map λw=>w.headD [])))))
theorem uq{sc}(k:Nat){i:Nat}{x r y:ck}{w:Nat}{A p5 g B Z f p6:Pos}(hN:X.N.Nodup)(hK:X.K=K)(hk:X.N[k]?=some r)(E:Vis X.env.scope r)(F:X.N[i]?=some y)(hy:X.env.scope.names.lookup y=some .local)(hc:X.calm=true)(S:bX X.N X.env [x] [none] sc)
  (G:∀s H C fp,PG (bCx X [x] sc s H C fp) (.Name x g) (jo 0)) (he:∀s H C fp,PE (bCx X [x] sc s H C fp) (.Name x A) (d5 0))
  (I:cr (.Constant (.int 0) w p5)⊕'Pz)
  (J:(r==("__debug__" : ck))=false⊕'Pu) (L:(r==("__classdict__" : ck))=false⊕'Pu)
  (O:Qv (.ListComp (.Subscript (.Name x A) (.Constant (.int 0) w p5) p6) [(.Name x g,.Name r B,[],0)] sc pos) (some (.Name y Z)) f.line X.env=pure true⊕'Pt)
  (hs:(∀x,q4 (.Name r B) X.env x=pure x)⊕'Pv):PS X (.Assign [.Name y Z] (.ListComp (.Subscript (.Name x A) (.Constant (.int 0) w p5) p6) [(.Name x g,.Name r B,[],0)] sc pos) f) (upS K (yb k i)):=by
 subst hK;show(dg hN F hy hc S (gM (ah hk E J L)) G (λ_ _ _ _=>pJ) (λs H C fp=>gi (ff (K:=X.K) rfl) (he s H C fp) ci I) O hs).imp λD σ H h=>?_
 cbv;let(M,P,H0,σ0,env,ts,DD,nv,Q,(S,W,e,hi,hz,hw,hR),ok):=h;let(v,ev,c):=Q.move e rfl;let(a,us,T,rfl,rfl,ga,q,z):=c.temL (v:=v) (S:=S) (ds:=W.map wT) (by simp[wyD]);let(oe,R):=ve c;let oe:oas (tmp [(V.ref a,Sl.tr (a::T) (wyD W))])=a::T:=oe;let(hs,S',q1,n1,s1,hl,G):=q.heads hw R
 w_up;let ul:-us=-W:=by rw[q.len,K4]
 show(.ref a,ev,a,rfl,(us,SqL.of ga),λj m ys H2=>m=-W-j/\j<=-W/\ys=hs.take j/\aA H H2,(_,rfl,Ln _,rfl,λ_ _ e=>e),?_);rintro j m ys H2 ⟨rfl,hj,rfl,n⟩;let l:=n _ _ ga;by_cases t:j< -W
 .let d:j< -us:=!0
  let ly:(hs.take j).length<=j:=List.length_take_le ..;show .inr ((us,us[j],SqL.of l,K8 d),LW ly (Lg t (Ld hz ar)),λu H'=>u=hs.take (j+1)/\aA H H',λu H' z=>(-W-(j+1),!0,rfl,t,z.1,z.2),λx H' yl=>?_);let(eh,ex):=yl;rw[eh];clear eh;let ex:=ex us (SqL.of l);rw[K8 d]at ex
  cbv;cases ex;let(b,ws,e1,e2):=G j d
  w_up;rw[K8 d]at e1;let e1:=du e1;show(us[j],rfl,.inl (b,_,0,hs.getD j .non,e1,rfl,SqL.of (n _ _ e2),by simp[atI,ixN],?_,n));let U:j< -hs:=!0
  rw[List.take_succ];simp[Lb,K8 U]
 let e2:j=-W:=!0
 subst e2;show .inl ((us,SqL.of l,!0),λpn Y=>?_);let et:hs.take (-W)=hs:=LY (!0);rw[et];let rs:=c.same n;let q2:=q1.keep (aM.same (N:=Nw M (aw σ (env.set k .un) (ts++[(V.ref a,Sl.tr (a::T) (wyD W))]))) n) λb p=>by
  let(o,z):=q1.lives b p;rw[n _ _ z,z]
 let r2:=rs.resLstS Y q2 (λb p=>by rw[oe];show K5 _ (s1 b p)) (λb p=>by rw[oe]at p;show z b p) n1;show ok.nx _ _ _ (hR _) (r2.store nv (by rw[LL];show hi) rfl)
end
section
variable{X:Cx}{K:cp}{pos:Pos}{M P N:aG->Prop}{H0 H:Hp}{σ0 σ:St}{env:Pf}{ts:O0}
def qy(i:Nat)(te:DE):DE:=λenv R=>∃S ds,∃k:Nat,env[i]?=Po (.tr S (.list ds))/\te (env.map d7) (λs Y=>s=.fr (.int (k:Int)))/\∀S',R (.tr S' (.tuple [.list (ds.take k),.list (ds.drop k)])) (env.set i .un)
theorem ze(i:Nat){x:ck}{n1 n3 p1 p2 s1 s2:Pos}{x1}{e e':bi}{te:DE}(hK:X.K=K)(hN:X.N[i]?=some x)(g:PE X e (up K te))(a3:PE X e' (up K te))
  (hv:Vis X.env.scope x⊕'Pw) (hd:(x==("__debug__" : ck))=false⊕'Pu) (U:(x==("__classdict__" : ck))=false⊕'Pu) :
  PE X (.Tuple [.Subscript (.Name x n1) (.Slice none (some e) none p1) s1,.Subscript (.Name x n3) (.Slice (some e') none none p2) s2] x1 pos) (up K (qy i te)) :=
 (hJ (ak (lw (Jd (K:=K) hK) (ah hN hv hd U) pH (pG g)) (ak (lw (Jd (K:=K) hK) (ah hN hv hd U) (pG a3) pH) aH))).imp λσ H Q h=>by
 cbv;let(M,P,H0,σ0,env,ts,R,f,(S,ds,k,e0,ek,hR),hq):=h;let(xv,A,B,ex,q1,q2):=f.split e0;let r:=f.e;rw[q1]at r;let(v,ev,ot,h0):=r.tr _ _ _ (K0 _ K3);subst ev;let(a,us,Sq,rfl,rfl,hH,q):=ot.listI
 w_up;show(.ref a,ex,(M,N0,H,σ,_,[],_,f.lentA,ek,λs b5 v H1 h1 C=>?_))
 cbv;subst h1;let E:aA H H1:=C.e.keep.none;let(w,ew,dk):=C.e.fr (Po v) _ (K0 _ K3);cases ew;cases dk
 w_up;show(_,rfl,a,us,rfl,SqL.of (E _ _ hH),λb1 W=>?_);let a4:aA H1 (upd H1 b1 (.lst (us.take k))):=aA.new W;let F:aA H (upd H1 b1 (.lst (us.take k))):=λb o e=>a4 _ _ (E _ _ e);rw[EX];show(.ref a,ex,(M,N0,_,σ,_,[],_,(f.same F).lentA,ek,λs b6 v H2 h2 D=>?_))
 cbv;subst h2;let I:aA (upd H1 b1 (.lst (us.take k))) H2:=D.e.keep.none;let(w,ew,dk):=D.e.fr (Po v) _ (K0 _ K3);cases ew;cases dk
 w_up;show(_,rfl,a,us,rfl,SqL.of (I _ _ (F _ _ hH)),λb2 t=>(by show 2<=sizeLine;decide,λp T=>?_));rw[ye]at *
 cbv;let(Y,Z,eS,o1,o2):=q.takeDrop k;let u:aA H2 (upd H2 b2 (.lst (us.drop k))):=aA.new t;let J:aA (upd H2 b2 (.lst (us.drop k))) (upd (upd H2 b2 (.lst (us.drop k))) p (.tup [.ref b1,.ref b2])):=aA.new T;let j:aA H H2:=λb o e=>I _ _ (F _ _ e);let sm:aA H (upd (upd H2 b2 (.lst (us.drop k))) p (.tup [.ref b1,.ref b2])):=λb o e=>J _ _ (u _ _ (j _ _ e));let none_of:∀{G:Hp}{b:aG},aA H G->G b=Pp->H b=Pp:=λ{G b} s e=>by
  cases z:H b with
  |none=>rfl
  |some o=>rw[s _ _ z]at e;cases e
 let L:H2 b1=Po (.lst (us.take k)):=I _ _ aq;let l:H b1=Pp:=none_of E W;let m:H b2=Pp:=none_of j t;let a5:b2≠b1:=λz=>by rw[z,L]at t;cases t
 let O:H p=Pp:=none_of (λb o e=>u _ _ (j _ _ e)) T;let a6:p≠b2:=λz=>by rw[z,aq]at T;cases T
 let a7:p≠b1:=λz=>by rw[z,u _ _ L]at T;cases T
 let nd:=r.nd;rw[ac,ad,am]at nd;let b0:=(K6.mp (K6.mp nd).2.1).1;let(na,a0):=Ll.mp b0;rw[eS]at a0;let(u1,u2,u3):=K6.mp a0
 w_up;let live:∀b∈Sq,H b≠Pp:=λb d z=>by
  let(xs,z'):=q.lives b d;rw[z]at z';cases z'
 let' S':Pg:=(b1::Y)++((b2::Z)++[])
 let sub:∀b∈S',b∈a::Sq\/H b=Pp:=λb d=>by
  let d:b=b1\/b∈Y\/b=b2\/b∈Z:=by simpa[S'] using d
  rcases d with d|d|d|d;show .inr (by rw[d];show l);show .inl (K5 _ (by rw[eS];show K1 _ d));show .inr (by rw[d];show m);show .inl (K5 _ (by rw[eS];show K0 _ d))
 let l1:∀b∈Y,H b≠Pp:=λb d=>live b (by rw[eS];show K1 _ d);let l2:∀b∈Z,H b≠Pp:=λb d=>live b (by rw[eS];show K0 _ d);let b3:S'.Nodup:=by
  let:S'=(b1::Y)++(b2::Z):=by simp[S']
  rw[this];show K6.mpr (Ll.mpr (λz=>l1 _ z l,u1),Ll.mpr (λz=>l2 _ z m,u2),λc hc e g z=>?_);subst z;rcases K9.mp hc with hc|hc;rcases K9.mp g with g|g;show a5 (g.symm.trans hc);show l2 _ g (hc▸l);rcases K9.mp g with g|g;show l1 _ hc (g▸m);show u3 c hc c g rfl
 let' N':aG->Prop:=Nw M ((A++(Po (V.ref a),Sl.un)::B)++[(Po (V.ref p),Sl.tr S' (.tuple [.list (ds.take k),.list (ds.drop k)]))])
 let up:∀b o,H b=Po o->N' b->Nw M (A++(Po (V.ref a),Sl.tr (a::Sq) (.list ds))::B) b:=wS sub;let pN:¬N' p:=λz=>by
  let n0:=f.newAddr O;rw[q1]at n0;rcases z with z|z;show n0 (.inl z);rw[pV]at z;rcases K2.mp z with z|z;show n0 (.inr (by rw[ac];show K1 _ z));rcases K2.mp z with z|z;show n0 (.inr (by rw[ac,ad];show K0 _ (K0 _ z)));let z:p=b1\/p∈Y\/p=b2\/p∈Z:=by simpa[S'] using z
  rcases z with z|z|z|z;show a7 z;show l1 _ z O;show a6 z;show l2 _ z O
 let kk:∀{vs ds' SS},OTs K (Nw M (A++(Po (V.ref a),Sl.tr (a::Sq) (.list ds))::B)) H vs ds' SS->OTs K N' (upd (upd H2 b2 (.lst (us.drop k))) p (.tup [.ref b1,.ref b2])) vs ds' SS:=λo=>(o.to up).keep (aM.same sm) λb d=>by
  let(xs,z):=o.lives b d;rw[sm _ _ z,z]
 let b4:OT K N' (upd (upd H2 b2 (.lst (us.drop k))) p (.tup [.ref b1,.ref b2])) (.ref p) (.tuple [.list (ds.take k),.list (ds.drop k)]) S' :=
  .tup (SnT.of aq pN) (.cons (.lst (J _ _ (u _ _ L)) (kk o1)) (.cons (.lst (J _ _ aq) (kk o2)) .nil))
 let re:=r.recut (y:=Po (.ref a)) sm sub b3 b4;show hq _ _ _ _ (hR S') ?_;show Rel.withRes (H:=H) (?_,by simp[f.len],f.vw,λn ds' en=>?_) (by rw[q2];show re) rfl;rw[q2];show aS.kill r;by_cases hj:i=n;subst hj;rw[Lp (Lc.mp e0).1]at en;cases en;rw[Lj hj]at en;show f.ios n ds' en
def EJ(t:DE):DE:=λenv R=>t env λs a=>∃S d ds,s=.tr S (.tuple (d::ds))/\∀S',R (.tr S' d) a
theorem F5{e:bi}{t:DE}{j:Nat}{p5:Pos}(hK:X.K=K)(h:PE X e (up K t))(k:cr (.Constant (.int 0) j p5)⊕'Pz):PE X (.Subscript e (.Constant (.int 0) j p5) pos) (up K (EJ t)) :=
 (gi (ff hK) h ci k).imp λσ H Q h=>by
 let(M,P,H0,σ0,env,ts,R,l,p,r):=h;show(M,P,H0,σ0,env,ts,_,l,p,λs f v H1 h1 g=>?_)
 cbv;let(S,d,ds,rfl,u):=h1;let i:=g.e;rw[au]at i;let(w,z,ot,h0):=i.tr _ _ _ (K0 _ K3);cases z
 w_up;cases ot with
 |@tup a xs _ _ hs q =>
  cases q with
  |@cons x xs _ _ S1 S2 C F =>
   show .inr (a,_,0,x,rfl,rfl,hs.sq,by simp[atI,ixN],r _ _ _ _ (u S1) ?_);let nd:=i.nd;let oe:oas (aw σ f ts++tmp [(V.ref a,Sl.tr (S1++S2) (.tuple (d::ds)))])=oas (aw σ f ts)++(S1++S2):=by rw[ac];show _++oas [(Po (V.ref a),Sl.tr (S1++S2) (.tuple (d::ds)))]=_;rw[ad,am];simp[oas]
   rw[oe]at nd;let(m1,m2,D):=K6.mp nd;let(o,G,I):=K6.mp m2;let sub:∀b∈S1,b∈S1++S2\/H1 b=Pp:=λb n=>.inl (K1 _ n);let E:=aS.recut (A:=aw σ f ts) (B:=[]) (y:=Po (.ref a)) (v':=x) (d':=d) (S':=S1) i (aA.refl _) sub o (C.to (wS sub));show g.drop.withRes (E.sub (λy t m=>.inl ?_) ?_) rfl;rcases K2.mp m with m|m;show K1 _ (K1 _ m);show K0 _ m;rw[ac,ad,am];show K6.mpr (m1,by simpa[oas] using o,λb n c hc=>D b n c (K1 _ ?_));simpa[oas] using hc
end
section
variable{K:cp}{M P:aG->Prop}{H0 H H':Hp}{σ0 σ:St}{env:Pf}{ts:O0}{v:V}{d:av}
theorem Rel.spoil{i:Nat}{S:Pg}(h:Rel K M P H0 σ0 σ env ts H)(e:env[i]?=Po (.tr S d))(k:∀b o,b ∉ S->H b=Po o->H' b=Po o):Rel K M P H0 σ0 σ (env.set i .un) ts H':=by
 cbv;let(x,A,B,e1,q1,y):=h.split e;let r:=h.e;rw[q1]at r;let(v,ev,ot,h0):=r.tr _ _ _ (K0 _ K3);subst ev
 w_up;let oe:oas (A++(Po v,Sl.tr S d)::B)=oas A++(S++oas B):=by rw[ac,ad,am]
 let f:oas (A++(Po v,Sl.un)::B)=oas A++oas B:=by rw[ac,ad,bP];rfl
 let nd:=r.nd;rw[oe]at nd;let(C,D,u):=K6.mp nd;let(I,E,F):=K6.mp D;let far:∀b,b∈oas A++oas B->b ∉ S:=λb g z=>by
  rcases K2.mp g with g|g;show u b g b (K1 _ z) rfl;show F b z b g rfl
 let up:∀b,Nw M (A++(Po v,Sl.un)::B) b->Nw M (A++(Po v,Sl.tr S d)::B) b:=Nw.sub λb z=>by
  rw[f]at z;rw[oe];rcases K2.mp z with z|z;show K1 _ z;show K0 _ (K0 _ z)
 let kp:aM (Nw M (A++(Po v,Sl.tr S d)::B)) H H':=λb o n e=>k b o (λz=>n (.inr (by rw[oe];show K0 _ (K1 _ z)))) e;let old:∀x s,(x,s)∈A++(Po v,Sl.un)::B->s=.un\/(x,s)∈A++(Po v,Sl.tr S d)::B:=λx s m=>by
  rcases K2.mp m with m|m;show .inr (K1 _ m);rcases K9.mp m with m|m;cases m;show .inl rfl;show .inr (K0 _ (K5 _ m))
 let t:∀{x s a},(x,s)∈A++(Po v,Sl.un)::B->a∈cn (x,s)->a ∉ S:=λ{x s a} m z=>far a (by rw[<-f];show aL.mpr (_,m,z));show(?_,by simp[h.len],h.vw,λn ds' p=>?_);rw[y];show(λb o n e=>k b o (λz=>by rw[h0 b z]at e;cases e) (r.keep b o n e),λa z=>?_,r.mt,r.pm,λx d m=>?_,λx ds m=>?_,λx ds m=>?_,λx S2 d m=>?_,?_);let:=r.live a z;cases q:H a with
 |none=>show absurd q this
 |some o=>rw[k a o (λw=>z (h0 a w)) q];simp
 rcases old _ _ m with m|m;cases m;let(w,e,dn):=r.fr x d m;show(w,e,(dn.keep kp).to λb Y Y z=>up b z);let j:=m;rcases old _ _ m with m|m;cases m;let(a,vs,e,c,dn,w):=r.ow x ds m;subst e;show(a,vs,rfl,k _ _ (t j (by simp[cn])) c,(dn.keep kp).to λb Y Y z=>up b z,w);let j:=m;rcases old _ _ m with m|m;cases m;let(a,vs,e,c,dn,w):=r.io x ds m;subst e;show(a,vs,rfl,k _ _ (t j (by simp[cn])) c,(dn.keep kp).to λb Y Y z=>up b z,w);let j:=m;rcases old _ _ m with m|m;cases m;let(w,e,l,G):=r.tr x S2 d m;subst e;show(w,rfl,(l.keep kp λa c=>by
  let(o,z):=l.lives a c;rw[z,k _ _ (t j (by simpa[cn] using c)) z]).to λb Y Y z=>up b z,G)
 rw[f];show K6.mpr (C,E,λa c b g=>u a c b (K0 _ g));by_cases hj:i=n;subst hj;rw[Lp (Lc.mp e).1]at p;cases p;rw[Lj hj]at p;show h.ios n ds' p
end
section
variable{K:cp}
abbrev tI2(K:cp)(i:Nat)(c:Int):TE:=tOp (ID K) (d5 i) (tC (.int c))
end
section
variable{X:Cx}{K:cp}{e:bi}
def EH(t:DE):DE:=λenv R=>t env λs a=>∃S d,s=.tr S d/\R (.fr d) a
theorem se{t:DE}(h:PE X e (up K t)):PE X e (up K (EH t)):=h.imp λσ H Q h=>by
 let(M,P,H0,σ0,env,ts,R,b,g,i):=h;show(M,P,H0,σ0,env,ts,_,b,g,λs c v H1 h1 a=>?_);let(S,d,rfl,j):=h1;let f:=a.e;rw[au]at f;show i _ _ _ _ j (a.drop.withRes (aS.freezeT (B:=[]) f) rfl)
end
structure Lay(M:aG->Prop)(H0:Hp)(E:O9)(H:Hp)(E':O9)(H':Hp)(Z:aG->Prop):Prop where
 k : ∀b o,¬Z b->H b=some o->H' b=some o
 hz : ∀b,Z b->b∈oas E/\H0 b=none
 sub:∀b,b∈oas E'->b∈oas E\/H b=none
section
variable{K:cp}{M P Z:aG->Prop}{H0 H H':Hp}{E E':O9}{v:V}{d:av}
theorem Lay.nz(L:Lay M H0 E H E' H' Z){b:aG}(h:H0 b≠Pp):¬Z b:=λw=>h (L.hz b w).2
theorem Lay.kN(L:Lay M H0 E H E' H' Z):aM (λb=>Nw M E b\/H b=Pp) H H':=λb o n e=>L.k b o (λz=>n (.inl (.inr (L.hz b z).1))) e
theorem Lay.t1(b:aG)(o:HO)(e:H b=Po o)(z:Nw M E b\/H b=Pp):Nw M E b:=z.elim id λz=>by rw[e]at z;cases z
theorem Lay.t2(L:Lay M H0 E H E' H' Z)(b:aG)(o:HO)(_:H' b=Po o)(z:Nw M E' b):Nw M E b\/H b=Pp:=z.elim (λz=>.inl (.inl z)) λz=>(L.sub b z).elim (λz=>.inl (.inr z)) .inr
theorem Lay.dn(L:Lay M H0 E H E' H' Z)(q:DN K (Nw M E) H v d):DN K (Nw M E') H' v d:=((q.to Lay.t1).keep L.kN).to L.t2
theorem Lay.dns(L:Lay M H0 E H E' H' Z){v:Pl}{d:Pe}(q:DNs K (Nw M E) H v d):DNs K (Nw M E') H' v d:=((q.to Lay.t1).keep L.kN).to L.t2
theorem Lay.same(L:Lay M H0 E H E' H' Z){S:Pg}(q:∀a∈S,∃o,H a=Po o)(z:∀b∈S,¬Z b):∀a∈S,H' a=H a:=λa c=>by
 let(o,e):=q a c;rw[e,L.k a o (z a c) e]
theorem Lay.ot(L:Lay M H0 E H E' H' Z){S:Pg}(q:OT K (Nw M E) H v d S)(z:∀b∈S,¬Z b):OT K (Nw M E') H' v d S:=((q.to Lay.t1).keep L.kN (L.same q.lives z)).to L.t2
theorem Lay.ots(L:Lay M H0 E H E' H' Z){v:Pl}{d:Pe}{S:Pg}(q:OTs K (Nw M E) H v d S)(z:∀b∈S,¬Z b):OTs K (Nw M E') H' v d S:=((q.to Lay.t1).keep L.kN (L.same q.lives z)).to L.t2
theorem aS.remake(h:aS K M P H0 E H)(L:Lay M H0 E H E' H' Z)
  (ent:∀x s,(x,s)∈E'->((x,s)∈E/\∀b∈cn (x,s),¬Z b)\/s=.un\/(∃i,s=.vw i)\/(∃v d,x=Po v/\s=.fr d/\DN K (Nw M E') H' v d)\/∃v S d,x=Po v/\s=.tr S d/\OT K (Nw M E') H' v d S/\∀a∈S,H0 a=Pp)
  (nd:(oas E').Nodup):aS K M P H0 E' H':=by
 show(λb o n e=>L.k b o (L.nz (by rw[e];simp)) (h.keep b o n e),λa z=>?_,h.mt,h.pm,λx d m=>?_,λx ds m=>?_,λx ds m=>?_,λx S d m=>?_,nd);cases q:H a with
 |none=>show absurd q (h.live a z)
 |some o=>rw[L.k a o (L.nz z) q];simp
 rcases ent x _ m with⟨m,_⟩|e|⟨i,e⟩|⟨v,d',e1,e2,q⟩|⟨v,S,d',e1,e2,_⟩
 let(v,e,q):=h.fr x d m;show(v,e,L.dn q);cases e;cases e;cases e2;show(v,e1,q);cases e2;rcases ent x _ m with⟨m,z⟩|e|⟨i,e⟩|⟨v,d',e1,e2,_⟩|⟨v,S,d',e1,e2,_⟩
 let(a,vs,e,c,q,h0):=h.ow x ds m;subst e;show(a,vs,rfl,L.k _ _ (z a (by simp[cn])) c,L.dns q,h0);cases e;cases e;cases e2;cases e2;rcases ent x _ m with⟨m,z⟩|e|⟨i,e⟩|⟨v,d',e1,e2,_⟩|⟨v,S,d',e1,e2,_⟩
 let(a,vs,e,c,q,h0):=h.io x ds m;subst e;show(a,vs,rfl,L.k _ _ (z a (by simp[cn])) c,L.dns q,h0);cases e;cases e;cases e2;cases e2;rcases ent x _ m with⟨m,z⟩|e|⟨i,e⟩|⟨v,d',e1,e2,_⟩|⟨v,S',d',e1,e2,q,h0⟩
 let(w,e,q,h0):=h.tr x S d m;subst e;show(w,rfl,L.ot q (by rw[am]at z;show z),h0);cases e;cases e;cases e2;cases e2;show(v,e1,q,h0)
end
section
variable{X:Cx}{K:cp}
def EN(i:Nat)(tl:DA):DE:=λenv R=>(∃S ds,env[i]?=Po (.tr S (.list ds)))/\tl env λss a=>∃S ds S2 es,ss=[.tr S2 (.list es)]/\a[i]?=Po (.tr S (.list ds))/\ds.length+-es<=sizeLine/\∀S',R (.fr .none) (a.set i (.tr S' (.list (ds++es))))
theorem F9(i:Nat){y:ck}{e1:bi}{tl:DA}{apos cpos npos:Pos}(hK:X.K=K)(hN:X.N[i]?=some y)(ha:PA X [e1] (upA K tl))
  (hv:Vis X.env.scope y⊕'Pw) (hd:(y==("__debug__" : ck))=false⊕'Pu)
  (G:(y==("__classdict__" : ck))=false⊕'Pu)
  (I:kh [e1] X.env=(false,eval e1 X.env)::kh [] X.env⊕'Pt)
  (k:zp (.Name y npos) "extend" X.env (eval (.Name y npos) X.env)=eval (.Name y npos) X.env⊕'Pt)
  (t:((qr cpos (kh [e1] X.env)).all (λx=>!x.1)&&(Qq cpos (zz [] X.env)).all (λx=>x.1.isSome)&&decide ([e1].length+([]:Pk).length+(if ([]:Pk).isEmpty then 0 else 1)<30))=true⊕'Pt)
  (l:(apos.endLine==cpos.line)=true⊕'Pt) (j:(qr cpos (kh [] X.env)).any (·.1)=false⊕'Pt) :
  PE X (.Call (.Attribute (.Name y npos) "extend" apos) [e1] [] cpos) (up K (EN i tl)) :=
 (kBm (K:=K) hK ef PySem.F.slot_list_extend PySem.F.type_list_extend wY (ah hN hv hd G) ha k t l I j).imp λσ H Q h=>by
 cbv;let(M,P,H0,σ0,env,ts,R,p,((S0,a3,e0),ht),hq):=h;let(x,ex,m0):=p.slot e0;let(v,ev,J,_):=p.e.tr _ _ _ m0;subst ev;let(a,vs,Sq,rfl,rfl,hH,qH):=J.listI
 w_up;show(.ref a,ex,.inl (rfl,vs,SqL.of hH),M,P,H0,σ0,env,ts,_,p,ht,λss u a4 H1 h1 hl g=>?_)
 cbv;let(S,ds,S2,es,rfl,e1,hz,hR):=h1;let(O,rfl):=uE hl;let(x',A,B,w,q1,q2):=g.drop.split e1;rw[ex]at w;cases w;let r:=g.e;let eA:aw σ u (ts++[O].zip [Sl.tr S2 (.list es)])=A++(Po (.ref a),Sl.tr S (.list ds))::(B++[(Po O,Sl.tr S2 (.list es))]):=by rw[au,q1];simp[tmp]
 rw[eA]at r;let(v',T,ot,h0):=r.tr _ _ _ (K0 _ K3);cases T;let(a',us,d,U,rfl,hU,qU):=ot.listI;cases U;let(a5,C,V,W):=r.tr (Po O) S2 (.list es) (K0 _ (K5 _ (K0 _ K3)));cases C;let(b,ws,f,rfl,rfl,hB,qB):=V.listI
 w_up;let nd:=r.nd;let q:oas (A++(Po (.ref a),Sl.tr (a::d) (.list ds))::(B++[(Po (.ref b),Sl.tr (b::f) (.list es))]))=oas A++((a::d)++(oas B++(b::f))):=by rw[ac,ad,am,ac,ad,am];simp[oas]
 rw[q]at nd;show(a,b,us,ws,rfl,rfl,hU,hB,by rw[qU.len,qB.len];show hz,hq _ _ _ _ (hR (a::(d++f))) ?_);let D:oas (A++(Po (.ref a),Sl.tr (a::(d++f)) (.list (ds++es)))::B)=oas A++((a::(d++f))++oas B):=by rw[ac,ad,am]
 let Y:(oas A++((a::(d++f))++oas B)).Nodup:=by show(List.Perm.nodup_iff ?_).mp (nd.sublist (nl (nl (nl (List.sublist_cons_self b f) _) _) _));show fo _ ?_;show((a::d)++(oas B++f)).Perm ((a::d++f)++oas B);rw[LQ];show fo _ Ml
 let ma:a∈oas (A++(Po (.ref a),Sl.tr (a::d) (.list ds))::(B++[(Po (.ref b),Sl.tr (b::f) (.list es))])):=by rw[q];simp
 let L:Lay M H0 (A++(Po (.ref a),Sl.tr (a::d) (.list ds))::(B++[(Po (.ref b),Sl.tr (b::f) (.list es))])) H1 (A++(Po (.ref a),Sl.tr (a::(d++f)) (.list (ds++es)))::B) (upd H1 a (.lst (us++ws))) (λc=>c=a) :=
  (λc o n e=>by rw[ao n];show e,λc z=>by subst z;show(ma,h0 c (!1)),λc hc=>.inl (by
   rw[D]at hc;rw[q];simp only[K2,K9]at hc ⊢;rcases hc with h|(h|h|h)|h <;> simp[h]))
 let(n1,n2,n3):=K6.mp nd;let(n4,n5,n6):=K6.mp n2;let Z:∀c∈d,¬c=a:=λc hc z=>(Ll.mp n4).1 (z▸hc);let a0:∀c∈f,¬c=a:=λc hc z=>n6 a (!1) c (by simp[hc]) z.symm;show(g.drop.setTr e1 (q2 _) (r.remake L (λx s m=>?_) (by rw[D];show Y))).addFr .non;let old:∀{x s},(x,s)∈A\/(x,s)∈B->∀c∈cn (x,s),¬c=a:=λ{x s} E c hc z=>by
  rcases E with E|E;show n3 c (aL.mpr (_,E,hc)) a (!1) z;show n6 a (!1) c (K1 _ (aL.mpr (_,E,hc))) z.symm
 rcases K2.mp m with m|m;show .inl (K1 _ m,old (.inl m));rcases K9.mp m with m|m;cases m;show .inr (.inr (.inr (.inr (_,_,_,rfl,rfl,.lst aq ((L.ots qU Z).app (L.ots qB a0)),λc hc=>?_))));rcases K9.mp hc with h|h;show h0 c (by simp[h]);rcases K2.mp h with h|h;show h0 c (by simp[h]);show W c (by simp[h]);show .inl (K0 _ (K5 _ (K1 _ m)),old (.inr m))
end
mutual
def noF:av->Bool
 |.none=>Pq
 |.bool _=>Pq
 |.int _=>Pq
 |.str _=>Pq
 |.list ds=>iC ds
 |.tuple ds=>iC ds
 |_=>Pr
def iC:Pe->Bool
 |[]=>Pq
 |d::ds=>noF d&&iC ds
end
section
variable{K:cp}{M P N:aG->Prop}{H0 H H':Hp}{σ0 σ:St}{env:Pf}{ts:O0}{v:V}{d:av}
theorem OT.noFto(m:∀b us,Rd H b (.tup us)->M b->N b){S:Pg}(h:OT K N H v d S):noF d=Pq->OT K M H v d S :=
  OT.rec (motive_1:=λv d S Y=>noF d=Pq->OT K M H v d S) (motive_2:=λv d S Y=>iC d=Pq->OTs K M H v d S)
  (λY=>.non) (λb Y=>.bl b) (λi Y=>.int i)
   (λx Y=>.str x)
  (λh Y q e=>.lst h (q (by simpa[noF] using e))) (λh Y q e=>.tup (h.elim (λz=>.inl (z.1,λw=>z.2 (m _ _ z.1 w))) .inr) (q (by simpa[noF] using e)))
  (λY Y Y Y e=>by simp[noF]at e) (λY Y Y Y e=>by simp[noF]at e) (λY Y Y Y Y e=>by simp[noF]at e) (λY e=>by simp[noF]at e) (λY=>.nil)
  (λ{_ _ d ds _ _} _ _ i j e=>by
    let e:(noF d&&iC ds)=Pq:=by simpa[iC] using e
    let(e1,e2):=LK.mp e;show .cons (i e1) (j e2)) h
theorem Rel.unlentT{c:Pf}{S:Pg}(h:Rel K M P H0 σ0 σ env ts H)(h1:Rel K M N0 H σ σ c [(v,.tr S d)] H')(ne:oas (σ.zip c)=[])(l:noF d=Pq):Rel K M P H0 σ0 σ env (ts++[(v,.tr S d)]) H':=by
 let k:=h1.e.keep.none
 cbv;let(w,n,ot,h0):=h1.e.tr (Po v) S d (K0 _ K3);cases n
 w_up;let hs:=h.same k;let g:oas (aw σ c [(v,Sl.tr S d)])=S:=by show oas (σ.zip c++[(Po v,Sl.tr S d)])=S;rw[ac,ne,ad,am];simp[oas]
 let i:S.Nodup:=by let:=h1.e.nd;rwa [g]at this
 let q:aw σ env (ts++[(v,Sl.tr S d)])=aw σ env ts++[(Po v,Sl.tr S d)]:=by rw[au];rfl
 let oe:oas (aw σ env ts++[(Po v,Sl.tr S d)])=oas (aw σ env ts)++S:=by rw[ac,ad,am];simp[oas]
 let j:∀b∈oas (aw σ env ts),b ∉ S:=λb f z=>by
  let(o,e,_):=h.e.own f;rw[h0 b z]at e;cases e
 let n0:∀b∈S,H0 b=Pp:=λb f=>by
  cases e:H0 b with
  |none=>rfl
  |some o=>show absurd (h0 b f) (h.e.live b (by rw[e];simp))
 let L:Lay M H0 (aw σ env ts) H (aw σ env ts++[(Po v,Sl.tr S d)]) H' (λY=>False):=(λb o Y e=>k b o e,λY z=>z.elim,λb f=>by
  rw[oe]at f;show(K2.mp f).imp id (h0 b))
 show h.withRes (h.e.remake L (λx s m=>?_) (by
  rw[oe];show K6.mpr (h.e.nd,i,λa p b f z=>j a p (z▸f)))) rfl
 rcases K2.mp m with m|m;show .inl (m,λY Y z=>z);rw[K7]at m;cases m;show .inr (.inr (.inr (.inr (v,S,d,rfl,rfl,ot.noFto (λb us r z=>?_) l,n0))));rcases z with z|z;show .inl z;rw[oe]at z;rcases K2.mp z with z|z;show absurd r (hs.e.noTup z us);show .inr (by rw[g];show z)
end
section
variable{X:Cx}{K:cp}{e:bi}
theorem zR(σ:St)(env:Pf):oas (σ.zip (env.map d7))=[]:=LZ.mpr λa z=>by
 cbv;let((x,s),b,c):=aL.mp z;rw[NY]at b;let((d,s'),_,e):=Lo.mp b;cases e
 w_up;show sG c
def x8(t:DE):DE:=λenv R=>t (env.map d7) λs a=>∃S d,s=.tr S d/\noF d=Pq/\a=env.map d7/\∀S',R (.tr S' d) env
theorem CZ{t:DE}(h:PE X e (up K t)):PE X e (up K (x8 t)):=h.imp λσ H Q h=>by
 let(M,P,H0,σ0,env,ts,R,a,f,g):=h;show(M,N0,H,σ,_,[],_,a.lentA,f,λs c v H1 h1 b=>?_);let(S,d,rfl,i,rfl,j):=h1;show g _ _ _ _ (j S) (a.unlentT b (zR σ env) i)
end
section
variable{X:Cx}{K:cp}{e:bi}{M P N:aG->Prop}{H0 H:Hp}{E T:O9}{σ0 σ:St}{env:Pf}{ts:O0}{v:V}
theorem OT.pairI{S:Pg}{a d1:av}(h:OT K N H v (.tuple [a,d1]) S):∃t u0 b c S1,v=.ref t/\SnT K N H t [u0,b]/\S=c++S1/\OT K N H u0 a c/\OT K N H b d1 S1:=by
 cases h with
 |tup d q =>
  cases q with
  |cons h1 q =>
   cases q with
   |cons h2 q =>
    cases q;show(_,_,_,_,_,rfl,d,!1,h1,h2)
theorem aS.tupN{p:aG}{us:Pl}{ds:Pe}{S:Pg}(h:aS K M P H0 (E++T) H)(d:H p=Pp)(ho:oas T=S)(h0:∀a∈S,H0 a=Pp)(f:OTs K (Nw M (E++T)) H us ds S):aS K M P H0 (E++[(Po (.ref p),.tr S (.tuple ds))]) (upd H p (.tup us)):=by
 let oe:oas (E++[(Po (.ref p),Sl.tr S (.tuple ds))])=oas E++S:=by rw[ac,ad,am];simp[oas]
 let c:oas (E++T)=oas E++S:=by rw[ac,ho]
 let g:aA H (upd H p (.tup us)):=aA.new d;let L:Lay M H0 (E++T) H (E++[(Po (.ref p),Sl.tr S (.tuple ds))]) (upd H p (.tup us)) (λY=>False):=(λb o Y e=>g b o e,λY z=>z.elim,λb i=>.inl (by rw[c,<-oe];show i))
 let j:¬Nw M (E++[(Po (.ref p),Sl.tr S (.tuple ds))]) p:=λz=>by
  rcases z with z|z;show h.live p (h.mt p z) d;rw[oe,<-c]at z;let(o,e,_):=h.own z;rw[d]at e;cases e
 show h.remake L (λx s m=>?_) (by rw[oe,<-c];show h.nd);rcases K2.mp m with m|m;show .inl (K1 _ m,λY Y z=>z);rw[K7]at m;cases m;show .inr (.inr (.inr (.inr (_,_,_,rfl,rfl,.tup (SnT.of aq j) (L.ots f λY Y z=>z),h0))))
def EK(i j k:Nat):DE:=λenv R=>∃n S a d1 c b,env[i]?=Po (.fr (.int n))/\env[j]?=Po (.tr S (.tuple [a,d1]))/\env[k]?=Po (.tr c b)/\j≠k/\∀S',R (.tr S' (.tuple [.int n,a,d1,b])) ((env.set j .un).set k .un)
theorem F8(i j k:Nat)(h:PE X e (Cn (bv (d5 i) (bv (tI2 K j 0) (bv (tI2 K j 1) (bv (d5 k) iQ)))))):PE X e (up K (EK i j k)):=h.imp λσ H Q h=>by
 cbv;let(M,P,H0,σ0,env,ts,R,b,(n,S,f,d1,c,d,e1,e2,e3,m,B),C):=h;let(x1,D,m1):=b.slot e1;let(E,o,q):=b.e.fr _ _ m1;subst o
 w_up;obtain rfl:E=.int n:=by cases q;rfl
 let(r,y,F):=b.move e2 rfl;let s:(env.set j .un)[k]?=Po (.tr c d):=by rw[Lj m];show e3
 cbv;let(g,G,z):=F.move s rfl;let I:aw σ ((env.set j .un).set k .un) ((ts++[(r,Sl.tr S (.tuple [f,d1]))])++[(g,Sl.tr c d)])=aw σ ((env.set j .un).set k .un) ts++[(Po r,Sl.tr S (.tuple [f,d1])),(Po g,Sl.tr c d)]:=by rw[au,au];simp[tmp]
 let l:=z.e;rw[I]at l;let(W,u,v,h2):=l.tr (Po r) S (.tuple [f,d1]) (K0 _ K3);cases u;let(Y,w,x,J):=l.tr (Po g) c d (K0 _ (K5 _ K3));cases w;let(t,u0,L,N,S1,rfl,A,rfl,O,T):=v.pairI
 w_up;show(.int n,D,_,y,.inr (t,_,0,u0,rfl,rfl,A.sq,rfl,_,y,.inr (t,_,1,L,rfl,rfl,A.sq,rfl,g,G,Ld (show 4<=1000000 by decide) ar,λp U=>?_)));show C _ _ _ _ (B ((N++S1)++c)) (z.drop.drop.withRes (l.tupN (ds:=[.int n,f,d1,d]) U (by simp[ad,am,oas]) (λa V=>(K2.mp V).elim (h2 a) (J a)) ?_) rfl);let:=OTs.cons (OT.int n) (OTs.cons O (OTs.cons T (OTs.cons x OTs.nil)));simpa using this
end
abbrev rwT(rows:OQ):Pe:=rows.map λr=>eg (r.map .int)
def gx(H:Hp):Pl->OQ->Pg->Prop
 |[],[],[]=>True
 |v::vs,r::rs,b::bs=>v=.ref b/\H b=Po (.lst (r.map V.int))/\gx H vs rs bs
 |_,_,_=>False
section
variable{K:cp}{N:aG->Prop}{H:Hp}{v:V}
theorem OTs.intsI:∀{vs:Pl}{r:O7}{S:Pg},OTs K N H vs (r.map .int) S->vs=r.map V.int/\S=[]
 |_,[],_,h=>by cases h;show(rfl,rfl)
 |_,i::r,_,h=>by
  rw[Le]at h;cases h with
  |cons h1 h2 =>
   cbv;let(rfl,rfl):=OTs.intsI h2;cases h1
   w_up;show(rfl,rfl)
theorem OTs.rowsAt:∀{vs:Pl}{rows:OQ}{S:Pg},OTs K N H vs (rwT rows) S->gx H vs rows S
 |_,[],_,h=>by cases h;show trivial
 |_,r::rows,_,h=>by
  change OTs K N H _ (eg (r.map .int)::rwT rows) _ at h;cases h with
  |cons h1 h2 =>
   let(a,us,S',rfl,rfl,b,q):=h1.listI;let(rfl,rfl):=q.intsI;show(rfl,b,h2.rowsAt)
theorem gx.len:∀{vs:Pl}{rows:OQ}{bs:Pg},gx H vs rows bs->-vs=-rows
 |[],[],[],_=>rfl
 |_::_,_::_,_::_,h=>by rw[Lu,Lu,h.2.2.len]
theorem gx.get:∀{vs:Pl}{rows:OQ}{bs:Pg}{i:Nat}{v:V},gx H vs rows bs->vs[i]?=Po v->∃r b,rows[i]?=Po r/\b∈bs/\v=.ref b/\H b=Po (.lst (r.map V.int))
 |[],[],[],i,v,_,e=>by simp at e
 |_::_,r::_,b::_,0,v,h,e=>by
  simp at e;subst e;show(r,b,rfl,!1,h.1,h.2.1)
 |_::_,_::_,_::_,i+1,v,h,e=>by
  let(r,b,h1,h2,a):=h.2.2.get (i:=i) (by simpa using e);show(r,b,by simpa using h1,by simp[h2],a)
theorem gx.at:∀{vs:Pl}{rows:OQ}{bs:Pg}{i:Nat}{v:V},gx H vs rows bs->vs[i]?=Po v->∃r b,rows[i]?=Po r/\bs[i]?=Po b/\v=.ref b/\H b=Po (.lst (r.map V.int))
 |[],[],[],i,v,_,e=>by simp at e
 |_::_,r::_,b::_,0,v,h,e=>by
  simp at e;subst e;show(r,b,rfl,rfl,h.1,h.2.1)
 |_::_,_::_,_::_,i+1,v,h,e=>by
  let(r,b,h1,h2,a):=h.2.2.at (i:=i) (by simpa using e)
  show(r,b,by simpa using h1,by simpa using h2,a)
end
theorem OTs.ofInts{K:cp}{N:aG->Prop}{H:Hp}:∀r:O7,OTs K N H (r.map V.int) (r.map .int) []
 |[]=>.nil
 |i::r=>by
  let:=OTs.cons (OT.int (K:=K) (N:=N) (H:=H) i) (OTs.ofInts r);simpa using this
def HH(K:cp)(ok e:O7->O7->Prop)(f:O7->O7->av->Prop):Sp:=λvs H Q Y=>∃(M:aG->Prop) (a:aG) (us:Pl) (rows:OQ) (bs:Pg) (hv:V) (o:O7),vs=[.ref a,hv]/\(∀b,M b->H b≠Pp)/\H a=Po (.lst us)/\(∀b∈bs,¬M b)/\gx H us rows bs/\DN K M H hv (.list (o.map .int))/\(∀t∈rows,ok t o) /\
 ((∀t∈rows,e t o)->∀H',aA H H'->Q .non H') /\
 ∀(i:Nat) t b d,rows[i]?=Po t->b∈bs->H b=Po (.lst (t.map V.int))->(∀(j:Nat) u,j<i->rows[j]?=Po u->e u o)->f t o d->noF d=Pq->∀H' p v S,aA H H'->H p=Pp->H' p=Po (.tup [.ref b,v])->OT K (λc=>M c\/c∈S) H' v d S->(∀c∈S,H c=Pp)->S.Nodup->Q (.ref p) H'
section
variable{X:Cx}{K:cp}
def EE(i h:Nat)(ok a:O7->O7->Prop)(b:O7->O7->av->Prop):DE:=λenv R=>∃S rows o,env[i]?=Po (.tr S (.list (rwT rows)))/\env[h]?=Po (.fr (.list (o.map .int)))/\(∀t∈rows,ok t o)/\((∀t∈rows,a t o)->R (.fr .none) env) /\
 ∀(k:Nat) t d,rows[k]?=Po t->(∀(j:Nat) u,j<k->rows[j]?=Po u->a u o)->b t o d->noF d=Pq->∀S',R (.tr S' (.tuple [.list (t.map .int),d])) (env.set i .un)
theorem Bf(i h:Nat){x:ck}{p pos:Pos}{e1 e2:bi}{k:Nat}{ok y:O7->O7->Prop}{l:O7->O7->av->Prop}(hK:X.K=K)(G:Cal X.prog X.w X.K X.mg X.base x k (HH X.K ok y l))(hr:bW k X.A)(hg:Gl X x)(ha:PA X [e1,e2] (bv (d5 i) (bv (d5 h) iQ)))(hd:(x==("__debug__" : ck))=false⊕'Pu)
  (he:kh [e1,e2] X.env=(false,eval e1 X.env)::kh [e2] X.env⊕'Pt) (U:(qr pos (kh [e2] X.env)).any (·.1)=false⊕'Pt) :
  PE X (.Call (.Name x p) [e1,e2] [] pos) (up K (EE i h ok y l)):=by
 subst hK;show(dj G hr hg ha hd he U).imp λσ H Q h=>?_
 cbv;let(M,P,H0,σ0,env,ts,R,f,(S,rows,o,e1,e2,hok,hn,hf),hq):=h;let(x2,f2,m2):=f.slot e2;let(hv,W,Y):=f.e.fr _ _ m2;subst W;let(Z,f1,r1):=f.move e1 rfl
 w_up;let en:aw σ (env.set i .un) (ts++[(Z,Sl.tr S (.list (rwT rows)))])=aw σ (env.set i .un) ts++[(Po Z,Sl.tr S (.list (rwT rows)))]:=by rw[au];rfl
 let C:=r1.e;rw[en]at C
 cbv;let(w,ew,ot,h0):=C.tr (Po Z) S _ (K0 _ K3);cases ew;let(a,us,bs,rfl,rfl,hA,q):=ot.listI;let ra:=q.rowsAt;let oe:oas (aw σ (env.set i .un) ts++[(Po (V.ref a),Sl.tr (a::bs) (.list (rwT rows)))])=oas (aw σ (env.set i .un) ts)++(a::bs):=by rw[ac,ad,am];simp[oas]
 let nd:=C.nd;rw[oe]at nd;let(n1,n2,n3):=K6.mp nd
 w_up;let live:∀b∈oas (aw σ (env.set i .un) ts)++(a::bs),H b≠Pp:=λb g z=>by
  rw[<-oe]at g;let(o',e,_):=C.own g;rw[z]at e;cases e
 let D:∀b,b∈oas (aw σ (env.set i .un) ts)->b∈oas (aw σ env ts):=λb g=>by
  let(x,A,B,_,q1,q2):=f.split e1;rw[q2,ac,ad,bP]at g;rw[q1,ac,ad];rcases K2.mp g with g|g;show K1 _ g;show K0 _ (K0 _ g)
 show(.ref a,f1,hv,f2,λb=>(M b\/b∈oas (aw σ (env.set i .un) ts)),a,us,rows,bs,hv,o,rfl,λb z=>?_,hA,λb g z=>?_,ra,?_,hok,λg H' E=>?_,?_);rcases z with z|z;show f.e.live b (f.e.mt b z);show live b (K1 _ z);rcases z with z|z;show f.e.mt b z (h0 b (by simp[g]));show n3 b z b (by simp[g]) rfl;show Y.to λb _ _ z=>z.imp id (D b);show hq _ _ _ _ (hn g) ((f.same E).addFr .non);intro k t b d ht mb g F n I H' p v S2 E O J N T a0;let j:oas (aw σ (env.set i .un) ts++[(Po (V.ref p),Sl.tr (b::S2) (.tuple [.list (t.map .int),d]))])=oas (aw σ (env.set i .un) ts)++(b::S2):=by rw[ac,ad,am];simp[oas]
 let L:Lay M H0 (aw σ (env.set i .un) ts++[(Po (V.ref a),Sl.tr (a::bs) (.list (rwT rows)))]) H (aw σ (env.set i .un) ts++[(Po (V.ref p),Sl.tr (b::S2) (.tuple [.list (t.map .int),d]))]) H' (λ_=>False):=(λc o _ e=>E c o e,λ_ z=>z.elim,λc hc=>by
  rw[j]at hc;rw[oe];rcases K2.mp hc with hc|hc;show .inl (K1 _ hc);rcases K9.mp hc with rfl|hc;show .inl (K0 _ (by simp[mb]));show .inr (T c hc))
 let n0:∀c∈b::S2,H0 c=Pp:=λc hc=>by
  rcases K9.mp hc with rfl|hc;show h0 c (by simp[mb]);cases e:H0 c with
  |none=>rfl
  |some o'=>show absurd (T c hc) (f.e.live c (by rw[e];simp))
 let np:¬Nw M (aw σ (env.set i .un) ts++[(Po (V.ref p),Sl.tr (b::S2) (.tuple [.list (t.map .int),d]))]) p:=λz=>by
  rcases z with z|z;show f.e.live p (f.e.mt p z) O;rw[j]at z;rcases K2.mp z with z|z;show live p (K1 _ z) O;rcases K9.mp z with rfl|z;rw[g]at O;cases O;show N.lst1 p z [.ref b,v] (.inl J)
 show hq _ _ _ _ (hf k t d ht F n I (b::S2)) (r1.drop.withRes (C.remake L (λx s m=>?_) (by
  rw[j];show K6.mpr (n1,Ll.mpr (λz=>?_,a0),λc hc c' u z=>?_);let:=T b z;rw[g]at this;cases this;subst z;rcases K9.mp u with rfl|u;show n3 c hc c (by simp[mb]) rfl;show live c (K1 _ hc) (T c u))) rfl)
 rcases K2.mp m with m|m;show .inl (K1 _ m,λ_ _ z=>z);rw[K7]at m;cases m;let o2:=N.noFto (M:=Nw M (aw σ (env.set i .un) ts++[(Po (V.ref p),Sl.tr (b::S2) (.tuple [.list (t.map .int),d]))])) (λc a4 r z=>by
  rcases z with z|z;show .inl (.inl z);rw[j]at z;rcases K2.mp z with z|z;show .inl (.inr z);rcases K9.mp z with rfl|z;let a3:=E _ _ g;rcases r with r|⟨o',r⟩ <;> rw[a3]at r <;> cases r
  show .inr z) I
 show .inr (.inr (.inr (.inr (_,_,_,rfl,rfl,?_,n0))));let q3:=OTs.cons (S:=[b]) (.lst (E _ _ g) (OTs.ofInts t)) (OTs.cons o2 OTs.nil);rw[Ls]at q3;show .tup (SnT.of J np) q3
end
section
variable{K:cp}
abbrev tFK(K:cp)(sp:DSp):TS:=Ig (J0 (D5 K (d5 0)) (jo 2) (Ig (E7 (jH (spD K sp) [] E0 (bv (Cn (bv (d5 2) (bv (d5 1) iQ))) iQ)) (jo 3))
 (JZ (vg (tOp (λx y H Q=>y=.non/\Q (.bl (!decide (x=.non))) H) (d5 3) (tC .non))) (Ih (Cn (bv (d5 2) (bv (d5 3) iQ)))) Fx))) (Ih (tC .non))
theorem G7{sp:DSp}{ok f:O7->O7->Prop}{g:O7->O7->av->Prop}
  (O:∀t o R,ok t o->(f t o->∀S,R (.tr S .none) [.un])->(∀S d,g t o d->noF d=true->d≠.none->R (.tr S d) [.un])->sp [.fr (.tuple [.list (t.map .int),.list (o.map .int)])] R)
  {vs:Pl}{H:Hp}{Q:VK}{E:XK} (h:HH K ok f g vs H Q E):tFK K sp { nx:=λ_ H'=>Q .non H',rt:=Q } (vs.map some++[none,none]) H:=by
 let(M,a,us,rows,bs,hv,o,rfl,hM,hA,P,ra,T,hok,qn,qf):=h;show(.ref a,rfl,a,rfl,(us,SqL.of hA),λj m σ H2=>m=-us-j/\j<=-us/\(∃x y,σ=[Po (.ref a),Po hv,x,y])/\aA H H2/\∀(i:Nat) u,i<j->rows[i]?=Po u->f u o,(_,rfl,Ln _,(Pp,Pp,rfl),λ_ _ e=>e,λi u hi=>absurd hi (My _)),?_);rintro j m σ H2 ⟨rfl,hj,⟨x,y,rfl⟩,n,k⟩;let q:=n _ _ hA;let lu:=ra.len;by_cases B:j< -us
 .show .inr ((us,us[j],SqL.of q,K8 B),λσ' H'=>(∃x y,σ'=[Po (.ref a),Po hv,x,y])/\aA H H'/\∀(i:Nat) u,i<j+1->rows[i]?=Po u->f u o,λσ' H' z=>(-us-(j+1),!0,rfl,B,z),λv H' yl=>?_);let(eh,ev):=yl;rw[eh];clear eh;let ev:=ev us (SqL.of q);let(t,b,C,mb,rfl,J):=ra.get ev;let U:=n _ _ J;show(.ref b,rfl,hv,rfl,Ld (show 2<=1000000 by decide) ar,λp W=>?_);let l:aA H2 (upd H2 p (.tup [.ref b,hv])):=aA.new W;let mt:∀c,M c->upd H2 p (.tup [.ref b,hv]) c≠Pp:=λc hc z=>by
   cases e:H c with
   |none=>show hM c hc e
   |some o'=>rw[l _ _ (n _ _ e)]at z;cases z
  let np:¬M p:=λz=>by
   cases e:H p with
   |none=>show hM p z e
   |some o'=>rw[n _ _ e]at W;cases W
  let X:DN K M (upd H2 p (.tup [.ref b,hv])) (.ref p) (.tuple [.list (t.map .int),.list (o.map .int)]):=by show .tup (SnT.of aq np) (.cons (.lst (SnL.of (l _ _ U) (P b mb)) ?_) (.cons (T.keep (aM.same λc o' e=>l _ _ (n c o' e))) .nil));let:=(OTs.ofInts (K:=K) (N:=M) (H:=upd H2 p (.tup [.ref b,hv])) t).dn (M:=M) (λ_ z=>z) (λc hc=>by cases hc);show this
  let oe:oas (tmp (([V.ref p]++[]).zip [Sl.fr (.tuple [.list (t.map .int),.list (o.map .int)])]))=[]:=by simp[oas,tmp,cn]
  let io:∀c,¬oV ([V.ref p]++[]) [Sl.fr (.tuple [.list (t.map .int),.list (o.map .int)])] c:=λc z=>by
   unfold oV at z;rw[oe]at z;cases z
  let nw:∀c,Nw M (tmp (([V.ref p]++[]).zip [Sl.fr (.tuple [.list (t.map .int),.list (o.map .int)])])) c->M c:=λc z=>z.elim id λz=>by rw[oe]at z;cases z
  let rE:aS K M (oV ([V.ref p]++[]) [Sl.fr (.tuple [.list (t.map .int),.list (o.map .int)])]) (upd H2 p (.tup [.ref b,hv])) (tmp (([V.ref p]++[]).zip [Sl.fr (.tuple [.list (t.map .int),.list (o.map .int)])])) (upd H2 p (.tup [.ref b,hv])):=by
   let one:∀x s,(x,s)∈tmp (([V.ref p]++[]).zip [Sl.fr (.tuple [.list (t.map .int),.list (o.map .int)])])->x=Po (.ref p)/\s=.fr (.tuple [.list (t.map .int),.list (o.map .int)]):=λx s m=>by simpa[tmp] using m
   show(aM.refl,λ_ z=>z,mt,λc z=>absurd z (io c),λx d m=>?_,λx ds m=>?_,λx ds m=>?_,λx S d m=>?_,by rw[oe];show LI)
   .cbv;let(rfl,e):=one _ _ m;cases e
    w_up;show(_,rfl,X.to λc _ _ z=>nw c z)
   cases (one _ _ m).2;cases (one _ _ m).2;cases (one _ _ m).2
  show(M,[.fr (.tuple [.list (t.map .int),.list (o.map .int)])],λr D=>D=[.un]/\((∃S,r=.tr S .none/\f t o)\/∃S d,r=.tr S d/\g t o d/\noF d=Pq/\d≠.none),rfl,rE,O t o _ (hok t (LF C)) (λJ S=>(rfl,.inl (S,rfl,J))) (λS d Y hn hd=>(rfl,.inr (S,d,rfl,Y,hn,hd))),λr D v H3 Z _ L=>?_);let s3:aA (upd H2 p (.tup [.ref b,hv])) H3:=λc o' e=>L.keep c o' (io c) e;let w:aA H H3:=λc o' e=>s3 _ _ (l _ _ (n c o' e));let(rfl,Z):=Z;rcases Z with⟨S,rfl,a0⟩|⟨S,d,rfl,Y,hn,hd⟩
  .cbv;let(v',A,ot,_):=L.tr (Po v) S .none (by simp[tmp]);cases A;cases ot
   w_up;show(.non,rfl,rfl,Pr,rfl,?_);show(if Pr=Pq then _ else _);rw[OH (!2)];show((_,_,rfl),w,λi u hi F=>?_);by_cases e:i<j;show k i u e F
   .let e:i=j:=!0
    cbv;subst e;rw[C]at F;cases F
    w_up;show a0
  .cbv;let(v',A,ot,hS):=L.tr (Po v) S d (by simp[tmp]);cases A
   w_up;let vn:¬v=.non:=λz=>by
    subst z;cases ot with
    |non=>show hd rfl
    |fz _=>simp[noF,fzD]at hn
   let G:oas (tmp ((v,Sl.tr S d)::([V.ref p]++[]).zip [Sl.un]))=S:=by show oas ((Po v,Sl.tr S d)::[(Po (V.ref p),Sl.un)])=S;rw[ad,am,ad,bP];simp[oas]
   let a3:S.Nodup:=by let:=L.nd;rwa [G]at this
   show(v,rfl,rfl,Pq,by simp[vn],?_);show(if Pq=Pq then _ else _);rw[OG rfl];show(.ref b,rfl,v,rfl,Ld (show 2<=1000000 by decide) ar,λp2 I=>?_);let s4:aA H3 (upd H3 p2 (.tup [.ref b,v])):=aA.new I;let a4:∀c,H3 c=Pp->H c=Pp:=λc e=>by
    cases e2:H c with
    |none=>rfl
    |some o'=>rw[w _ _ e2]at e;cases e
   show qf j t b d C mb J (λi u hi F=>k i u hi F) Y hn _ p2 v S (λc o' e=>s4 _ _ (w c o' e)) (a4 p2 I) aq ?_ (λc hc=>?_) a3;let o2:=ot.keep (aM.same s4) λc hc=>by
    let(o',e):=ot.lives c hc;rw[e,s4 _ _ e]
   show o2.to λc _ _ z=>z.imp id λz=>by rw[G];show z
   let:=hS c hc;cases e2:H c with
   |none=>rfl
   |some o'=>rw[l _ _ (n _ _ e2)]at this;cases this
 show .inl ((us,SqL.of q,!0),?_);let e:j=-us:=!0
 subst e;show qn (λt C=>by
  let(i,hi,rfl):=LC C;show k i _ (!0) (K8 hi)) H2 n
end
section
variable{K:cp}
theorem JO{sp:DSp}{σ:St}{H2:Hp}{i j:Nat}{b:aG}{hv:V}{t o:O7}{M:aG->Prop}{Q:VK}{R0:Sl->Prop}(hi:σ[i]?=Po (Po (.ref b)))(hj:σ[j]?=Po (Po hv))(hM:∀c,M c->H2 c≠Pp)(u:H2 b=Po (.lst (t.map V.int)))(w:¬M b)
  (h:DN K M H2 hv (.list (o.map .int))) (k:∀R,(∀r,R0 r->R r [.un])->sp [.fr (.tuple [.list (t.map .int),.list (o.map .int)])] R)
  (y:∀p r v H3,H2 p=Pp->R0 r->aA H2 H3->aS K M (λY=>False) (upd H2 p (.tup [.ref b,hv])) [(Po v,r),(Po (.ref p),.un)] H3->Q v H3) :
  jH (spD K sp) [] E0 (bv (Cn (bv (d5 i) (bv (d5 j) iQ))) iQ) σ H2 Q:=by
 show(.ref b,hi,hv,hj,Ld (show 2<=1000000 by decide) ar,λp l=>?_);let a:aA H2 (upd H2 p (.tup [.ref b,hv])):=aA.new l;let n:DN K M (upd H2 p (.tup [.ref b,hv])) (.ref p) (.tuple [.list (t.map .int),.list (o.map .int)]) :=
  .tup (SnT.of aq λz=>hM p z l) (.cons (.lst (SnL.of (a _ _ u) w) ((OTs.ofInts (N:=M) t).dn (λY z=>z) λc hc=>by cases hc)) (.cons (h.keep (aM.same a)) .nil))
 let oe:oas (tmp (([V.ref p]++[]).zip [Sl.fr (.tuple [.list (t.map .int),.list (o.map .int)])]))=[]:=by simp[oas,tmp,cn]
 let io:oV ([V.ref p]++[]) [Sl.fr (.tuple [.list (t.map .int),.list (o.map .int)])]=λY=>False:=by funext c;unfold oV;rw[oe];simp
 let nw:∀c,Nw M (tmp (([V.ref p]++[]).zip [Sl.fr (.tuple [.list (t.map .int),.list (o.map .int)])])) c->M c:=λc z=>z.elim id λz=>by rw[oe]at z;cases z
 let one:∀x s,(x,s)∈tmp (([V.ref p]++[]).zip [Sl.fr (.tuple [.list (t.map .int),.list (o.map .int)])])->x=Po (.ref p)/\s=.fr (.tuple [.list (t.map .int),.list (o.map .int)]):=λx s m=>by simpa[tmp] using m
 show(M,[.fr (.tuple [.list (t.map .int),.list (o.map .int)])],λr f=>f=[.un]/\R0 r,rfl,?_,k _ λr g=>(rfl,g),λr f v H3 g Y q=>?_)
 .rw[io];show(aM.refl,λY z=>z,λc z e=>?_,λc z=>z.elim,λx d m=>?_,λx ds m=>?_,λx ds m=>?_,λx S d m=>?_,by rw[oe];show LI);cases e2:H2 c with
  |none=>show hM c z e2
  |some o'=>rw[a _ _ e2]at e;cases e
  .cbv;let(rfl,e):=one _ _ m;cases e
   w_up;show(_,rfl,n.to λc Y Y z=>nw c z)
  cases (one _ _ m).2;cases (one _ _ m).2;cases (one _ _ m).2
 let(rfl,g):=g;rw[io]at q;show y p r v H3 l g (λc o' e=>q.keep c o' (λz=>z) (a _ _ e)) q
end
section
variable{X:Cx}{K:cp}{pos:Pos}
mutual
theorem GF:∀d:av,noL d=Pq->noF d=Pq
 |.none,_=>rfl
 |.bool _,_=>rfl
 |.int _,_=>rfl
 |.str _,_=>rfl
 |.tuple ds,h=>by
  rw[noF];show pW ds (by simpa[noL] using h)
 |.list _,h=>by simp[noL]at h
 |.dict _,h=>by simp[noL]at h
theorem pW:∀ds:Pe,gP ds=Pq->iC ds=Pq
 |[],_=>rfl
 |d::ds,h=>by
  let h:(noL d&&gP ds)=Pq:=by simpa[gP] using h
  let(h1,h2):=LK.mp h;rw[iC,GF d h1,pW ds h2];rfl
end
theorem bC:∀t:O7,iC (t.map .int)=Pq
 |[]=>rfl
 |i::t=>by
  show(noF (.int i)&&iC (t.map .int))=Pq;rw[bC t];rfl
theorem uZ{f:O7->av->av}{x:av}{t:O7}:∀{rows:OQ}{ps:Pe},rows[ps.length]?=Po t->Nl f rows (ps++[x])=Nl f rows ps++[f t x]
 |[],ps,h=>by simp at h
 |r::rows,[],h=>by
  simp at h;subst h;simp
 |r::rows,p::ps,h=>by
  let:=uZ (f:=f) (x:=x) (rows:=rows) (ps:=ps) (by simpa using h);simp[this]
abbrev prD(rows:OQ)(ps:Pe):Pe:=Nl (λt d=>Op [.list (t.map .int),d]) rows ps
def JA(k h i:Nat)(ok:O7->O7->Prop)(a:O7->O7->av->Prop):DS:=λDD env=>∃S rows o,env[k]?=Po (.tr S (.list (rwT rows)))/\env[h]?=Po (.fr (.list (o.map .int)))/\i< -env/\rows.length<=1000000/\(∀t∈rows,ok t o) /\
 ∀S' ps,-ps=-rows->(∀(j:Nat) t,rows[j]?=Po t->a t o (ps.getD j .none))->DD.nx ((env.set k .un).set i (.tr S' (.list (prD rows ps))))
theorem sx:∀(rows:OQ) (ps:Pe),(∀d∈ps,noF d=Pq)->iC (prD rows ps)=Pq
 |[],_,_=>rfl
 |_::_,[],_=>rfl
 |r::rows,p::ps,h=>by
  show(noF (.tuple [.list (r.map .int),p])&&iC (prD rows ps))=Pq;rw[sx rows ps λd hd=>h d (by simp[hd])];show((iC (r.map .int)&&(noF p&&Pq))&&Pq)=Pq;rw[bC,h p (!1)];rfl
theorem vR{sc}(k h:Nat){i:Nat}{x z r y:ck}{sp:DSp}{ok:O7->O7->Prop}{gd:O7->O7->av->Prop}{elt:bi}{Q pr py J:Pos}(hN:X.N.Nodup)(hK:X.K=K)(hk:X.N[k]?=some r)(c5:Vis X.env.scope r)(c6:X.N[i]?=some y)(hy:X.env.scope.names.lookup y=some .local)(hc:X.calm=true)(S:bX X.N X.env [x,z] [none,some h] sc)
  (c7:∀t o R,ok t o->(∀l,gd t o (.list l)->gP l=true->R (.ow l) [.un])->sp [.fr (.tuple [.list (t.map .int),.list (o.map .int)])] R)
  (hg:∀s H C fp,PG (bCx X [x,z] sc s H C fp) (.Name x Q) (jo 0)) (f:∀s H C fp,PE (bCx X [x,z] sc s H C fp) elt (Cn (bv (d5 0) (bv (jH (spD X.K sp) [] E0 (bv (Cn (bv (d5 0) (bv (d5 1) iQ))) iQ)) iQ))))
  (c8:(r==("__debug__" : ck))=false⊕'Pu) (c9:(r==("__classdict__" : ck))=false⊕'Pu)
  (d0:Qv (.ListComp elt [(.Name x Q,.Name r pr,[],0)] sc pos) (some (.Name y py)) J.line X.env=pure true⊕'Pt)
  (hs:(∀x,q4 (.Name r pr) X.env x=pure x)⊕'Pv):PS X (.Assign [.Name y py] (.ListComp elt [(.Name x Q,.Name r pr,[],0)] sc pos) J) (upS K (JA k h i ok gd)):=by
 subst hK;show(dg hN c6 hy hc S (gM (ah hk c5 c8 c9)) hg (λ_ _ _ _=>pJ) f d0 hs).imp λD σ H h1=>?_
 cbv;let(M,P,H0,σ0,env,ts,DD,nv,g,(S,rows,o,e1,e2,hi,hz,hok,hR),d6):=h1;let(x2,f2,m2):=g.slot e2;let(hv,e0,e9):=g.e.fr _ _ m2;subst e0;let(v1,f1,r1):=g.move e1 rfl
 w_up;let en:aw σ (env.set k .un) (ts++[(v1,Sl.tr S (.list (rwT rows)))])=aw σ (env.set k .un) ts++[(Po v1,Sl.tr S (.list (rwT rows)))]:=by rw[au];rfl
 let hE:=r1.e;rw[en]at hE
 cbv;let(w,ew,ot,h0):=hE.tr (Po v1) S _ (K0 _ K3);cases ew;let(a,us,bs,rfl,rfl,hA,q):=ot.listI;let ra:=q.rowsAt;let lu:=ra.len;let oe:oas (aw σ (env.set k .un) ts++[(Po (V.ref a),Sl.tr (a::bs) (.list (rwT rows)))])=oas (aw σ (env.set k .un) ts)++(a::bs):=by rw[ac,ad,am];simp[oas]
 let nd:=hE.nd;rw[oe]at nd;let(n1,n2,n3):=K6.mp nd
 w_up;let live:∀b∈oas (aw σ (env.set k .un) ts)++(a::bs),H b≠Pp:=λb n z=>by
  rw[<-oe]at n;let(o',e,_):=hE.own n;rw[z]at e;cases e
 let a7:∀b,b∈oas (aw σ (env.set k .un) ts)->b∈oas (aw σ env ts):=λb n=>by
  let(x,A,B,_,q1,q2):=g.split e1;rw[q2,ac,ad,bP]at n;rw[q1,ac,ad];rcases K2.mp n with n|n;show K1 _ n;show K0 _ (K0 _ n)
 let f0:∀c,(M c\/c∈oas (aw σ (env.set k .un) ts))->H c≠Pp:=λc z=>z.elim (λz=>g.e.live c (g.e.mt c z)) λz=>live c (K1 _ z);let nb:∀b∈bs,¬(M b\/b∈oas (aw σ (env.set k .un) ts)):=λb n z=>z.elim (λz=>g.e.mt b z (h0 b (by simp[n]))) λz=>n3 b z b (by simp[n]) rfl;show(.ref a,f1,a,rfl,(us,SqL.of hA),λj m ys H2=>m=-rows-j/\j<=-rows/\aA H H2/\∃ps T,-ps=j/\(∀d∈ps,noF d=Pq)/\(∀(i:Nat) t,i<j->rows[i]?=Po t->gd t o (ps.getD i .none))/\OTs X.K (λc=>M c\/c∈oas (aw σ (env.set k .un) ts)) H2 ys (prD rows ps) T/\T.Nodup/\∀c∈T,c∈bs.take j\/H c=Pp,(_,rfl,Ln _,λ_ _ e=>e,[],[],rfl,(λd hd=>by cases hd),λi t hi=>absurd hi (My _),by simp[prD];show .nil,LI,λc hc=>by cases hc),?_);rintro j m ys H2 ⟨rfl,hj,O,ps,T,E,b0,b3,U,b4,hT⟩;let Y:=O _ _ hA;let b5:∀c,(M c\/c∈oas (aw σ (env.set k .un) ts))->H2 c≠Pp:=λc z e=>by
  cases e2:H c with
  |none=>show f0 c z e2
  |some o'=>rw[O _ _ e2]at e;cases e
 let f3:DN X.K (λc=>M c\/c∈oas (aw σ (env.set k .un) ts)) H2 hv (.list (o.map .int)):=(e9.to λb _ _ z=>z.imp id (a7 b)).keep (aM.same O);by_cases b6:j< -rows
 .let f4:j< -us:=!0
  show .inr ((us,us[j],SqL.of Y,K8 f4),?_,λc3 H'=>aA H H'/\∃ps T,-ps=j+1/\(∀d∈ps,noF d=Pq)/\(∀(i:Nat) t,i<j+1->rows[i]?=Po t->gd t o (ps.getD i .none))/\OTs X.K (λc=>M c\/c∈oas (aw σ (env.set k .un) ts)) H' c3 (prD rows ps) T/\T.Nodup/\∀c∈T,c∈bs.take (j+1)\/H c=Pp,λc3 H' z=>(-rows-(j+1),!0,rfl,b6,z),λx H' yl=>?_);rw[U.len];let:(prD rows ps).length<=j:=by simp[prD];lia
  show LW this (Lg b6 (Ld hz ar));let(eh,ex):=yl;rw[eh];clear eh;let ex:=ex us (SqL.of Y);let(t,b,ht,mb,rfl,n):=ra.at ex;let F:=O _ _ n;let f5:b∈bs:=LF mb;let f6:(fR σ [Pp,Po h]).set 0 (Po (.ref b))=[Po (.ref b),Po hv]:=by simp[fR,f2]
  unfold jo JY;dsimp only;rw[OG rfl,f6];show(.ref b,rfl,JO (t:=t) (o:=o) (M:=λc=>M c\/c∈oas (aw σ (env.set k .un) ts)) (R0:=λr=>∃l,r=.ow l/\gd t o (.list l)/\gP l=Pq) rfl rfl b5 F (nb b f5) f3 (λR hR=>c7 t o R (hok t (LF ht)) λl h1 h2=>hR _ (l,rfl,h1,h2)) λp r v H3 hp hr Z r3=>?_)
  cbv;let(l,rfl,f7,hn):=hr;let(c,ws,ev,g0,dl,c0):=r3.ow (Po v) l (!1);cases ev
  w_up;show(Ld (show 2<=1000000 by decide) ar,λp2 a0=>?_);let g1:aA H H3:=λc o' e=>Z _ _ (O c o' e);let G:aA H3 (upd H3 p2 (.tup [.ref b,.ref c])):=aA.new a0;let a3:aA H2 (upd H3 p2 (.tup [.ref b,.ref c])):=λc o' e=>G _ _ (Z _ _ e);let c2:H2 c=Pp:=by
   cases e2:H2 c with
   |none=>rfl
   |some o' =>
    let ne:c≠p:=λz=>by rw[z,hp]at e2;cases e2
    rw[ao ne,e2]at c0;cases c0
  let nM:∀e,H2 e=Pp->¬(M e\/e∈oas (aw σ (env.set k .un) ts)):=λe z w=>b5 e w z;let g2:H2 p2=Pp:=by
   cases e2:H2 p2 with
   |none=>rfl
   |some o'=>rw[Z _ _ e2]at a0;cases a0
  let g3:OTs X.K (λc=>M c\/c∈oas (aw σ (env.set k .un) ts)) (upd H3 p2 (.tup [.ref b,.ref c])) ws l []:=((dl.to λe _ _ z=>(.inl z)).ots hn).keep (aM.same G) λe f=>by cases f
  let new:OT X.K (λc=>M c\/c∈oas (aw σ (env.set k .un) ts)) (upd H3 p2 (.tup [.ref b,.ref c])) (.ref p2) (.tuple [.list (t.map .int),.list l]) [b,c] :=
   .tup (SnT.of aq (nM p2 g2)) (OTs.cons (S:=[b]) (S':=[c]) (.lst (a3 _ _ F) (OTs.ofInts t)) (OTs.cons (S:=[c]) (S':=[]) (.lst (G _ _ g0) g3) .nil))
  let g4:=U.keep (aM.same a3) λe f=>by
   let(o',z):=U.lives e f;rw[z,a3 _ _ z]
  let key:prD rows (ps++[.list l])=prD rows ps++[.tuple [.list (t.map .int),.list l]]:=uZ (by rw[E];show ht);show(λe o' z=>G _ _ (g1 e o' z),ps++[.list l],T++[b,c],by simp[E],λd hd=>?_,λi t' hi u=>?_,?_,?_,?_);rcases K2.mp hd with hd|hd;show b0 d hd;rw[K7.mp hd,noF];show pW l hn
  .by_cases e:i<j;let:=b3 i t' e u;rwa [show(ps++[eg l]).getD i .none=ps.getD i .none by rw[Lb,Lb,L1 (!0)]]
   .let e:i=j:=!0
    cbv;subst e;rw[ht]at u;cases u
    w_up;rw[show(ps++[eg l]).getD i .none=.list l by rw[Lb,L8 (!0),E];simp];show f7
  rw[key];show g4.app (OTs.cons (S:=[b,c]) (S':=[]) new .nil);show K6.mpr (b4,?_,λe f e' a4 z=>?_);show Ll.mpr (λz=>?_,Ll.mpr (!1,LI));rw[K7.mp z,c2]at F;cases F;subst z;rcases K9.mp a4 with rfl|a4;rcases hT e f with h|h;let(i,hi,e1):=LC h;let g9:i<j:=by rw[MC]at hi;lia
  let c4:i< -bs:=by rw[MC]at hi;lia
  rw[N6]at e1;let:=(N7 c4 (Ll.mp n2).2).mp (show bs[i]?=bs[j]? by rw[mb,K8 c4,e1]);lia;rw[n]at h;cases h;rw[K7.mp a4]at f;let(o',w):=U.lives c f;rw[c2]at w;cases w;intro e f;rcases K2.mp f with f|f;show(hT e f).imp (λz=>by
   rw[Mz];show K1 _ z) id
  rcases K9.mp f with rfl|f;show .inl ?_;rw[Mz,mb];simp;rw[K7.mp f];show .inr ?_;cases e2:H c with
  |none=>rfl
  |some o'=>rw[O _ _ e2]at c2;cases c2
 let ej:j=-rows:=!0
 subst ej;show .inl ((us,SqL.of Y,!0),λpn I=>?_);let s4:aA H2 (upd H2 pn (.lst ys)):=aA.new I;let a5:H pn=Pp:=by
  cases e2:H pn with
  |none=>rfl
  |some o'=>rw[O _ _ e2]at I;cases I
 let W:OT X.K (λc=>M c\/c∈oas (aw σ (env.set k .un) ts)) (upd H2 pn (.lst ys)) (.ref pn) (.list (prD rows ps)) (pn::T):=.lst aq (U.keep (aM.same s4) λe f=>by
  let(o',z):=U.lives e f;rw[z,s4 _ _ z])
 let a6:oas (aw σ (env.set k .un) ts++[(Po (V.ref pn),Sl.tr (pn::T) (.list (prD rows ps)))])=oas (aw σ (env.set k .un) ts)++(pn::T):=by rw[ac,ad,am];simp[oas]
 let L:Lay M H0 (aw σ (env.set k .un) ts++[(Po (V.ref a),Sl.tr (a::bs) (.list (rwT rows)))]) H (aw σ (env.set k .un) ts++[(Po (V.ref pn),Sl.tr (pn::T) (.list (prD rows ps)))]) (upd H2 pn (.lst ys)) (λ_=>False):=(λc o' _ e=>s4 _ _ (O c o' e),λ_ z=>z.elim,λc hc=>by
  rw[a6]at hc;rw[oe];rcases K2.mp hc with hc|hc;show .inl (K1 _ hc);rcases K9.mp hc with rfl|hc;show .inr a5;show(hT c hc).imp (λz=>K0 _ (K5 _ (t7 z))) id)
 let n0:∀c∈pn::T,H0 c=Pp:=λc hc=>by
  let fresh:H c=Pp->H0 c=Pp:=λz=>by
   cases e:H0 c with
   |none=>rfl
   |some o'=>show absurd z (g.e.live c (by rw[e];simp))
  rcases K9.mp hc with rfl|hc;show fresh a5;rcases hT c hc with z|z;show h0 c (K5 _ (t7 z));show fresh z
 let g5:∀c∈oas (aw σ (env.set k .un) ts),c ∉ pn::T:=λc hc z=>by
  rcases K9.mp z with rfl|z;show live c (K1 _ hc) a5;rcases hT c z with z|z;show n3 c hc c (K5 _ (t7 z)) rfl;show live c (K1 _ hc) z
 let g6:(pn::T).Nodup:=by show Ll.mpr (λz=>?_,b4);let(o',w):=U.lives pn z;rw[I]at w;cases w
 let r2:=r1.drop.withRes (hE.remake L (λx s m=>by
  rcases K2.mp m with m|m;show .inl (K1 _ m,λ_ _ z=>z);rw[K7]at m;cases m;show .inr (.inr (.inr (.inr (_,_,_,rfl,rfl,W.noFto (λc g7 rd z=>?_) (by rw[noF];show sx rows ps b0),n0))));rcases z with z|z;show .inl z;rw[a6]at z;rcases K2.mp z with z|z;show .inr z;show absurd rd (W.lst1 c z g7)) (by
  rw[a6];show K6.mpr (n1,g6,λc hc c' g8 z=>g5 c hc (z▸g8)))) rfl
 show d6.nx _ _ _ (hR _ ps E λi t u=>b3 i t (Lc.mp u).1 u) (r2.store nv (by rw[LL];show hi) rfl)
end
section
variable{prog:ky}{w:kD}{A:Around}{E:ba->bb->Prop}{s:bb}{d:aG}{o:Obj}{es:Array DictEntry}{ep:Nat}
theorem tZ(k:A.handled=Pp)(I d:aG)(g:d≠I)(es:Array DictEntry)(ep:Nat) :
  Walks prog w A I [I,d] [I] es.size (λi v=>∃h:i<es.size,v=es[i].key) (λi h=>h.IsKeyIter I d i es.size ep/\∃od,h.get? d=Po od/\od.data=.dict es ep) where
 sub:=λb a=>by simp at a;simp[a]
 frame:=λY Y Y st hk=>(st.1.at λo e=>hk I (!1) o e,let ⟨od,h1,h2⟩:=st.2;(od,hk d (!1) od h1,h2))
 item:=λi s Q E hi st c=>by
  let(st,od,h1,h2):=st;show zW st h1 h2 hi λh' f hs'=>?_;show c _ h' s.toks (hi,rfl) (f,od,(hs'.2 d g).trans h1,h2) λb o a e=>(hs'.2 b (λh=>a (by simp[h]))).trans e
 done:=λs Q E st c=>by
  let(st,od,h1,h2):=st;show AC k st h1 h2 (Lf _) λh' j=>c h' s.toks λb o a e=>j b o (λh=>a (by simp[h])) e
 self:=λY Y Y Y st c=>wpAny_pyIter_keyiter st.1 c
theorem Aq{Q:Bool->bb->Prop}(g:(d==Qi)=Pr)(ho:s.heap.get? d=Po o)(hc:o.ExactDict)(e:o.data=.dict es ep)(f:es.size<=2 ^ 24)
  (h : Q Pr s):kn (kq prog w) A (A2 (.ref d)) Q E s:=by
 unfold A2;show jj (Qs (_,ho,hc.1) F.slot_dict_len.lookup ?_);generalize c:("dict.__len__" : String)=id0
 wp_delta
 rw[show splitId id0=Po ("dict","__len__") from by subst c;decide +kernel];subst c;show jj (QM (T := "dict") (b:=Pq) (_,ho,hc.1) (by rw[isSubtype_type];kernel_rfl) ?_);show ZG (λa=>absurd a (!2)) (λY=>?_);show ZG (λY=>?_) (λa=>absurd (!3) a);show jj (wpAny_typeOf (T := "dict") (_,ho,hc.1) ?_);show kf h
theorem qq{R:ZC->bb->Prop}(J:A.handled=none)(x:(d==Qi)=false)(ho:s.heap.get? d=some o)(hc:o.ExactDict)(c:o.data=.dict es ep)(y:es.size<=2 ^ 24)(S:aG)(res:ba)(q:Nat)(u:s.heap.get? S=some { cls:=.type "list",data:=.seq #[] q })
  (K:∀h' tk j c',(∀b o,b≠S->s.heap.get? b=some o->h'.get? b=some o)->h'.get? S=some { cls:=.type "list",dict:=none,data:=.seq j c',slots:=#[] } ->
   ItemsOf (λi v=>∃h:i<es.size,v=es[i].key) j es.size->R (.ok (.ret res)) { s with heap:=h',toks:=tk }) :
  kn (kq prog w) A.in1 (o3 (.ref S) (.ref d) res)
   (λfin s'=>match fin with|.done f=>R (.ok f) s'|.again c'=>c'.quiet=true/\Qo (kq prog w) A c' R s') (λe s'=>R (.error e) s') s:=by
 let p:S≠d:=λe=>by
  rw[e,ho]at u;injection u with u;rw[u]at c;cases c
 let z:S<(~~~s):=Lh u;let r:S≠(~~~s):=Lr z;let E:d≠(~~~s):=Lr (Lh ho);let G:S ∉ [(~~~s),d]:=λB=>by
  simp at B;rcases B with e|e;show r e;show p e
 let W:=(tZ (prog:=prog) (w:=w) (A:=A.in1) J (~~~s) d E es ep).toS;let key:∀(h:cc) (l tk:Nat),h.IsKeyIter (~~~s) d 0 es.size ep->h.get? d=Po o->(∀b o,b≠S->s.heap.get? b=Po o->h.get? b=Po o) ->
   h.get? S=Po { cls:=.type "list",data:=.seq #[] l }->Qo (kq prog w) A (.builtin "list.extend.loop" ([.ref S,.ref (~~~s),res],[])) R { s with heap:=h,toks:=tk }:=by intro h l tk H hd hk a;show codeAny_extend_loopS W (by rw[qE];lia) S G res es.size 0 _ #[] l rfl (Ln _) (H,o,hd,c) a (ItemsOf.nil _) λs' j c' B I C=>?_;rw[Moved.eq_with B];show K s'.heap s'.toks j c' (λb o D e=>B.heap b o (λm=>?_) (hk b o D e)) I C;rcases K9.mp m with e'|m;show D e';show absurd (Lh e) (by rw[K7.mp m];show L0 _)
 unfold o3;show jj (wpAny_typeOf (T := "dict") (_,ho,hc.1) ?_);let h1:F1 (.ref S) (.ref d)=Pr:=by simp[F1,p]
 let h2:(nN "dict" == nN "list")=Pr:=!2
 let L:(nN "dict" == nN "tuple")=Pr:=!2
 simp only[h1,h2,L,Oy,Lz,if_false];show jj (xu x ho hc c ?_);let a:=La { cls:=.type "dict_keyiterator",data:=.fields #[.ref d,.int 0 0,.int es.size 0,.int ep 0] } u;let g:=La { cls:=.type "dict_keyiterator",data:=.fields #[.ref d,.int 0 0,.int es.size 0,.int ep 0] } ho;let k:(s.heap.push { cls:=.type "dict_keyiterator",data:=.fields #[.ref d,.int 0 0,.int es.size 0,.int ep 0] }).IsKeyIter (~~~s) d 0 es.size ep:=(_,Lm _ rfl,rfl,rfl)
 show jj (qT (Aq x g hc c y ?_));show ZG (λY=>?_) (λY=>kf (Qm F.plain_extend_loop _,key _ q _ k g (λb o Y e=>La _ e) a));show jj (QL ?_);show jj ?_;show kn _ _ (ZU S (·.push .none) >>= λY=>ZU S (·.pop)) _ _ _;show jj (QS a rfl ?_);let n:=LG (dt (·.push dr)) a rfl;show QS (hz:=by seq_fits) n rfl ?_;let t:=LG (dt (·.pop)) n rfl;show kf (Qm F.plain_extend_loop _,key _ _ _ (k.at λo e=>?_) ?_ (λb o D e=>?_) t);show(Lx _ _ r).trans ((Lx _ _ r).trans e);show(Lx _ _ p).trans ((Lx _ _ p).trans g);show(Lx _ _ (Ne.symm D)).trans ((Lx _ _ (Ne.symm D)).trans (La _ e))
theorem ox{Q:Ph->bb->Prop}(n:A.handled=none)(m:(d==Qi)=false)(ho:s.heap.get? d=some o)(hc:o.ExactDict)(c:o.data=.dict es ep)(f:es.size<=2 ^ 24)
  (p:∀h' tk g,(∀b o,s.heap.get? b=some o->h'.get? b=some o)->s.heap.objs.size<=h'.objs.size->ItemsOf (λi v=>∃h:i<es.size,v=es[i].key) g es.size->Q g.toList { s with heap:=h',toks:=tk }) :
  kn (kq prog w) A (collect (.ref d)) Q E s:=by
 let key:∀R:ZC->bb->Prop,(∀h' tk a c',(∀b o,b≠(~~~s)->(s.heap.push { cls:=.type "list",data:=.seq ([]:Ph).toArray }).get? b=Po o->h'.get? b=Po o)->h'.get? (~~~s)=Po { cls:=.type "list",dict:=Pp,data:=.seq a c',slots:=#[] }->ItemsOf (λi v=>∃h:i<es.size,v=es[i].key) a es.size->R (.ok (.ret (.ref (~~~s)))) { s with heap:=h',toks:=tk }) ->
   Qo (kq prog w) A (.builtin "list.__iadd__" ([.ref (~~~s),.ref d],[])) R { s with heap:=s.heap.push { cls:=.type "list",data:=.seq ([]:Ph).toArray } }:=λR q=>by
  show Qu F.entry_list_iadd ?_;rw[Around.under_plainId F.plain_list_iadd _];show kn _ A.in1 (o3 (.ref (~~~s)) (.ref d) (.ref (~~~s))) _ _ _;show qq (R:=R) (A:=A) (s:={ s with heap:=s.heap.push { cls:=.type "list",data:=.seq ([]:Ph).toArray } }) n m (La _ ho) hc c f (~~~s) _ 0 (Lm _ rfl) q
 unfold collect;show jj (wpAny_runValue (Qu F.entry_proto_collect ?_));rw[Around.under_plainId F.plain_proto_collect _];show kn _ A.in1 (newList [] >>= λl=>again (.builtin "list.__iadd__" ([l,.ref d],[]))) _ _ s;show jj (KP ?_);show kf (Qm F.plain_list_iadd _,key _ λh' tk a c' hk j k=>?_);show kn _ A (load (~~~s) >>= _) _ _ _;show jj (wpAny_load j ?_);show kf (p h' tk a (λb o e=>hk b o (Lr (Lh e)) (La _ e)) (MH (Lh j)) k)
end
section
end
section
variable{prog:ky}{w:kD}{A:Around}{E:ba->bb->Prop}{s:bb}{vs:Ph}
def KZ(prog:ky)(w:kD)(A:Around)(s:bb)(l:aG)(vs:Ph):Prop:=∀{E:ba->bb->Prop}{Q:Ph->bb->Prop},(∀h' tk,(∀b o,s.heap.get? b=Po o->h'.get? b=Po o)->(~~~s)<=h'.objs.size->Q vs { s with heap:=h',toks:=tk })->kn (kq prog w) A (collect (.ref l)) Q E s
end
section
variable{K:cp}{x qual p q r t:ck}{st:Stmt}{f:aG}{fd:kx}(F:Fun K x qual st f fd)
def BdA(x qual:ck)(st:Stmt)(us:Ph)(ps:OZ):Prop:=∀(kV doc pm:ba) (an:O4) (cdv ct:ba),Qh (hX x qual (dc st) (bA st) (af st) .none kV doc pm an cdv ct) (us,[])=pure ps
include F
theorem bd1(h:(∀a,BdA x qual st [a] [(p,a)])⊕'PB):bE K fd [p] []:=F.binds (ps:=[p]) λY Y Y Y Y Y us hl=>us1 (Q:=λus=>Qh _ (us,[])=pure (p7 _ us)) hl λa=>h a _ _ _ _ _ _
theorem bd2(h:(∀a b,BdA x qual st [a,b] [(p,a),(q,b)])⊕'PB):bE K fd [p,q] []:=F.binds (ps:=[p,q]) λY Y Y Y Y Y us hl=>us2 (Q:=λus=>Qh _ (us,[])=pure (p7 _ us)) hl λa b=>h a b _ _ _ _ _ _
theorem bd3(h:(∀a b c,BdA x qual st [a,b,c] [(p,a),(q,b),(r,c)])⊕'PB):bE K fd [p,q,r] []:=F.binds (ps:=[p,q,r]) λY Y Y Y Y Y us hl=>us3 (Q:=λus=>Qh _ (us,[])=pure (p7 _ us)) hl λa b c=>h a b c _ _ _ _ _ _
theorem bd4(h:(∀a b c d,BdA x qual st [a,b,c,d] [(p,a),(q,b),(r,c),(t,d)])⊕'PB):bE K fd [p,q,r,t] []:=F.binds (ps:=[p,q,r,t]) λY Y Y Y Y Y us hl=>us4 (Q:=λus=>Qh _ (us,[])=pure (p7 _ us)) hl λa b c d=>h a b c d _ _ _ _ _ _
end
section
variable{α:Type}
noncomputable def atS:List (ck×α)->ck->Option α
 |[],_=>Pp
 |p::l,k=>if p.1=k then Po p.2 else atS l k
def putS(l:List (ck×α))(k:ck)(x:α):List (ck×α):=if (atS l k).isSome=Pq then l.map (λp=>if p.1=k then (p.1,x) else p) else l++[(k,x)]
noncomputable def dropS(l:List (ck×α))(k:ck):List (ck×α):=l.filter λp=>decide (p.1≠k)
theorem qM(k:ck):∀l:List (ck×α),(atS l k).isSome=l.any λp=>decide (p.1=k)
 |[]=>rfl
 |p::l=>by
  by_cases e:p.1=k;simp[atS,e];simp[atS,e,qM k l]
theorem sI(l:List (ck×α))(k:ck)(x:α):(putS l k x).length<=-l+1:=by unfold putS;split;rw[K4];lia;rw[LB,Lu,Om];lia
theorem ni(l:List (ck×α))(k:ck):(dropS l k).length<=-l:=LS _ _
end
abbrev iR(l:O1):List (Key×V):=l.map λp=>(sK p.1,p.2)
theorem KV.atS{es:O1}{vs:OV}(r:KV (iR es) vs)(k:ck):yz (atS es k) (Zj vs (.inr k)):=by
 unfold KV at r
 induction es generalizing vs with
 |nil=>cases r;show True.intro
 |cons p es ih =>
  cases r with
  |@cons _ q _ a h t =>
   let(h1,h2):=h;by_cases e:p.1=k;let e':q.1=.inr k:=by rw[<-h1,<-e]
   let b:Zj (q::a) (.inr k)=Po q.2:=by simp[Zj,Mn,e']
   rw[b,_L.atS,OG e];show h2;let e':¬q.1=.inr k:=λz=>e (D0 (h1.trans z));let b:Zj (q::a) (.inr k)=Zj a (.inr k):=by simp[Zj,Mn,e']
   rw[b,_L.atS,OH e];show ih t
theorem KV.anyS{es:O1}{vs:OV}(r:KV (iR es) vs)(k:ck):(_L.atS es k).isSome=vs.any λp=>decide (p.1=.inr k):=by
 unfold KV at r;rw[qM]
 induction es generalizing vs with
 |nil=>cases r;rfl
 |cons p es ih =>
  cases r with
  |@cons _ q _ a h t =>
   let e:decide (p.1=k)=decide (q.1=.inr k):=by rw[<-h.1];simp
   rw[Mx,Mx,ih t,e]
theorem KV.putS{es:O1}{vs:OV}(r:KV (iR es) vs)(k:ck){y:V}{u:ba}(b:br y u):KV (iR (putS es k y)) (stored vs (.inr k) u):=by
 let a:=r.anyS k;unfold _L.putS stored;rw[a];unfold KV at r ⊢;split;rename_i c;clear a c
 induction es generalizing vs with
 |nil=>cases r;show .nil
 |cons p es ih =>
  cases r with
  |@cons _ q _ d h t =>
   let(h1,h2):=h;rw[Le,Le];show .cons ?_ (ih t);show(sK (if p.1=k then (p.1,y) else p).1:Key)=_/\br (if p.1=k then (p.1,y) else p).2 _;by_cases e:p.1=k;let e':q.1=.inr k:=by rw[<-h1,<-e]
   rw[OG e,OG e'];show(h1,b);let e':¬q.1=.inr k:=λz=>e (D0 (h1.trans z));rw[OH e,OH e'];show(h1,h2)
 rw[iR,Lw];show Paired.snoc r (rfl,b)
theorem KV.dropS{es:O1}{vs:OV}(r:KV (iR es) vs)(k:ck):KV (iR (dropS es k)) (without vs (.inr k)):=by
 unfold _L.dropS without;unfold KV at r ⊢
 induction es generalizing vs with
 |nil=>cases r;show .nil
 |cons p es ih =>
  cases r with
  |@cons _ q _ a h t =>
   let(h1,h2):=h;rw[Mt,Mt];by_cases e:p.1=k;let e':q.1=.inr k:=by rw[<-h1,<-e]
   rw[OH (by simp[e]),OH (by simp[e'])];show ih t;let e':¬q.1=.inr k:=λz=>e (D0 (h1.trans z));rw[OG (by simp[e]),OG (by simp[e'])];show .cons (h1,h2) (ih t)
section
variable{X:Cx}{pins:OU}{σ:St}{H:Hp}{s:bb}{a:aG}
theorem uL(I:Inv X pins σ H s){es:O1}(e:H a=Po (dkO es)):-es<=sizeLine/\(a==Qi)=Pr/\∃vs,KV (iR es) vs/\s.heap.DictOf (cq X.prog X.w) a vs:=by
 let(z,y,vs,r,dd):=(show cO X.prog X.w H s.heap a (dkO es) from I.hok a _ e)
 show(by rwa [K4]at z,y,vs,r,dd)
theorem vA{es:O1}{vs:OV}(r:KV (iR es) vs){k:ck}{v:V}(l:atS es k=Po v):∃u,Zj vs (.inr k)=Po u/\br v u:=by let q:=r.atS k;rw[l]at q;show q.some_of
theorem GV{es:O1}{vs:OV}(r:KV (iR es) vs)(k:ck):(Zj vs (.inr k)).isSome=(atS es k).isSome:=by
 let q:=r.atS k;cases h:atS es k with
 |none=>rw[h]at q;rw[q.none_of];rfl
 |some v=>rw[h]at q;let(u,e,_):=q.some_of;rw[e];rfl
end
section
variable{X:Cx}
def IE(f:Bool->Bool):R2:=λx y H Q=>∃(k:ck) (a:aG) (es:O1),x=.str k/\y=.ref a/\H a=Po (dkO es)/\Q (.bl (f (atS es k).isSome)) H
theorem Bp:OpR X (q5 .In) (IE id):=by intro pins s σ H x y v u Q I b c h;let(k,a,es,rfl,rfl,d,q):=h;cases (show u=di a from c);let(t,rfl):=b;let(_,y,vs,r,dd):=uL I d;show wpAny_in_of (knd:=cq X.prog X.w) (cM _ _ k t) y dd.mapOf ?_;rw[GV r k];show(.bl _,H,I.tok _,rfl,q)
theorem wK:OpR X (q5 .NotIn) (IE (!·)):=by intro pins s σ H x y v u Q I b c h;let(k,a,es,rfl,rfl,d,q):=h;cases (show u=di a from c);let(t,rfl):=b;let(_,y,vs,r,dd):=uL I d;show wpAny_notIn_of (knd:=cq X.prog X.w) (cM _ _ k t) y dd.mapOf ?_;rw[GV r k];show(.bl _,H,I.tok _,rfl,q)
def IB:R2:=λx y H Q=>∃(k:ck) (a:aG) (es:O1) (v:V),x=.ref a/\y=.str k/\H a=Po (dkO es)/\atS es k=Po v/\Q v H
theorem GU:IxR X IB:=by
 intro value slice pins s σ H x y v u Q I e f h hs;let(k,a,es,w,rfl,rfl,g,l,q):=h;cases (show v=di a from e)
 cbv;let(t,rfl):=f;let(_,y,vs,r,dd):=uL I g;let(u,i,j):=vA r l
 w_up;let c:=dd.mapOf;let d:=c.typeIs;unfold Zm;show jj ?_;rw[getitemInPython_of_ne d.not_modules];show jj (Qs d MX.lookup ?_);let fin:kn (kq X.prog X.w) X.A (ZE slice Pr (.ref a) (.str k t)) (λr b=>kn (kq X.prog X.w) X.A (letTemporaryGo value (.ref a) r >>= λY=>pure r) (EP X pins σ Q) X.xe b) X.xe s:=by rw[hs];show wpAny_operating (wpAny_getItem_of (knd:=cq X.prog X.w) (cM _ _ k t) c i ?_);show jj (wpAny_letTemporaryGo (kf (w,H,I.tok _,j,q)))
 first
  |show kf (jj fin)
  |show jj (kf (jj fin))
  |show jj fin
theorem kC{pins:OU}{σ:St}{H:Hp}{s:bb}{a:aG}{h':cc}{t':Nat}{es c:O1}{vs:OV}(I:Inv X pins σ H s)(e:H a=some (dkO es))(hs:lp a s.heap h')(z:c.length<=sizeLine)(y:(a==Qi)=false)(r:KV (iR c) vs)(dd:h'.DictOf (cq X.prog X.w) a vs):Inv X pins σ (upd H a (dkO c)) { s with heap:=h',toks:=t' }:=by let(o,_,_,h1,_):=id dd;show I.write (x:=a) (e:=a) (by rw[e];show True.intro) (.inl rfl) (λb q d z=>(hs.2 b d).trans z) (_,h1) (show cO X.prog X.w _ h' a (dkO c) from(by rw[K4];show z,y,vs,r,dd))
def FI:HC:=λx y v H Q=>∃(k:ck) (a:aG) (es:O1),x=.ref a/\y=.str k/\H a=Po (dkO es)/\es.length<1000000/\Q (upd H a (dkO (putS es k v)))
theorem Cy:Ia X FI:=by
 intro pins s σ H x y v ov iv u Q I d e f h;let(k,a,es,rfl,rfl,c,hz,q):=h;cases (show ov=di a from d);let(t,rfl):=e;let(z,y,vs,r,dd):=uL I c;let g:(1000000:Nat)<sizeLine:=!2
 let hl:-vs=-es:=by let:=-r;rw[K4]at this;show this.symm
 show wpAny_setItem_pairs (hsz:=by rw[hl];show z) (knd:=cq X.prog X.w) (cM _ _ k t) dd λh' b hs=>?_;show(_,kC I c hs (by let:=sI es k v;lia) y (r.putS k f) b,q)
def FJ:V->Pl->Hp->VK->Prop:=λx xs H Q=>∃(k:ck) (a:aG) (es:O1) (v:V),x=.ref a/\xs=[.str k]/\H a=Po (dkO es)/\atS es k=Po v/\Q v (upd H a (dkO (dropS es k)))
theorem wW:MtR X "dict.pop" FJ:=by
 intro pins s σ H x xs v us Q I f b h;let(k,a,es,w,rfl,rfl,e,l,q):=h;cases (show v=di a from f)
 cbv;let(u,rfl,c):=aU.one b;let(t,rfl):=c;let(z,y,vs,r,dd):=uL I e;let(u,g,c):=vA r l
 w_up;let hl:-vs=-es:=by let:=-r;rw[K4]at this;show this.symm
 show call_meetsIn sj dd.typeIs PySem.F.entry_dict_pop (PySem.F.args_dict_pop_2 _ _) (meets_dict_pop_there (cq X.prog X.w) a (cM _ _ k t) [] (.inl rfl) (by rfl)) (vs,u,dd,by rw[hl];show z,g,λh' d hs=>?_);show(w,_,kC I e hs (Ld (ni es k) z) y (r.dropS k) d,c,q)
def yR:TE:=λY H Q=>∀p,H p=Pp->Q (.ref p) (upd H p (dkO []))
theorem pK{pos:Pos}:PE X (.Dict [] [] pos) yR:=λpins s σ H Q I h =>
 wpAny_Dict_empty (.ref (~~~s),_,I.laid (a:=(~~~s)) (o:=dkO []) (t':=s.toks) (λY Y q=>La _ q) (Lf _) (Ln _,beq_eq_false_iff_ne.mpr (Ne.symm (Lr I.big')),[],.nil,Heap.DictOf.new s.heap),rfl,h _ (I.hok.fresh (Lf _)))
theorem xg:∀a b:Pd,HT.lexLt (a.map λc:Nat=>(c:Int)) (b.map λc:Nat=>(c:Int))=decide (a<b)
 |[],[]=>by simp[HT.lexLt]
 |[],_::_=>by simp[HT.lexLt]
 |_::_,[]=>by simp[HT.lexLt]
 |x::a,y::b=>by
  rw[Le,Le,HT.lexLt_cons,xg a b];by_cases e:x=y;subst e;simp[NB];rw[OH (!0)];simp[NB,e]
def kyS(x:ck):Int×O7:=(0,x.cps.toList.map λc:Nat=>(c:Int))
def yW(xs:Pi):Pi:=pick (aX (xs.map kyS)) xs ⟨#[]⟩
theorem mH(xs:Pi):(yW xs).Perm xs:=gh (by let:=bz (xs.map kyS);rwa [K4]at this)
section
variable{prog:ky}{w:kD}{A:Around}{E:ba->bb->Prop}{s:bb}
theorem yT{us:Ph}{xs:Pi}(h2:2<=-us)(k:aU (xs.map V.str) us):iy prog w A us (xs.map kyS) s:=by
 let hl:-xs=-us:=by let:=-k;rwa [K4]at this
 let at_:∀i (h:i< -us),∃t,us[i]=.str (xs[i]'(!0)) t:=λi hi=>by
  let(u,e,t,r):=k.get (i:=i) (x:=.str (xs[i]'(!0))) (by simp[show i< -xs by lia]);rw[K8 hi]at e;show(t,(du e).trans r)
 show kas_kind (T:=.type "str") h2 (λv hv=>?_) (!2) (by rfl) (rfl,λi j C hi hj hc=>?_);let(i,hi,rfl):=LC hv;let(t,e):=at_ i hi;rw[e];show .now;let e1:us.getD i dr=us[i]:=by simp[hi]
 let e2:us.getD j dr=us[j]:=by simp[hj]
 show kn (kq prog w) A (keyLt' _ (us.getD i dr) (us.getD j dr)) C (λY Y=>False) s;let(t,ex):=at_ i hi;let(u,b):=at_ j hj;rw[e1,e2,ex,b];let g:∀m (a:m< -xs),(xs.map kyS).getD m (0,[])=kyS xs[m]:=λm a=>by simp[a]
 rw[g i (!0),g j (!0),kyS,kyS,nq,xg]at hc;show kas_lt_str hc
theorem o4{l:aG}{vs:Ph}{ks:OK}{Q:ba->bb->Prop}(hl:KZ prog w A.in1 s l vs)(f:vs.length<64)(g:ks.length=vs.length)
  (hk:2<=vs.length->∀h' tk,(∀b o,s.heap.get? b=some o->h'.get? b=some o)->iy prog w A.in1.in1 vs ks { s with heap:=h',toks:=tk })
  (h : ∀D h' tk c,(∀b o,s.heap.get? b=some o->h'.get? b=some o)->s.heap.objs.size<=D->h'.get? D=some (qb "list" (pick (aX ks) vs dr).toArray c)->Q (.ref D) { s with heap:=h',toks:=tk }) :
  kn (kq prog w) A (call (.builtin "sorted") [.ref l]) Q E s:=by show Calls.call_function_entry kind_sorted Z5 Z9 (args_sorted1 _) ?_;unfold Builtin.«sorted»;show jj (m:=checkCount "sorted" 1 1 _) (kf ?_);show jj (hl λh1 tk kp a=>?_);show jj (Q2 ?_ (by rw[qE];lia));let d:(h1.push (qb "list" vs.toArray 0)).get? h1.objs.size=Po (qb "list" vs.toArray 0):=Lm _ rfl;let i:∀{h'},(∀b o,b≠h1.objs.size->(h1.push (qb "list" vs.toArray 0)).get? b=Po o->Heap.get? h' b=Po o)->∀b o,s.heap.get? b=Po o->h'.get? b=Po o:=λk b o e=>k b o (Lr (Lg (Lh e) a)) (La _ (kp b o e));show jj (qT (zv ZN (_,d,rfl) ZI ?bo (args_list_sort _)));show mG (s:={ s with heap:=h1.push (qb "list" vs.toArray 0),toks:=tk }) d f g (λh2 h' k=>hk h2 h' tk (i k)) λh' c k j=>(_,rfl,kf (_,rfl,h _ h' tk c (i k) a j))
end
theorem tI{K:cp}{N:aG->Prop}{H:Hp}:∀ns:Pi,DNs K N H (ns.map V.str) (ns.map .str)
 |[]=>.nil
 |n::r=>.cons (.str n) (tI r)
theorem Ag{es:O1}{a:OV}{l:List DictEntry}(h:Pairs (cq X.prog X.w) l a)(r:KV (iR es) a):aU (es.map λp=>V.str p.1) (l.map (·.key)):=by
 unfold KV at r
 induction h generalizing es with
 |nil =>
  cases es with
  |nil=>show .nil
  |cons p es=>cases r
 |@cons e kv l kvs k1 k2 _ ih =>
  cases es with
  |nil=>cases r
  |cons p es =>
   cases r with
   |cons h t =>
    let e1:kv.1=.inr p.1:=h.1.symm;rw[e1]at k1;show .cons (NG (x:=p.1) k1) (ih t)
theorem ym(hc:X.calm=Pq):fU X (.builtin "sorted") (λxs H Q=>∃(p:aG) (es:O1),xs=[.ref p]/\H p=Po (dkO es)/\es.length<64/\∀q:aG,H q=Pp->Q (.ref q) (upd H q (.lst ((yW (es.map (·.1))).map .str)))):=by
 intro pins s σ H xs us Q I r h;let(p,ks,rfl,t,d,q):=h;let(u,rfl,v):=jG r;cases (show u=di p from v);let(_,y,F,g,o,es,ep,h1,h2,w,G,x,J):=uL I t;let f:=Ag x g;rw[show(ks.map λp=>V.str p.1)=(ks.map (·.1)).map V.str from(LA ..).symm]at f;let hl:es.size=-ks:=by let a:=-f;rw[K4,K4,K4,ge]at a;show a.symm
 show o4 (vs:=es.toList.map (·.key)) (ks:=(ks.map (·.1)).map kyS) (λ{E Q} A=>ox (I.ok.hd hc) y h1 h2 w (by rw[hl];show Ld (MH d) (!2)) λh' tk b kp j it=>?_) (by rw[K4,ge,hl];show d) (by simp[hl]) (λh2 h' tk k=>yT h2 f) λD h' tk c kp m l=>?_;let B:b.toList=es.toList.map (·.key):=by
  show Mh (by rw[ge,it.1,K4,ge]) λi C j2=>?_;let hi:i<b.size:=by rw[<-ge];show C
  let(z,e):=it.2 i b[i] (by simp[hi]);rw[tD,e,Mb,tD]
 rw[B];show A h' tk kp j;let lt:∀i∈aX ((ks.map (·.1)).map kyS),i<(ks.map (·.1)).length:=λi hi=>by let:=cS i hi;rwa [K4]at this
 let n:=fW f (p:=aX ((ks.map (·.1)).map kyS)) (by rw[K4];show lt);let K:(ks.map (·.1)).length<64:=by rwa [K4]
 generalize ks.map (·.1)=xs at *;rw[show pick (aX (xs.map kyS)) (xs.map V.str) .non=(yW xs).map .str by
  unfold yW pick;rw[LA];show L6 λi hi=>by simp[lt i hi]]at n
 show(.ref D,_,I.laid (t':=tk) (o:=.lst ((yW xs).map .str)) kp m (?_,_,c,n,l),rfl,q _ (I.hok.fresh m));let:(64:Nat)<=sizeLine:=!2
 rw[K4,(mH _).length_eq];lia
end
section
variable{K:cp}{N:aG->Prop}{H:Hp}{v:V}{d e:av}{C:aG}{kvs:OW}{es:O1}{k:ck}{S:Pg}
theorem fY:∀{kvs c:OW},kvs.map (λp=>(Pm (fx p.1) p.2))=c.map (λp=>(Pm (fx p.1) p.2))->kvs=c
 |[],[],_=>rfl
 |[],_::_,e=>by cases e
 |_::_,[],e=>by cases e
 |(Pm a b)::l,(Pm a' b')::l',e=>by
  simp only[Le,el,ms,PyData.str.injEq]at e;let((rfl,rfl),e):=e;rw[fY e]
theorem DN.idc_of(h:DN K N H v e)(b:e=cR kvs):∃a es,v=.ref a/\H a=Po (dkO es)/\es.map (·.1)=kvs.map (·.1)/\DNs K N H (es.map (·.2)) (kvs.map (·.2)):=by
 cases h with
 |exc _ _=>simp[jq,cR]at b
 |fz _=>simp[fzD,cR]at b
 |dct _ _ _ _ _=>show(gr rfl b.symm).elim
 |dsk _ _ _ _ _ _=>simp[bU,cR]at b
 |idc n h e q =>
  simp only[cR,lC,el,true_and]at b;rw[<-fY b];show(_,_,rfl,h,e,q)
 |_=>cases b
theorem DN.dsk_of(h:DN K N H v e)(c:e=bU C kvs):∃a b dx es,v=.ref a/\H a=Po (.ins C dx [("towns",.ref b)])/\¬N b/\H b=Po (dkO es)/\es.map (·.1)=kvs.map (·.1)/\DNs K N H (es.map (·.2)) (kvs.map (·.2)):=by
 cases h with
 |exc _ _=>simp[jq,bU]at c
 |fz _=>simp[fzD,bU]at c
 |dct _ _ _ _ _=>show(gr rfl c.symm).elim
 |idc _ _ _ _=>simp[bU,cR]at c
 |@dsk a b f dx es d n i h g e q =>
  simp only[bU,lC,el,ms,p0,true_and]at c;let(j,k):=c;obtain rfl:f=C:=MU j;rw[<-fY k];show(_,_,_,_,rfl,h,i,g,e,q)
 |_=>cases c
theorem OT.idcI(h:OT K N H v e S)(b:e=cR kvs):∃a es S',v=.ref a/\S=a::S'/\H a=Po (dkO es)/\es.map (·.1)=kvs.map (·.1)/\OTs K N H (es.map (·.2)) (kvs.map (·.2)) S':=by
 cases h with
 |fz _=>simp[fzD,cR]at b
 |dct _ _ _ _=>show(gr rfl b.symm).elim
 |dsk _ _ _ _=>simp[bU,cR]at b
 |idc h e q =>
  simp only[cR,lC,el,true_and]at b;rw[<-fY b];show(_,_,_,rfl,rfl,h,e,q)
 |_=>cases b
theorem OT.dskI(h:OT K N H v e S)(c:e=bU C kvs):∃a b dx es S',v=.ref a/\S=a::b::S'/\H a=Po (.ins C dx [("towns",.ref b)])/\H b=Po (dkO es)/\es.map (·.1)=kvs.map (·.1)/\OTs K N H (es.map (·.2)) (kvs.map (·.2)) S':=by
 cases h with
 |fz _=>simp[fzD,bU]at c
 |dct _ _ _ _=>show(gr rfl c.symm).elim
 |idc _ _ _=>simp[bU,cR]at c
 |@dsk a b f dx es d S h g e q =>
  simp only[bU,lC,el,ms,p0,true_and]at c;let(i,j):=c;obtain rfl:f=C:=MU i;rw[<-fY j];show(_,_,_,_,_,rfl,rfl,h,g,e,q)
 |_=>cases c
theorem fA{α β:Type}(k:ck):∀{l:List (ck×α)}{m:List (ck×β)},l.map (·.1)=m.map (·.1)->(atS l k).isSome=(atS m k).isSome
 |[],[],_=>rfl
 |[],_::_,e=>by cases e
 |_::_,[],e=>by cases e
 |p :: l,q::m,e=>by
  simp only[Le,el]at e;by_cases z:p.1=k;simp[atS,z,<-e.1];let a:¬q.1=k:=by rw[<-e.1];show z
  simp[atS,z,a,fA k e.2]
theorem yv:∀{es:O1}{kvs:OW},es.map (·.1)=kvs.map (·.1)->DNs K N H (es.map (·.2)) (kvs.map (·.2))->atS kvs k=Po d->∃v,atS es k=Po v/\DN K N H v d
 |[],[],_,_,h=>by cases h
 |[],_::_,e,_,_=>by cases e
 |_::_,[],e,_,_=>by cases e
 |p :: l,q::m,e,.cons h1 h2,h=>by
  simp only[Le,el]at e;by_cases z:q.1=k;let a:p.1=k:=by rw[e.1];show z
  rw[atS,OG z]at h;cases h;show(p.2,by rw[atS,OG a],h1);let a:¬p.1=k:=by rw[e.1];show z
  rw[atS,OH z]at h;rw[atS,OH a];show yv e.2 h2 h
end
section
variable{X:Cx}{K:cp}{a b e:bi}{ta tb te:DE}{tl:DA}{pos p:Pos}{C:aG}
def Hx(f:Bool->Bool)(ta tb:DE):DE:=λenv R=>ta env λs1 b=>tb b λs2 a=>∃k kvs,aK a s1=Po (.str k)/\aK a s2=Po (cR kvs)/\R (.fr (.bool (f (atS kvs k).isSome))) a
theorem BR{f:Bool->Bool}:∀σ H Q,up K (Hx f ta tb) σ H Q->tOp (IE f) (up K ta) (up K tb) σ H Q:=λσ H Q h=>by
 let(M,P,H0,σ0,env,ts,R,g,l,m):=h;show(M,P,H0,σ0,env,ts,_,g,l,λs1 c i H1 h1 d=>(M,P,H0,σ0,c,ts++[(i,s1)],_,d,h1,λs2 e j H2 h2 b=>?_))
 cbv;let(k,kvs,e1,e2,n):=h2;let b:Rel K M P H0 σ0 σ e (ts++[(i,s1),(j,s2)]) H2:=by simpa using b
 let d1:=b.kept (v:=i) (s:=s1) (!1) e1;let(a,es,rfl,o,p,_):=(b.kept (v:=j) (s:=s2) (!1) e2).idc_of rfl;cases d1
 w_up;show(k,a,es,rfl,rfl,o,?_);rw[fA k p];show m _ _ _ _ n (b.drop.addFr (.bl _))
theorem Bd(c:PE X a (up K ta))(d:PE X b (up K tb))(e:Qw .In b=false⊕'PL):PT X (.Compare a [.In] [b] pos) (upT K (l6 (Hx id ta tb))):=(cm Bp c d e).imp (kJ BR)
theorem pp(c:PE X a (up K ta))(d:PE X b (up K tb))(e:Qw .NotIn b=false⊕'PL):PT X (.Compare a [.NotIn] [b] pos) (upT K (l6 (Hx (!·) ta tb))):=(cm wK c d e).imp (kJ BR)
def JD(ta tb:DE):DE:=λenv R=>ta env λs1 b=>tb b λs2 a=>∃k kvs d,aK a s1=Po (cR kvs)/\aK a s2=Po (.str k)/\atS kvs k=Po d/\R (.fr d) a
theorem F4(i:PE X a (up K ta))(n:PE X b (up K tb))(hs:cr b⊕'Py):PE X (.Subscript a b pos) (up K (JD ta tb)):=(gi GU i n hs).imp λσ H Q h=>by
 let(M,P,H0,σ0,env,ts,R,j,o,p):=h;show(M,P,H0,σ0,env,ts,_,j,o,λs1 e l H1 h1 f=>(M,P,H0,σ0,e,ts++[(l,s1)],_,f,h1,λs2 g m H2 h2 c=>?_))
 cbv;let(k,kvs,d,e1,e2,hd,r):=h2;let c:Rel K M P H0 σ0 σ g (ts++[(l,s1),(m,s2)]) H2:=by simpa using c
 let d2:=c.kept (v:=m) (s:=s2) (!1) e2;let(a,es,rfl,i,t,q):=(c.kept (v:=l) (s:=s1) (!1) e1).idc_of rfl;cases d2;let(w,hw,dn):=yv t q hd
 w_up;show(k,a,es,w,rfl,rfl,i,hw,p _ _ _ _ r (c.drop.addFr dn))
def JG(C:aG)(te:DE):DE:=λenv R=>te env λs a=>∃kvs,aK a s=Po (bU C kvs)/\R (.fr (cR kvs)) a
theorem C1(hK:X.K=K)(c:Cls K C)(n:cP K C "towns")(j:PE X e (up K te))(f:zp e "towns" X.env (eval e X.env)=eval e X.env⊕'Pt):PE X (.Attribute e "towns" pos) (up K (JG C te)):=by subst hK;show(i9 j f).imp λσ H Q h=>?_;let(M,P,H0,σ0,env,ts,R,g,k,l):=h;show(M,P,H0,σ0,env,ts,_,g,k,λs1 i m H1 h1 d=>?_);let(kvs,e1,o):=h1;let(a,b,dx,es,rfl,p,q,f,r,dn):=(d.kept (v:=m) (!1) e1).dsk_of rfl;show(a,C,dx,_,.ref b,rfl,p,c,n,rfl,l _ _ _ _ o (d.drop.addFr (.idc q f r dn)))
def Es(t:DA):DE:=λenv R=>t env λss a=>∃s kvs,ss=[s]/\aK a s=Po (cR kvs)/\kvs.length<64/\R (.ow ((yW (kvs.map (·.1))).map .str)) a
theorem v7(hc:X.calm=true)(c:Gl X "sorted")(k:X.mg "sorted" = none)(l:PA X [e] (upA K tl))(m:kh [e] X.env=[(false,eval e X.env)]⊕'Pt):PE X (.Call (.Name "sorted" p) [e] [] pos) (up K (Es tl)) :=
 (cY (ym hc) c k boot_sorted l (!2) (!2) m rfl).imp λσ H Q h=>by
 let(M,P,H0,σ0,env,ts,R,d,n,o):=h;show(M,P,H0,σ0,env,ts,_,d,n,λss g vs H1 h1 hl b=>?_)
 cbv;let(s,kvs,rfl,e1,r,i):=h1;let(v,rfl):=uE hl;let(a,es,rfl,t,j,_):=(b.kept (v:=v) (s:=s) (!1) e1).idc_of rfl
 w_up;let u:-es=-kvs:=by let:=congrArg nn j;simpa using this
 show(a,es,rfl,t,!0,λq f=>o _ _ _ _ (by rw[<-j]at i;show i) (b.drop.addOw f (tI _)))
def mj(P:ky)(w:kD)(K:cp)(mg:ck->O3)(base:cc)(C:aG)(m:ck)(k:Nat)(sp:Sp):Prop :=
 Cls K C/\∃(f:aG) (fd:kx) (ps:Pi),aY P w K mg base CX0 k f fd ps sp/\bE K fd ps []/\Fg K C m f
def x5(C:aG)(sp:DSp)(te:DE)(tl:DA):DE:=λenv R=>te env λb env0=>(∃kvs,aK env0 b=Po (bU C kvs))/\tl env0 λss a=>∃ds,bh a (b::ss)=Po ds/\sp (ds.map .fr) (dK (λr Y=>R r a) ⟨⟩)
theorem w5{m:ck}{sp:DSp}{t:TA}(u:∀v:V,gu m [(("towns" : ck),v)]=Pp)(hk:∀σ H Q,upA K tl σ H Q->t σ H Q):∀σ H Q,up K (x5 C sp te tl) σ H Q->Cq C m (spD K sp) [] E0 (up K te) t σ H Q:=λσ H Q h=>by
 let(M,P,H0,σ0,env,ts,R,j,w,x):=h;show(M,P,H0,σ0,env,ts,_,j,w,λi env0 v0 H1 h0 f=>?_);let((kvs,y),h1):=h0;let(a,b,dx,es,rfl,A,_):=(f.kept (v:=v0) (s:=i) (!1) y).dsk_of rfl;show(a,dx,_,rfl,A,u _,hk _ _ _ (M,P,H0,σ0,env0,ts++[(.ref a,i)],_,f,h1,λss d vs H2 h2 hl c=>?_));let(ds,B,l):=h2;rw[Ls];let c:Rel K M P H0 σ0 σ d (ts++(V.ref a::vs).zip (i::ss)) H2:=by simpa using c
 generalize n:V.ref a::vs=us at *;let o:-us=(i::ss).length:=by rw[<-n];simp[hl]
 let dns:=c.keptAll o (λp D=>D) B;let oe:=h8 us ds;show(Nw M (aw σ d ts),ds.map .fr,λr Y=>R r d,by simp[dns.len],kG dns λa z hn=>c.drop.newAddr hn z,l,λr E v H' F q g=>x _ _ _ _ F ?_);let k:aA H2 H':=(g.keep.mono (M:=N0) λb z=>by
  let z:b∈oas (tmp (us.zip (ds.map .fr))):=z;rw[oe]at z;cases z).none
 show(c.drop).withRes (c.drop.e.called k (g.resOk q)) q
theorem sd{m:ck}{k:Nat}{sp:DSp}{o:bi}{es:Pj}{pl:Sem Bool}{apos:Pos}(G:mj X.prog X.w X.K X.mg X.base C m k (spD K sp))(hK:X.K=K)(g:bW k X.A)(ho:PE X o (up K te))(h:PA X (e::es) (upA K tl))(hn:(m==("towns" : ck))=false⊕'Pu)
  (a:kh (e::es) X.env=(false,eval e X.env)::kh es X.env⊕'Pt) (d:(qr pos (kh es X.env)).any (·.1)=false⊕'Pt)
  (i:eval (.Call (.Attribute o m apos) (e::es) [] pos) X.env=(do
   let ov <-eval o X.env
   Qn apos.atName
   let (f,first) <-Qf [ov] (QX ov m pl)
   Zw pos f first (qr pos (kh (e::es) X.env)) (Qq pos (zz [] X.env)))⊕'Pt) :
  PE X (.Call (.Attribute o m apos) (e::es) [] pos) (up K (x5 C sp te tl)):=by subst hK;let(c,f,fd,ps,F,b,j):=G;show(eU ho c j F g b .nil ja h a d i).imp (w5 (λv=>by simp[gu,hn]) λY Y Y z=>z)
theorem wb{m:ck}{k:Nat}{sp:DSp}{o:bi}{pl:Sem Bool}{apos:Pos}(G:mj X.prog X.w X.K X.mg X.base C m k (spD K sp))(hK:X.K=K)(e:bW k X.A)(ho:PE X o (up K te))(hn:(m==("towns" : ck))=false⊕'Pu)
  (a:eval (.Call (.Attribute o m apos) [] [] pos) X.env=(do
   let ov <-eval o X.env
   Qn apos.atName
   let (f,first) <-Qf [ov] (QX ov m pl)
   Zw pos f first (qr pos (kh [] X.env)) (Qq pos (zz [] X.env)))⊕'Pt) :
  PE X (.Call (.Attribute o m apos) [] [] pos) (up K (x5 C sp te yK)):=by subst hK;let(c,f,fd,ps,F,b,g):=G;show(zq ho c g F e b .nil ja a).imp (w5 (λv=>by simp[gu,hn]) λσ H Q z=>?_);let(M,P,H0,σ0,env,ts,R,d,a,h):=z;show h [] env [] H a rfl (by simpa using d)
def CH(C:aG)(rz:RSp)(RX:aG->Prop)(te:DE)(tl:DA):DR:=λenv=>te env λb env0=>(∃kvs,aK env0 b=Po (bU C kvs))/\tl env0 λss a=>∃ds c,bh a (b::ss)=Po ds/\rz ds c/\RX c
theorem df{m:ck}{k:Nat}{rz:RSp}{RX:aG->Prop}{Hs:Hp}{E:XK}{o:bi}{es:Pj}{pl:Sem Bool}{apos:Pos}(l:fJ (CXE X.prog X.w) X E)(D:XOk Hs RX E)(G:fV X.prog X.w X.K X.mg X.base C m k rz)(hK:X.K=K)(I:bW k X.A)(ho:PE X o (up K te))(n:PA X (e::es) (upA K tl))(hn:(m==("towns" : ck))=false⊕'Pu)
  (q:kh (e::es) X.env=(false,eval e X.env)::kh es X.env⊕'Pt) (r:(qr pos (kh es X.env)).any (·.1)=false⊕'Pt)
  (t:eval (.Call (.Attribute o m apos) (e::es) [] pos) X.env=(do
   let ov <-eval o X.env
   Qn apos.atName
   let (f,first) <-Qf [ov] (QX ov m pl)
   Zw pos f first (qr pos (kh (e::es) X.env)) (Qq pos (zz [] X.env)))⊕'Pt) :
  PE X (.Call (.Attribute o m apos) (e::es) [] pos) (upR K Hs (CH C rz RX te tl)):=by
 subst hK;let(c,f,fd,ps,F,b,J):=G;show(eU ho c J F I b .nil l n q r t).imp λσ H Q h=>?_;let(M,P,H0,σ0,env,ts,(L,N),u,t):=h;show(M,P,H0,σ0,env,ts,_,u,t,λj env0 v0 H1 h0 g=>?_);let((kvs,O),h1):=h0;let(a,b,dx,es,rfl,n,_):=(g.kept (v:=v0) (s:=j) (!1) O).dsk_of rfl;show(a,dx,_,rfl,n,by simp[gu,hn],M,P,H0,σ0,env0,ts++[(.ref a,j)],_,g,h1,λss i vs H2 h2 hl d=>?_);let(ds,B,R,hz,hx):=h2;rw[Ls];let d:Rel X.K M P H0 σ0 σ i (ts++(V.ref a::vs).zip (j::ss)) H2:=by simpa using d
 generalize x:V.ref a::vs=us at *;let y:-us=(j::ss).length:=by rw[<-x];simp[hl]
 let dns:=d.keptAll y (λp l=>l) R;show(ds,B,dns.to λY Y Y z=>z.elim,hz,λH' s2=>D B hx H' ((L.tr λb o e=>d.e.keep b o (N b) e).tr s2))
end
def tF(d:av):Prop:=noF d=Pq\/∃kvs:OW,(∀p∈kvs,noF p.2=Pq)/\(d=cR kvs\/∃C,d=bU C kvs)
section
variable{K:cp}{M P N:aG->Prop}{H0 H H':Hp}{σ0 σ:St}{env:Pf}{ts tt:O0}{v:V}{d e:av}{S:Pg}
theorem OTs.noFto(m:∀b us,Rd H b (.tup us)->M b->N b){v:Pl}{ds:Pe}(h:OTs K N H v ds S):(∀d∈ds,noF d=Pq)->OTs K M H v ds S :=
 OTs.ind (C:=λv ds S=>(∀d∈ds,noF d=Pq)->OTs K M H v ds S) (λY=>.nil) (λh Y i f=>.cons (h.noFto m (f _ K3)) (i λd hd=>f d (K5 _ hd))) h
theorem OT.tFto(m:∀b us,Rd H b (.tup us)->M b->N b)(h:OT K N H v d S)(t:tF d):OT K M H v d S:=by
 rcases t with t|⟨kvs,t,rfl|⟨C,rfl⟩⟩
 show h.noFto m t;let(a,es,S',rfl,rfl,c,e,q):=h.idcI rfl;show .idc c e (q.noFto m λd hd=>by let(p,f,rfl):=Lo.mp hd;show t p f);let(a,b,dx,es,S',rfl,rfl,c,g,e,q):=h.dskI rfl;show .dsk c g e (q.noFto m λd hd=>by let(p,f,rfl):=Lo.mp hd;show t p f)
theorem Rel.mutT2{e':av}{i:Nat}{S':Pg}(h:Rel K M P H0 σ0 σ env (ts++tt) H)(e:env[i]?=Po (.tr S d))(k:∀b o,b ∉ S->b ∉ oas (tmp tt)->H b=Po o->H' b=Po o)
  (t:∀b∈oas (tmp tt),H0 b=Pp) (ot:∀v,σ[i]?=Po (Po v)->OT K M H' v e' S') (G:tF e') (nd:S'.Nodup) (sub:∀a∈S',a∈S\/a∈oas (tmp tt)\/H a=Pp):Rel K M P H0 σ0 σ (env.set i (.tr S' e')) ts H':=by
 let hd:=h.drop
 cbv;let(x,A,B,e1,q1,I):=hd.split e;let r:=h.e;rw[au,q1]at r;let(v,ev,_,h0):=r.tr _ _ _ (K1 _ (K0 _ K3));subst ev;let ot:=ot v e1;let oe:oas (A++(Po v,Sl.tr S d)::B++tmp tt)=oas A++(S++oas B)++oas (tmp tt):=by rw[ac,ac,ad,am]
 let j:oas (A++(Po v,Sl.tr S' e')::B)=oas A++(S'++oas B):=by rw[ac,ad,am]
 let u:=r.nd;rw[oe]at u;let(m1,m2,D):=K6.mp u;let(J,N,E):=K6.mp m1;let(R,O,Q):=K6.mp N
 w_up;let far:∀b,b∈oas A\/b∈oas B->b ∉ S/\b ∉ oas (tmp tt):=λb c=>by
  rcases c with c|c;show(λz=>E b c b (K1 _ z) rfl,λz=>D b (K1 _ c) b z rfl);show(λz=>Q b z b c rfl,λz=>D b (K0 _ (K0 _ c)) b z rfl)
 let mem:∀b,b∈oas A\/b∈oas B->b∈oas (A++(Po v,Sl.tr S d)::B++tmp tt):=λb c=>by
  rw[oe];show K1 _ (c.elim (K1 _) λc=>K0 _ (K0 _ c))
 let f:∀b,b∈oas A\/b∈oas B->b ∉ S':=λb c z=>by
  rcases sub b z with z|z|z;show(far b c).1 z;show(far b c).2 z;let(o,e,_):=r.own (mem b c);rw[z]at e;cases e
 let l:∀a,H a=Pp->H0 a=Pp:=λa z=>by
  cases q:H0 a with
  |none=>rfl
  |some o=>show absurd z (r.live a (by rw[q];simp))
 let L:Lay M H0 (A++(Po v,Sl.tr S d)::B++tmp tt) H (A++(Po v,Sl.tr S' e')::B) H' (λb=>b∈S\/b∈oas (tmp tt)):=(λb o F=>k b o (λz=>F (.inl z)) λz=>F (.inr z),λb c=>by
  rcases c with c|c;show(by rw[oe];show K1 _ (K0 _ (K1 _ c)),h0 b c);show(by rw[oe];show K0 _ c,t b c),λb c=>by
  rw[j]at c;rcases K2.mp c with c|c;show .inl (mem b (.inl c));rcases K2.mp c with c|c;rcases sub b c with z|z|z;show .inl (by rw[oe];show K1 _ (K0 _ (K1 _ z)));show .inl (by rw[oe];show K0 _ z);show .inr z;show .inl (mem b (.inr c)))
 show(?_,by simp[h.len],hd.vw,λn ds' y=>?_);rw[I];show r.remake L (λx s m=>?_) (by
  rw[j];show K6.mpr (J,K6.mpr (nd,O,λa p b c z=>f b (.inr c) (z▸p)),λa p b c z=>by
   rcases K2.mp c with c|c;show f a (.inl p) (z▸c);show E a p b (K0 _ c) z))
 let own:∀{C:O9},(x,s)∈C->∀b∈cn (x,s),b∈oas C:=λm b c=>aL.mpr (_,m,c);let go:∀b,b∈oas A\/b∈oas B->¬(b∈S\/b∈oas (tmp tt)):=λb c z=>z.elim (far b c).1 (far b c).2;rcases K2.mp m with m|m;show .inl (K1 _ (K1 _ m),λb c=>go b (.inl (own m b c)));rcases K9.mp m with m|m;cases m;show .inr (.inr (.inr (.inr (_,_,_,rfl,rfl,ot.tFto (λb us g z=>?_) G,λa p=>(sub a p).elim (h0 a) λz=>z.elim (t a) (l a)))));rcases z with z|z;show z;rw[j]at z;let old:b∈oas A\/b∈oas B->M b:=λc=>by
  let(o,e,_):=r.own (mem b c);let e':=k b o (far b c).1 (far b c).2 e;show(r.noTup (mem b c) us ?_).elim;rcases g with g|⟨w,g⟩
  rw[e']at g;rw[g]at e;show .inl e;rw[e']at g;rw[g]at e;show .inr (w,e)
 rcases K2.mp z with z|z;show old (.inl z);rcases K2.mp z with z|z;show(ot.lst1 b z us g).elim;show old (.inr z);show .inl (K1 _ (K0 _ (K5 _ m)),λb c=>go b (.inr (own m b c)));by_cases hj:i=n;subst hj;rw[Lp (Lc.mp e).1]at y;cases y;rw[Lj hj]at y;show hd.ios n ds' y
theorem Rel.mutT{e':av}{i:Nat}{S':Pg}(h:Rel K M P H0 σ0 σ env ts H)(e:env[i]?=Po (.tr S d))(k:∀b o,b ∉ S->H b=Po o->H' b=Po o)
  (ot:∀v,σ[i]?=Po (Po v)->OT K M H' v e' S') (c:tF e') (nd:S'.Nodup) (sub:∀a∈S',a∈S\/H a=Pp):Rel K M P H0 σ0 σ (env.set i (.tr S' e')) ts H' :=
 Rel.mutT2 (tt:=[]) (by rw[Ls];show h) e (λb o f Y=>k b o f) (λb g=>nomatch g) ot c nd λa j=>(sub a j).imp id .inr
theorem Rel.treeI{i:Nat}(h:Rel K M P H0 σ0 σ env ts H)(e:env[i]?=Po (.tr S d)):∃v,σ[i]?=Po (Po v)/\OT K (Nw M (aw σ env ts)) H v d S/\S.Nodup/\(∀a∈S,H0 a=Pp)/\(∀a∈S,¬M a)/\∀a∈S,Nw M (aw σ env ts) a:=by
 cbv;let(x,A,B,e1,q1,c):=h.split e;let r:=h.e;rw[q1]at r;let(v,ev,ot,h0):=r.tr _ _ _ (K0 _ K3);subst ev
 w_up;let nd:=r.nd;rw[ac,ad,am]at nd;rw[q1];show(v,e1,ot,(K6.mp (K6.mp nd).2.1).1,h0,λa b z=>r.mt a z (h0 a b),λa b=>.inr (by rw[ac,ad,am];show K0 _ (K1 _ b)))
theorem OTs.intI{us:Pl}{ns:O7}(h:OTs K N H us (ns.map .int) S):us=ns.map .int/\S=[]:=by
 induction ns generalizing us S with
 |nil=>cases h;show(rfl,rfl)
 |cons n ns ih =>
  cases h with
  |cons h q =>
   cbv;cases h;let(rfl,rfl):=ih q
   w_up;show(rfl,rfl)
theorem zx(ns:O7):OTs K N H (ns.map .int) (ns.map .int) []:=by
 induction ns with
 |nil=>show .nil
 |cons n ns ih=>show .cons (S:=[]) (.int n) ih
theorem OTs.rowSet{bs:Pl}{cs:Pe}{n:Nat}{r:O7}(q:OTs K N H bs cs S)(nd:S.Nodup)(f:∀a∈S,N a)(hn:cs[n]?=Po (.list (r.map .int))) :
  ∃a,bs[n]?=Po (.ref a)/\H a=Po (.lst (r.map .int))/\a∈S/\∀c:O7,OTs K N (upd H a (.lst (c.map .int))) bs (cs.set n (.list (c.map .int))) S:=by
 let(y,h,Ty,i,j,k,e,g):=q.split hn;generalize hd:eg (r.map .int)=d at e;cases e with
 |@lst a us ds p l m =>
  cbv;cases hd;let(rfl,rfl):=m.intI;subst k;let(s,p2,p3):=K6.mp nd;let(p4,p5,o):=K6.mp p2
  w_up;let b:a∈h++([a]++i):=!1
  show(a,j,l,b,λc=>g (λY Y Y z=>z) (aM.own (f a b)) (λz hz=>ao λw=>p3 z hz a (!1) w) (λz hz=>ao λw=>o a (!1) z hz w.symm) (.lst aq (zx c)))
 |_=>cases hd
end
section
variable{X:Cx}{K:cp}{st:Stmt}{te:DE}
def Ey(i c:Nat)(te:DE):DS:=λDD env=>∃(S:Pg) (rows:OQ) (r:O7),env[i]?=Po (.tr S (.tuple (fB rows)))/\rows[c]?=Po r/\r.length<=1000000/\te (env.map d7) λs Y=>∃n:Int,s=.fr (.int n)/\DD.nx (env.set i (.tr S (.tuple (fB (rows.set c (r++[n]))))))
theorem k8{rows:OQ}{c:Nat}{r:O7}(h:rows[c]?=Po r):(fB rows)[c]?=Po (.list (r.map .int)):=by show(rows.map _)[c]?=_;rw[LD,h];rfl
theorem rW(rows:OQ)(c:Nat)(r:O7):(fB rows).set c (.list (r.map .int))=fB (rows.set c r):=(OE ..).symm
theorem vK(rows:OQ)(c:Nat)(r:O7)(n:Int):(fB rows).set c (.list (r.map .int++[n].map .int))=fB (rows.set c (r++[n])):=by rw[<-Lw,rW]
theorem lN(rows:OQ):noF (.tuple (fB rows))=Pq:=by
 show iC (rows.map λr=>.list (r.map .int))=Pq
 induction rows with
 |nil=>rfl
 |cons r rows ih=>show(iC (r.map .int)&&iC _)=Pq;rw[ih,bC];rfl
theorem OT.tupI2{N:aG->Prop}{H:Hp}{v:V}{S:Pg}{ds:Pe}(h:OT K N H v (.tuple ds) S):∃t us,v=.ref t/\SnT K N H t us/\OTs K N H us ds S:=by
 cases h with
 |tup h q=>show(_,_,rfl,h,q)
theorem pq{i c:Nat}(h:PS X st (ub (tBM K "list" vO (tI2 K i c) (bv (up K te) iQ)))):PS X st (upS K (Ey i c te)):=h.imp λD σ H h=>by
 cbv;let(M,P,H0,σ0,env,ts,DD,nv,f,(S,rows,r,m,p,hz,B),ok):=h;let(v,ev,ot,nd,h0,nm,nw):=f.treeI m;let(t,us,rfl,hs,q):=ot.tupI2;let(a,ga,l,u,x):=q.rowSet nd nw (k8 p)
 w_up;show(_,ev,.inr (t,us,c,.ref a,rfl,rfl,hs.sq,bx ga,.inl (rfl,_,SqL.of l),M,N0,H,σ,_,[],_,f.lentA,B,λs y C H1 h1 d=>?_))
 cbv;let(n,rfl,E):=h1;let j:=d.e.keep.none;let(w,F,dn):=d.e.fr (Po C) _ (K0 _ K3);cases F;obtain rfl:=dn.int'
 w_up;let G:(1000000:Nat)<sizeLine:=!2
 show(a,r.map .int,.int n,rfl,rfl,j _ _ l,by rw[K4];lia,ok.nx _ _ _ E ?_)
 cbv;let(a2,k,I,_,g):=(q.keep (aM.same j) λb J=>by
  let(o,z):=q.lives b J;rw[j _ _ z,z]).rowSet nd nw (k8 p)
 rw[ga]at k;cases k
 w_up;let A:=g (r++[n]);rw[Lw,Lw,vK]at A;show(f.same j).mutT m (λb o L e=>by rw[ao (show b≠a fromλz=>L (by rw[z];show u))];show e) (λv e=>?_) (.inl (lN _)) nd λa l=>.inl l;rw[ev]at e;cases e;show(OT.tup (hs.keep ((aM.same j).trans (aM.own (nw a u)))) A).to λb Y Y z=>.inl z
def Ex(i c:Nat):DS:=λDD env=>∃(S:Pg) (rows:OQ) (r:O7) (n:Int),env[i]?=Po (.tr S (.tuple (fB rows)))/\rows[c]?=Po (r++[n])/\DD.nx (env.set i (.tr S (.tuple (fB (rows.set c r)))))
theorem CM{i c:Nat}(h:PS X st (ub (Ip K "list" J6 (tI2 K i c)))):PS X st (upS K (Ex i c)):=h.imp λD σ H h=>by
 cbv;let(M,P,H0,σ0,env,ts,DD,nv,d,(S,rows,r,n,j,m,p),ok):=h;let(v,ev,ot,nd,h0,nm,nw):=d.treeI j;let(t,us,rfl,hs,q):=ot.tupI2;let(a,ga,g,k,f):=q.rowSet nd nw (k8 m)
 w_up;show(_,ev,.inr (t,us,c,.ref a,rfl,rfl,hs.sq,bx ga,.inl (rfl,_,SqL.of g),a,_,.int n,rfl,rfl,g,!1,ok.nx _ _ _ p ?_));let l:=f r;rw[rW]at l;let e2:((r++[n]).map V.int).dropLast=r.map .int:=by rw[Lw];show vl
 rw[e2];show d.mutT j (λb o s e=>by rw[ao (show b≠a fromλz=>s (by rw[z];show k))];show e) (λv e=>?_) (.inl (lN _)) nd λa g=>.inl g;rw[ev]at e;cases e;show(OT.tup (hs.keep (aM.own (nw a k))) l).to λb Y Y z=>.inl z
end
theorem IM{X:Cx}{l:O6}:PSs X l (λY Y Y=>False):=λY Y Y Y Y Y h=>h.elim
theorem zl{X:Cx}{body:O6}{h₀:ExceptHandler}{hs:List ExceptHandler}{pos:Pos}{t:TS}(hx:∀e s,X.xe e s->False)(h:PSs X body t):PS X (.Try body (h₀::hs) [] [] pos) t:=λpins s σ H D I w =>
 wpAny_Try_except (qD (h pins s σ H D I w) (λf s1 q=>match f,q with
  |.next,q=>QT q
  |.brk,q=>q
  |.cont,q=>q
  |.ret _,q=>q) λe s1 z=>(hx e s1 z).elim)
def JV(P:ky)(w:kD)(K:cp)(mg:ck->O3)(base:cc)(C:aG)(x:ck)(k:Nat)(sp:Sp):Prop :=
 mg x=Po (.ref C)/\∃(f:aG) (fd:kx) (ps:Pi),Mk K C f/\aY P w K mg base CX0 k f fd ps sp/\bE K fd ps []
theorem Bk{X:Cx}{C:aG}{x:ck}{k:Nat}{sp:Sp}{p pos:Pos}(G:JV X.prog X.w X.K X.mg X.base C x k sp)(a:bW (k+1) X.A)(c:Gl X x)(hd:(x==("__debug__" : ck))=false⊕'Pu):PE X (.Call (.Name x p) [] [] pos) (Cr C sp [] E0 iQ):=by let(m,f,fd,ps,M,F,b):=G;show zr M F a c m b .nil ja hd
def MtI(K:cp)(C:aG)(m q:ck)(st:Stmt):Prop:=∃(f:aG) (fd:kx),Fg K C m f/\Fun K m q st f fd
section
variable{P:ky}{w:kD}{K:cp}{mg:ck->O3}{base:cc}{C f:aG}{m q x:ck}{st:Stmt}{ps:Pi}{k:Nat}{sp:Sp}{rz:RSp}{oc kV doc pm cdv ct:ba}{od an:O4}{osl:ON}
theorem mtI(a:ed K (.ref C) m=Po (Po (.ref f)))(i:xD K (.ref f)=Pq)(l:K.lookup f=Po (oc,od,.func (hX m q (dc st) (bA st) (af st) .none kV doc pm an cdv ct),osl))(c:nf K cdv q=Pq)(kp:eE K (.ref f)=Pq):MtI K C m q st:=(f,_,(a,i,kp),xC l c kp)
theorem AN(g:MtI K C m q st)(c:Cls K C)(b:∀{f:aG}{fd:kx},Fun K m q st f fd->bE K fd ps [])(ok:∀{f:aG}{fd:kx},Fun K m q st f fd->aY P w K mg base CX0 k f fd ps sp):mj P w K mg base C m k sp:=by let(f,fd,M,F):=g;show(c,f,fd,ps,ok F,b F,M)
theorem oF(g:MtI K C m q st)(c:Cls K C)(b:∀{f:aG}{fd:kx},Fun K m q st f fd->bE K fd ps [])(ok:∀{f:aG}{fd:kx},Fun K m q st f fd->aY P w K mg base (CXE P w) k f fd ps (spR K rz)):fV P w K mg base C m k rz:=by let(f,fd,M,F):=g;show(c,f,fd,ps,ok F,b F,M)
theorem KS(g:MtI K C "__init__" q st)(m:mg x=Po (.ref C))(mk:rr K C=Pq)(kc:eE K (.ref C)=Pq)(b:∀{f:aG}{fd:kx},Fun K "__init__" q st f fd->bE K fd ps [])(ok:∀{f:aG}{fd:kx},Fun K "__init__" q st f fd->aY P w K mg base CX0 k f fd ps sp):JV P w K mg base C x k sp:=by let(f,fd,M,F):=g;show(m,f,fd,ps,(mk,M.at_,M.fn,kc),ok F,b F)
end
abbrev dsO(C dx b:aG):HO:=.ins C dx [("towns",.ref b)]
abbrev tnD(s o:O7):av:=.tuple [.list (li s),.list (li o)]
def Eff(K:cp)(H:Hp)(b:aG)(es:O1)(c:Int)(nm:ck)(tv:V)(Q:Hp->Prop):Prop :=
 (c=2/\(atS es nm).isSome=Pq/\Q (upd H b (dkO (dropS es nm)))) \/
 ((c=0/\(atS es nm).isSome=Pr\/c=1/\(atS es nm).isSome=Pq)/\∃(N:aG->Prop) (s o:O7),DN K N H tv (tnD s o)/\(∀a,N a->H a≠Pp)/\s.length<=1000000/\o.length<=1000000/\es.length<1000000 /\
  ∀p H2 S2,aA H H2->OT K N H2 p (tnD s o) S2->S2.Nodup->(∀a∈S2,H a=Pp)->Q (upd H2 b (dkO (putS es nm p))))
theorem Eff.mono{K:cp}{H:Hp}{b:aG}{es:O1}{k:Int}{nm:ck}{tv:V}{Q l:Hp->Prop}(h:Eff K H b es k nm tv Q)(q:∀H,Q H->l H):Eff K H b es k nm tv l:=by
 rcases h with⟨a,c,d⟩|⟨a,N,s,o,d,e,f,g,i,j⟩
 show .inl (a,c,q _ d);show .inr (a,N,s,o,d,e,f,g,i,λp H2 S2 x y z w=>q _ (j p H2 S2 x y z w))
def rJ(K:cp)(C:aG)(a:Int):Sp:=λvs H Q Y=>∃(x dx b:aG) (es:O1) (nm:ck) (tv:V),vs=[.ref x,.str nm,tv]/\H x=Po (dsO C dx b)/\H b=Po (dkO es)/\a≠2/\Eff K H b es a nm tv (Q .non)
def vz(K:cp)(C:aG):Sp:=λvs H Q Y=>∃(x dx b:aG) (es:O1) (nm:ck),vs=[.ref x,.str nm]/\H x=Po (dsO C dx b)/\H b=Po (dkO es)/\Eff K H b es 2 nm .non (Q .non)
def vy(K:cp)(C:aG):Sp:=λvs H Q Y=>∃(x dx b:aG) (es:O1) (a:Int) (nm:ck) (tv:V),vs=[.ref x,.int a,.str nm,tv]/\H x=Po (dsO C dx b)/\H b=Po (dkO es)/\Eff K H b es a nm tv (Q .non)
def vq(K:cp)(C:aG):Sp:=λvs H Q Y=>∃(x dx b:aG) (es:O1) (a:Int) (nm:ck) (tv:V),vs=[.ref x,.int a,.str nm,tv]/\H x=Po (dsO C dx b)/\H b=Po (dkO es)/\Eff K H b es a nm tv λH1=>∀q H2,aA H1 H2->H1 q=Pp->H2 q=Po (.lst [])->Q (.ref q) H2
def Ct(C:aG):Sp:=λvs H Q Y=>∃x dx,vs=[.ref x]/\H x=Po (.ins C dx [])/\∀b,H b=Pp->Q .non (upd (upd H b (dkO [])) x (dsO C dx b))
def yY(C:aG):Sp:=λvs H Q Y=>∃(x dx b:aG) (es:O1) (nm:ck) (v:V),vs=[.ref x,.str nm]/\H x=Po (dsO C dx b)/\H b=Po (dkO es)/\atS es nm=Po v/\Q v H
section
variable{X:Cx}{K:cp}{e o:bi}{te tn:DE}{pos apos:Pos}{C:aG}
def dLk(C:aG)(te tn:DE):DE:=λenv R=>te env λb env0=>(∃kvs,aK env0 b=Po (bU C kvs))/\tn env0 λs1 a=>∃kvs nm d,aK a b=Po (bU C kvs)/\aK a s1=Po (.str nm)/\atS kvs nm=Po d/\R (.fr d) a
theorem FY{m:ck}{k:Nat}{pl:Sem Bool}(G:mj X.prog X.w X.K X.mg X.base C m k (yY C))(hK:X.K=K)(B:bW k X.A)(ho:PE X o (up K te))(D:PE X e (up K tn))(hn:(m==("towns" : ck))=false⊕'Pu)
  (j:kh [e] X.env=(false,eval e X.env)::kh [] X.env⊕'Pt) (p:(qr pos (kh [] X.env)).any (·.1)=false⊕'Pt)
  (r:eval (.Call (.Attribute o m apos) [e] [] pos) X.env=(do
   let ov <-eval o X.env
   Qn apos.atName
   let (f,first) <-Qf [ov] (QX ov m pl)
   Zw pos f first (qr pos (kh [e] X.env)) (Qq pos (zz [] X.env)))⊕'Pt) :
  PE X (.Call (.Attribute o m apos) [e] [] pos) (up K (dLk C te tn)):=by
 subst hK;let(c,f,fd,ps,F,b,E):=G;show(eU ho c E F B b .nil ja (ak D aH j) j p r).imp λσ H Q h=>?_;let(M,P,H0,σ0,env,ts,R,t,r,I):=h;show(M,P,H0,σ0,env,ts,_,t,r,λn env0 v0 H1 h0 i=>?_);let((kvs,J),h1):=h0;let(a,b,dx,es,rfl,L,_):=(i.kept (v:=v0) (s:=n) (!1) J).dsk_of rfl;show(a,dx,_,rfl,L,by simp[gu,hn],M,P,H0,σ0,env0,ts++[(.ref a,n)],_,i,h1,λs1 l z H2 h2 g=>?_)
 cbv;let(kvs,nm,d,e1,e2,hd,N):=h2;let g:Rel X.K M P H0 σ0 σ l (ts++[(.ref a,n),(z,s1)]) H2:=by simpa using g
 let d2:=g.kept (v:=z) (s:=s1) (!1) e2;cases d2;let(a',b',u,x,O,y,U,S,T,q):=(g.kept (v:=.ref a) (s:=n) (!1) e1).dsk_of rfl;cases O;let(w,hw,dn):=yv T q hd
 w_up;show(a,u,b',x,nm,w,rfl,y,S,hw,I _ _ _ _ N (g.drop.addFr dn))
end
section
variable{X:Cx}{K:cp}{e:bi}{te:DE}{p2 pos:Pos}
def Kp(k:ck)(te:TE):TE:=λσ H Q=>te σ H λv H1=>∃a:ck,v=.str a/\a.length<=100000/\(∀c∈cpl a,c<128)/\∀y,Q (.str y) H1
theorem Gs{te:TE}{k:ck}{j}{i:Pos}(hk:-k<=1000)(h:PE X e te):PE X (.JoinedStr [.Constant (.str k) j i,.FormattedValue e 114 Pp p2] pos) (Kp k te):=by
 intro pins s σ H Q I hw;show wpAny_JoinedStr ?_;show qD (wpAny_Constant_str (Q:=λv b=>v=.str k s.toks/\b={ s with toks:=s.toks+1 }) (rfl,rfl)) (λv s1 z=>?_) λY Y z=>z;let(rfl,rfl):=z;let g:(vr++k).length=-k:=by rw[oL];show Nat.zero_add _
 show(k,_,rfl,by rw[g];show Ld hk (Ld (!2) ar),?_);show wpAny_FormattedValue_repr (thn (h pins _ σ H _ (I.tok _) hw) λu s2 l=>?_);let(v,H1,m,n,a,rfl,p,hc,q):=l;let(t,rfl):=n;let hl:(reprText a).length<=1000002:=Ld (PySem.StrLaws.reprText_len a λc o=>Iv (hc c o) (!2)) (!0);let d:(reprText a).length<=sizeLine:=Ld hl (!2);show wpAny_pyReprObj_str ?_ d;let fin:∀t' tk,∃y tt,F2 (reprText a) t'=.str y tt/\(vr++k++y).length<=sizeLine/\Joins (kq X.prog X.w) X.A X.xe (evalEach [] X.env) (vr++k++y) (λf b=>-f<=sizeLine/\EP X pins σ Q (.str f b.toks) { b with toks:=b.toks+1 }) { s2 with toks:=tk }:=λt' tk=>by
  let hz:(vr++k++reprText a).length<=sizeLine:=by rw[oL,g];show Ld (Nat.add_le_add hk hl) (!2)
  show(_,_,rfl,hz,hz,?_);show(.str _,H1,m.tok _,(_,rfl),q _)
 show wpAny_formatField_str (fin _ _) (fin _ _) d
def JF(te:DE):DE:=λenv R=>te env λs b=>∃a,aZ b s=Po (.str a)/\a.length<=100000/\(∀c∈cpl a,c<128)/\∀y,R (.fr (.str y)) b
theorem F7{k:ck}{j}{f:Pos}(h:PE X e (up K te))(hk:k.length<=1000⊕'PC):PE X (.JoinedStr [.Constant (.str k) j f,.FormattedValue e 114 none p2] pos) (up K (JF te)):=(Gs hk h).imp λσ H Q h=>by
 let(M,P,H0,σ0,env,ts,R,c,g,i):=h;show(M,P,H0,σ0,env,ts,_,c,g,λs1 d l H1 h1 b=>?_);let(a,e1,m,hc,n):=h1;show(a,(b.view (v:=l) (!1) e1).str,m,hc,λy=>i _ _ _ _ (n y) (b.drop.addFr (.str _)))
end
def IsC(K:cp)(c:V)(d:av)(b:Bool):Prop:=(d=.none/\b=Pr/\∃D,c=.ref D/\hG K (.type "NoneType") (.ref D)=Po Pr)\/∃C Dd,d=jq C 0/\yF K C Dd/\qV K C/\Fj K C Dd c b
section
variable{X:Cx}{K:cp}{e:bi}{te:DE}{pos p:Pos}
theorem kF(hK:X.K=K):fU X (.builtin "isinstance") (λxs H Q=>∃(v c:V) (d:av) (b:Bool),xs=[v,c]/\DN K N0 H v d/\IsC K c d b/\Q (.bl b) H):=by
 subst hK;intro pins s σ H xs us Q I r h;obtain⟨v,c,d,b,rfl,dn,⟨rfl,rfl,D,rfl,hk⟩|⟨C,Dd,rfl,mro,lo,f⟩,q⟩:=h
 .cbv;let(u,w',rfl,g,e):=u8 r;cases dn
  w_up;cases (show u=dr from g);cases (show w'=di D from e);show me NI I.kIn True.intro hk (λz=>nomatch z) λtk=>(.bl Pr,H,I.tok tk,rfl,q)
 let(a,dx,rfl,i):=dn.exc_of rfl;show AM mro lo pins s σ H _ us Q I r (a,dx,c,b,rfl,i,f,q)
def Hv(K:cp)(c:V)(te:DE):DE:=λenv R=>te env λs a=>∃d b,aK a s=Po d/\IsC K c d b/\R (.fr (.bool b)) a
theorem BP{c:V}:∀σ H Q,up K (Hv K c te) σ H Q->tCB (λxs H Q=>∃(v c:V) (d:av) (b:Bool),xs=[v,c]/\DN K N0 H v d/\IsC K c d b/\Q (.bl b) H) (bv (up K te) (bv (tC c) iQ)) σ H Q:=λσ H Q h=>by
 let(M,P,H0,σ0,env,ts,R,e,i,j):=h;show(M,P,H0,σ0,env,ts,_,e,i,λs1 f g H1 h1 a=>?_);let(d,b,e1,hc,k):=h1;show(g,c,d,b,rfl,(a.kept (v:=g) (s:=s1) (!1) e1).to λY Y Y z=>z.elim,hc,j _ _ _ _ k (a.drop.addFr (.bl b)))
theorem wg{n:ck}{a:Pos}{D:aG}(hK:X.K=K)(j:Gl X "isinstance")(k:X.mg "isinstance" = none)(b:Gl X n)(c:X.mg n=some (.ref D))(l:PE X e (up K te))
  (i:kh [e,.Name n a] X.env=(false,eval e X.env)::kh [.Name n a] X.env⊕'Pt) (d:kh [.Name n a] X.env=(false,eval (.Name n a) X.env)::kh [] X.env⊕'Pt)
  (f:(n==("__debug__" : ck))=false⊕'Pu) (g:(qr pos (kh [.Name n a] X.env)).any (·.1)=false⊕'Pt) :
  PE X (.Call (.Name "isinstance" p) [e,.Name n a] [] pos) (up K (Hv K (.ref D) te)) :=
 (cY (kF hK) j k h7 (ak l (ak (show PE X (.Name n a) (tC (.ref D)) fromλpins s σ H Q I h=>gS I b c (.ref D,H,I,rfl,h) f) aH d) i) (!2) (!2) i g).imp BP
theorem F6{n:ck}{T:String}{a:Pos}(hK:X.K=K)(k:Gl X "isinstance")(l:X.mg "isinstance" = none)(b:Gl X n)(c:X.mg n=none)(d:Ql n=some (.type T))(m:PE X e (up K te))
  (j:kh [e,.Name n a] X.env=(false,eval e X.env)::kh [.Name n a] X.env⊕'Pt) (f:kh [.Name n a] X.env=(false,eval (.Name n a) X.env)::kh [] X.env⊕'Pt)
  (g:n ≠ "__name__"⊕'Pu) (h:(n==("__debug__" : ck))=false⊕'Pu) (i:(qr pos (kh [.Name n a] X.env)).any (·.1)=false⊕'Pt) :
  PE X (.Call (.Name "isinstance" p) [e,.Name n a] [] pos) (up K (Hv K (.ty T) te)) :=
 (cY (kF hK) k l h7 (ak m (ak (lz (v:=.ty T) b c d rfl g h) aH f) j) (!2) (!2) j i).imp BP
end
section
variable{X:Cx}{K:cp}{e:bi}
def JJ(t:DE):DE:=λenv R=>t env λs a=>∃d,eF a s=Po d/\∀S,R (.tr S d) a
theorem pz{t:DE}(h:PE X e (up K t)):PE X e (up K (JJ t)):=h.imp λσ H Q h=>by
 let(M,P,H0,σ0,env,ts,R,f,i,j):=h;show(M,P,H0,σ0,env,ts,_,f,i,λs a v H1 h1 c=>?_);let(d,e1,k):=h1;let(ot,h0):=c.tree (v:=v) (s:=s) (!1) e1;let g:aw σ a (ts++[(v,s)])=aw σ a ts++[(Po v,s)]:=by rw[au];rfl
 let oe:oas (aw σ a ts++[(Po v,Sl.tr (cn (Po v,s)) d)])=oas (aw σ a (ts++[(v,s)])):=by rw[g,ac,ac,ad,ad,am]
 let L:Lay M H0 (aw σ a (ts++[(v,s)])) H1 (aw σ a ts++[(Po v,Sl.tr (cn (Po v,s)) d)]) H1 (λY=>False):=(λY Y Y e=>e,λY z=>z.elim,λb l=>.inl (by rw[<-oe];show l))
 show j _ _ _ _ (k (cn (Po v,s))) (c.drop.withRes (c.e.remake L (λx s' m=>?_) (by rw[oe];show c.e.nd)) rfl);rcases K2.mp m with m|m;show .inl (by rw[g];show K1 _ m,λY Y z=>z);rw[K7]at m;cases m;show .inr (.inr (.inr (.inr (v,_,d,rfl,rfl,L.ot ot (λY Y z=>z),h0))))
end
section
variable{K:cp}{M:aG->Prop}{H H2 H3:Hp}{v:V}{d e:av}{S:Pg}
theorem OT.upd1{b:aG}(h:OT K M H2 v d S)(t:noF d=Pq)(ho:∀us,¬Rd H2 b (.tup us))(f:b ∉ S)(k:∀a o,a≠b->H2 a=Po o->H3 a=Po o):OT K M H3 v d S :=
 ((h.noFto (M:=λa=>M a\/a=b) (λa us r z=>z.elim id λz=>(ho us (z▸r)).elim) t).keep (λa o n e=>k a o (λz=>n (.inr z)) e) λa c=>by
  let(o,z):=h.lives a c;rw[z,k a o (λw=>f (w▸c)) z]).to λY Y Y z=>.inl z
theorem OTs.upd1{b:aG}{vs:Pl}{ds:Pe}(h:OTs K M H2 vs ds S):(∀d∈ds,noF d=Pq)->(∀us,¬Rd H2 b (.tup us))->b ∉ S->(∀a o,a≠b->H2 a=Po o->H3 a=Po o)->OTs K M H3 vs ds S :=
 OTs.ind (C:=λvs ds S=>(∀d∈ds,noF d=Pq)->(∀us,¬Rd H2 b (.tup us))->b ∉ S->(∀a o,a≠b->H2 a=Po o->H3 a=Po o)->OTs K M H3 vs ds S) (λY Y Y Y=>.nil)
  (λh Y i t ho c k=>.cons (h.upd1 (t _ K3) ho (λz=>c (K1 _ z)) k) (i (λd hd=>t d (K5 _ hd)) ho (λz=>c (K0 _ z)) k)) h
theorem mQ{α β:Type}{es:List (ck×α)}{kvs:List (ck×β)}(k:ck)(x:α)(y:β)(e:es.map (·.1)=kvs.map (·.1)):(putS es k x).map (·.1)=(putS kvs k y).map (·.1):=by
 unfold putS;rw[fA k e];split;rw[LA,LA];let f:∀{a:Type} (z:a) (l:List (ck×a)),l.map ((λp=>p.1) ∘ λp=>if p.1=k then (p.1,z) else p)=l.map (·.1):=λz l=>L6 λp Y=>by
  by_cases h:p.1=k <;> simp[h]
 rw[f,f,e];rw[Lw,Lw,e];rfl
theorem fv{α β:Type}(k:ck):∀{es:List (ck×α)}{kvs:List (ck×β)},es.map (·.1)=kvs.map (·.1)->(dropS es k).map (·.1)=(dropS kvs k).map (·.1)
 |[],[],_=>rfl
 |[],_::_,e=>by cases e
 |_::_,[],e=>by cases e
 |p :: es,q::kvs,e=>by
  simp only[Le,el]at e;unfold dropS;rw[Mt,Mt];by_cases h:p.1=k;rw[OH (by simp[h]),OH (by simp[<-e.1,h])];show fv k e.2;rw[OG (by simp[h]),OG (by simp[<-e.1,h]),Le,Le,e.1];show congrArg _ (fv k e.2)
theorem OTs.dropS(k:ck):∀{es:O1}{kvs:OW}{S:Pg},OTs K M H (es.map (·.2)) (kvs.map (·.2)) S->es.map (·.1)=kvs.map (·.1)->∃S',OTs K M H ((_L.dropS es k).map (·.2)) ((_L.dropS kvs k).map (·.2)) S'/\S'.Sublist S
 |[],[],_,.nil,_=>([],.nil,.refl _)
 |[],_::_,_,_,e=>by cases e
 |_::_,[],_,_,e=>by cases e
 |p :: es,q::kvs,_,.cons (S:=S1) (S':=S2) h t,e=>by
  simp only[Le,el]at e;let(S',a,b):=OTs.dropS k t e.2;unfold _L.dropS;rw[Mt,Mt];by_cases hk:p.1=k;rw[OH (by simp[hk]),OH (by simp[<-e.1,hk])];show(S',a,b.trans (M6 S1 S2));rw[OG (by simp[hk]),OG (by simp[<-e.1,hk])];show(S1++S',.cons h a,(Na S1).append b)
theorem qd{α:Type}{k:ck}{x:α}:∀{l:List (ck×α)},k ∉ l.map (·.1)->l.map (λp=>if p.1=k then (p.1,x) else p)=l
 |[],_=>rfl
 |p::l,h=>by
  simp only[Le,K9,not_or]at h;rw[Le,OH (Ne.symm h.1),qd h.2]
theorem OTs.putS(k:ck){p:V}{S2:Pg}(o:OT K M H p d S2)(j:S2.Nodup):∀{es:O1}{kvs:OW}{S:Pg},OTs K M H (es.map (·.2)) (kvs.map (·.2)) S->es.map (·.1)=kvs.map (·.1)->(kvs.map (·.1)).Nodup->S.Nodup->(∀a∈S2,a ∉ S)->∃S',OTs K M H ((_L.putS es k p).map (·.2)) ((_L.putS kvs k d).map (·.2)) S'/\S'.Nodup/\∀a∈S',a∈S\/a∈S2:=λ{es kvs S} q e n l f=>by
 let ei:=fA k e;unfold _L.putS;rw[ei];split;rename_i c;clear ei
 induction es generalizing kvs S with
 |nil =>
  cases kvs with
  |nil=>cases c
  |cons _ _=>cases e
 |cons a es ih =>
  cases kvs with
  |nil=>cases e
  |cons b kvs =>
   simp only[Le,el]at e;cases q with
   |@cons _ _ _ _ r s h t =>
    let(k1,k2):=Ll.mp n;let(m1,m2,u):=K6.mp l;by_cases hk:b.1=k;let i:a.1=k:=by rw[e.1];show hk
    show(S2++s,?_,K6.mpr (j,m2,λx hx y g z=>f x hx (K0 _ (z▸g))),λx hx=>(K2.mp hx).elim .inr λz=>.inl (K0 _ z));simp only[Le,OG i,OG hk];rw[qd (by rw[e.2,<-hk];show k1),qd (by rw[<-hk];show k1)];show .cons o t;let i:¬a.1=k:=by rw[e.1];show hk
    let c:(atS kvs k).isSome=Pq:=by rw[atS,OH hk]at c;show c
    let(S',v,A,m):=ih t e.2 k2 m2 (λx hx z=>f x hx (K0 _ z)) c;show(r++S',?_,K6.mpr (m1,A,λx hx y g z=>?_),λx hx=>?_);simp only[Le,OH i,OH hk];show .cons h v;subst z;rcases m x g with w|w;show u x hx x w rfl;show f x w (K1 _ hx);rcases K2.mp hx with w|w;show .inl (K1 _ w);show(m x w).imp (K0 _) id
 show(S++(S2++[]),?_,?_,λx hx=>?_);rw[Lw,Lw];show q.app (.cons o .nil);rw[Ls];show K6.mpr (l,j,λx hx y g z=>f y g (z▸hx));rw[Ls]at hx;show K2.mp hx
end
section
variable{α:Type}
theorem ll{l:List (ck×α)}{k:ck}{x:α}{p:ck×α}(h:p∈putS l k x):p∈l\/p.2=x:=by unfold putS at h;split at h;let(q,a,e):=Lo.mp h;split at e;rw[<-e];show .inr rfl;rw[<-e];show .inl a;show(K2.mp h).imp id λz=>by rw[K7.mp z]
theorem gv{l:List (ck×α)}{k:ck}{p:ck×α}(h:p∈dropS l k):p∈l:=(Ly.mp h).1
end
section
variable{K:cp}{M P N:aG->Prop}{H0 H H':Hp}{σ0 σ:St}{env:Pf}{ts:O0}{v:V}{d e:av}{S:Pg}
theorem Rel.frI{i:Nat}(h:Rel K M P H0 σ0 σ env ts H)(e:env[i]?=Po (.fr d)):∃v,σ[i]?=Po (Po v)/\DN K (Nw M (aw σ env ts)) H v d:=by
 cbv;let(x,e1,m):=h.slot e;let(v,ev,dn):=h.e.fr _ _ m;subst ev
 w_up;show(v,e1,dn)
theorem OTs.put1{b:aG}{nm:ck}{es:O1}{kvs:OW}{p:V}{S2:Pg}{o':HO}(q:OTs K N H (es.map (·.2)) (kvs.map (·.2)) S)(h:es.map (·.1)=kvs.map (·.1))(i:(kvs.map (·.1)).Nodup)(j:S.Nodup)(t:∀p∈kvs,noF p.2=Pq)
  (o : OT K N H p d S2) (k:S2.Nodup) (l:noF d=Pq) (c:∀a∈S2,a ∉ S) (ob:∀us,¬Rd H b (.tup us)) (m:b ∉ S) (f:b ∉ S2):∃S',OTs K N (upd H b o') ((_L.putS es nm p).map (·.2)) ((_L.putS kvs nm d).map (·.2)) S'/\S'.Nodup/\∀a∈S',a∈S\/a∈S2:=by let(S',n,r,g):=OTs.putS nm o k q h i j c;show(S',n.upd1 (λx hx=>?_) ob (λz=>(g b z).elim m f) (λa o na e=>by rw[ao na];show e),r,g);let(y,s,rfl):=Lo.mp hx;show(ll s).elim (t y) λz=>by rw[z];show l
theorem OTs.drop1{b:aG}{nm:ck}{es:O1}{kvs:OW}{o':HO}(q:OTs K N H (es.map (·.2)) (kvs.map (·.2)) S)(d:es.map (·.1)=kvs.map (·.1))(f:S.Nodup)(t:∀p∈kvs,noF p.2=Pq)
  (ob:∀us,¬Rd H b (.tup us)) (g:b ∉ S):∃S',OTs K N (upd H b o') ((_L.dropS es nm).map (·.2)) ((_L.dropS kvs nm).map (·.2)) S'/\S'.Nodup/\∀a∈S',a∈S:=by let(S',h,c):=OTs.dropS nm q d;show(S',h.upd1 (λx hx=>?_) ob (λz=>g (c.subset z)) (λa o na e=>by rw[ao na];show e),f.sublist c,λa i=>c.subset i);let(y,j,rfl):=Lo.mp hx;show t y (gv j)
theorem Rel.unmove{j:Nat}(h:Rel K M P H0 σ0 σ env (ts++[(v,.tr S d)]) H)(e:env[j]?=Po .un)(ev:σ[j]?=Po (Po v)):Rel K M P H0 σ0 σ (env.set j (.tr S d)) ts H:=by
 let hd:=h.drop
 cbv;let(x,A,B,e1,q1,k):=hd.split e;rw[ev]at e1;cases e1
 w_up;let r:=h.e;rw[au,q1]at r;let r:aS K M P H0 (A++(Po v,Sl.un)::B++[(Po v,Sl.tr S d)]) H:=r;show(?_,by simp[h.len],hd.vw,λn ds' c=>?_);rw[k];let nd:=r.nd;rw[ac,ac,ad,bP,ad,am,show oas []=[] from rfl,Ls,sT]at nd;let(m1,m2,i):=K6.mp nd;let(l,o,p):=K6.mp m1;show r.sub (λx s m=>?_) ?_;rcases K2.mp m with m|m;show .inl (K1 _ (K1 _ m));rcases K9.mp m with m|m;cases m;show .inl (K0 _ K3);show .inl (K1 _ (K0 _ (K5 _ m)));rw[ac,ad,am];show K6.mpr (l,K6.mpr (m2,o,λa f b g z=>i b (K0 _ g) a f z.symm),λa f b g z=>(K2.mp g).elim (λw=>i a (K1 _ f) b w z) λw=>p a f b w z);by_cases hj:j=n;subst hj;rw[Lp (Lc.mp e).1]at c;cases c;rw[Lj hj]at c;show hd.ios n ds' c
theorem Rel.mutT3{e' d2 e2:av}{i:Nat}{S' S2 T:Pg}{g:V}(h:Rel K M P H0 σ0 σ env (ts++[(Pm g (.tr S2 d2))]) H)(e:env[i]?=Po (.tr S d))(k:∀b o,b ∉ S->b ∉ S2->H b=Po o->H' b=Po o)
  (ot:∀v,σ[i]?=Po (Po v)->OT K M H' v e' S') (Q:tF e') (y:OT K M H' g e2 T) (G:tF e2) (nd:(S'++T).Nodup) (sub:∀a∈S'++T,a∈S\/a∈S2\/H a=Pp):Rel K M P H0 σ0 σ (env.set i (.tr S' e')) (ts++[(Pm g (.tr T e2))]) H':=by
 let hd:=h.drop
 cbv;let(x,A,B,e1,q1,R):=hd.split e;let r:=h.e;rw[au,q1]at r;let r:aS K M P H0 (A++(Pm x (Sl.tr S d))::B++[(Pm (Po g) (Sl.tr S2 d2))]) H:=r;let(v,ev,_,h0):=r.tr _ _ _ (K1 _ (K0 _ K3));subst ev;let(_,_,_,D):=r.tr (Po g) S2 d2 (K0 _ K3);let ot:=ot v e1;let I:∀S d,oas [(Pm (Po g) (Sl.tr S d))]=S:=λS d=>by rw[ad,am,show oas []=[] from rfl,Ls]
 let oe:oas (A++(Pm (Po v) (Sl.tr S d))::B++[(Pm (Po g) (Sl.tr S2 d2))])=oas A++(S++oas B)++S2:=by rw[ac,ac,ad,am,I]
 let t:oas (A++(Pm (Po v) (Sl.tr S' e'))::B++[(Pm (Po g) (Sl.tr T e2))])=oas A++(S'++oas B)++T:=by rw[ac,ac,ad,am,I]
 let E:=r.nd;rw[oe]at E;let(m1,m2,J):=K6.mp E;let(U,W,N):=K6.mp m1;let(n4,X,Y):=K6.mp W;let(t1,t2,Z):=K6.mp nd
 w_up;let far:∀b,b∈oas A\/b∈oas B->b ∉ S/\b ∉ S2:=λb c=>by
  rcases c with c|c;show⟨λz=>N b c b (K1 _ z) rfl,λz=>J b (K1 _ c) b z rfl⟩;show⟨λz=>Y b z b c rfl,λz=>J b (K0 _ (K0 _ c)) b z rfl⟩
 let mem:∀b,b∈oas A\/b∈oas B->b∈oas (A++(Pm (Po v) (Sl.tr S d))::B++[(Pm (Po g) (Sl.tr S2 d2))]):=λb c=>by
  rw[oe];show K1 _ (c.elim (K1 _) λc=>K0 _ (K0 _ c))
 let l:∀b,b∈oas A\/b∈oas B->b ∉ S'++T:=λb c z=>by
  rcases sub b z with z|z|z;show(far b c).1 z;show(far b c).2 z;let(o,e,_):=r.own (mem b c);rw[z]at e;cases e
 let u:∀a,H a=Pp->H0 a=Pp:=λa z=>by
  cases q:H0 a with
  |none=>rfl
  |some o=>show absurd z (r.live a (by rw[q];simp))
 let L:Lay M H0 (A++(Pm (Po v) (Sl.tr S d))::B++[(Pm (Po g) (Sl.tr S2 d2))]) H (A++(Pm (Po v) (Sl.tr S' e'))::B++[(Pm (Po g) (Sl.tr T e2))]) H' (λb=>b∈S\/b∈S2):=⟨λb o O=>k b o (λz=>O (.inl z)) λz=>O (.inr z),λb c=>by
  rcases c with c|c;show⟨by rw[oe];show K1 _ (K0 _ (K1 _ c)),h0 b c⟩;show⟨by rw[oe];show K0 _ c,D b c⟩,λb c=>by
  let st:b∈S'++T->b∈oas (A++(Pm (Po v) (Sl.tr S d))::B++[(Pm (Po g) (Sl.tr S2 d2))])\/H b=Pp:=λz=>by
   rcases sub b z with z|z|z;show .inl (by rw[oe];show K1 _ (K0 _ (K1 _ z)));show .inl (by rw[oe];show K0 _ z);show .inr z
  rw[t]at c;rcases K2.mp c with c|c;rcases K2.mp c with c|c;show .inl (mem b (.inl c));rcases K2.mp c with c|c;show st (K1 _ c);show .inl (mem b (.inr c));show st (K0 _ c)⟩
 let no:∀b us,Rd H' b (.tup us)->Nw M (A++(Pm (Po v) (Sl.tr S' e'))::B++[(Pm (Po g) (Sl.tr T e2))]) b->M b:=λb us p z=>by
  rcases z with z|z;show z;rw[t]at z;let old:b∈oas A\/b∈oas B->M b:=λc=>by
   let(o,e,_):=r.own (mem b c);let e':=k b o (far b c).1 (far b c).2 e;show(r.noTup (mem b c) us ?_).elim;rcases p with p|⟨w,p⟩
   rw[e']at p;rw[p]at e;show .inl e;rw[e']at p;rw[p]at e;show .inr ⟨w,e⟩
  rcases K2.mp z with z|z;rcases K2.mp z with z|z;show old (.inl z);rcases K2.mp z with z|z;show(ot.lst1 b z us p).elim;show old (.inr z);show(y.lst1 b z us p).elim
 let n0:∀a∈S'++T,H0 a=Pp:=λa f=>(sub a f).elim (h0 a) λz=>z.elim (D a) (u a);show⟨?_,by simp[h.len],λw j m=>?_,λn ds' F=>?_⟩;rw[au,R];show aS K M P H0 (A++(Pm (Po v) (Sl.tr S' e'))::B++[(Pm (Po g) (Sl.tr T e2))]) H';show r.remake L (λx s m=>?_) (by
  rw[t];show K6.mpr ⟨K6.mpr ⟨U,K6.mpr ⟨t1,X,λa f b c z=>l b (.inr c) (K1 _ (z▸f))⟩,λa f b c z=>?_⟩,t2,λa f b c z=>?_⟩;rcases K2.mp c with c|c;show l a (.inl f) (K1 _ (z▸c));show N a f b (K0 _ c) z;rcases K2.mp f with f|f;show l a (.inl f) (K0 _ (z▸c));rcases K2.mp f with f|f;show Z a f b c z;show l a (.inr f) (K0 _ (z▸c)))
 let own:∀{C:O9},(Pm x s)∈C->∀b∈cn (Pm x s),b∈oas C:=λm b c=>aL.mpr ⟨_,m,c⟩;let go:∀b,b∈oas A\/b∈oas B->¬(b∈S\/b∈S2):=λb c z=>z.elim (far b c).1 (far b c).2;rcases K2.mp m with m|m;rcases K2.mp m with m|m;show .inl ⟨K1 _ (K1 _ m),λb c=>go b (.inl (own m b c))⟩;rcases K9.mp m with m|m;cases m;show .inr (.inr (.inr (.inr ⟨_,_,_,rfl,rfl,ot.tFto no Q,λa f=>n0 a (K1 _ f)⟩)));show .inl ⟨K1 _ (K0 _ (K5 _ m)),λb c=>go b (.inr (own m b c))⟩;let m:(Pm x s)∈[(Pm (Po g) (Sl.tr T e2))]:=m;rw[K7]at m;cases m;show .inr (.inr (.inr (.inr ⟨_,_,_,rfl,rfl,y.tFto no G,λa f=>n0 a (K0 _ f)⟩)));rcases K2.mp m with m|m;show hd.vw w j m;rw[K7]at m;cases m;by_cases hj:i=n;subst hj;rw[Lp (Lc.mp e).1]at F;cases F;rw[Lj hj]at F;show hd.ios n ds' F
end
def AB(R:Pf->Prop):gW where
 nx := λY=>False
 rt := λs env=>s=.fr (.bool Pq)/\R env
abbrev JU:=Pf->(Pf->Prop)->Prop
def spM(K:cp)(sp:JU):Sp:=λvs H Q Y=>∃(M:aG->Prop) (H0:Hp) (ss:Pf) (R:Pf->Prop),-vs=-ss/\aS K M N0 H0 (tmp (vs.zip ss)) H/\sp ss R/\∀σ0 σ' env' v H',R env'->Rel K M N0 H0 σ0 σ' env' [(v,.fr (.bool Pq))] H'->Q (.bl Pq) H'
theorem Ku{P:ky}{w:kD}{K:cp}{mg:ck->O3}{base:cc}{x q:ck}{st:Stmt}{f:aG}{fd:kx}{N ps:Pi}{k:Nat}{sp:JU}(F:Fun K x q st f fd)(S:ax N ps (af st))(len:∀ss R,sp ss R->-ss=-ps)
  (g:∀(cdv:ba) (A:Around) (outer:Pa) (s:bb) (H:Hp) (E:XK),bW k (A.deeper (QA q (af st) (~~~s) f cdv)) ->
   ∃t:DS,PSs (gC CX0 P w K mg base N q (af st) f cdv A outer s H E).nox (bA st) (upS K t)/\∀ss R,sp ss R->t (AB R) (bd (-N) ss)):aY P w K mg base CX0 (k+1) f fd ps (spM K sp):=by
 show F.ok S (λvs H Q E h=>?_) λcdv A outer s H vs Q E j h=>?_;let(M,H0,ss,R,hl,_,a,_):=h;rw[hl];show len ss R a;let(M,H0,ss,R,hl,c,a,n):=h;let(t,o,b):=g cdv A outer s H E j;let p:aw (bq N vs) (bd (-N) ss) []=tmp (vs.zip ss)++LM (-N- -vs) (Pp,Sl.un):=by show(bq N vs).zip (bd (-N) ss)++[]=_;unfold bq bd;rw[Ls,<-hl];show d9 _ hl
 show(_,o,M,N0,H0,bq N vs,bd (-N) ss,[],AB R,λw i m=>(by cases m),(?_,by simp[bq,bd,hl],λw i m=>(by cases m),λi l e=>rfl),b ss R a,(λσ' env' H' q r=>(show False from q).elim,λs env' v σ' H' q r=>?_,λσ' env' H' q r=>(show False from q),λσ' env' H' q r=>(show False from q)));rw[p];show c.sub (λx s m=>?_) (by rw[ac,lJ,Ls];show c.nd);rcases K2.mp m with m|m;show .inl m;let:=(Mw.mp m).2;cases this;show .inr (.inl rfl)
 .cbv;let(rfl,y):=q;let d:Rel K M N0 H0 (bq N vs) σ' env' [(v,.fr (.bool Pq))] H':=by simpa using r
  let(u,z,dn):=d.e.fr (Po v) _ (K0 _ K3);cases z;cases dn
  w_up;show n _ _ _ _ H' y d
section
variable{X:Cx}{K:cp}{c e:bi}{C:aG}
def Jy(t u:DT):DT:=λenv R=>t env R\/u env R
theorem FP{t u:DT}(h:PT X c (upT K t))(g:PT X c (upT K u)):PT X c (upT K (Jy t u)):=λpins s σ H Q I hw=>by
 obtain⟨M,P,H0,σ0,env,ts,R,a,b|b,d⟩:=hw;show h pins s σ H Q I (M,P,H0,σ0,env,ts,R,a,b,d);show g pins s σ H Q I (M,P,H0,σ0,env,ts,R,a,b,d)
def Hu(tl ti:DE):DE:=λenv R=>tl env λs b=>∃S ds,s=.tr S (.list ds)/\ti b λs2 a=>∃(n:Nat) (d:av),aZ a s2=Po (.int n)/\ds[n]?=Po d/\∀S',R (.tr S' d) a
theorem IJ{a b:bi}{pos:Pos}{tl ti:DE}(hK:X.K=K)(u:PE X a (up K tl))(i:PE X b (up K ti))(hs:cr b:=by exactλZ Z=>rfl):PE X (.Subscript a b pos) (up K (Hu tl ti)):=(gi (KG (K:=K) hK) u i hs).imp λσ H Q h=>by
 let(M,P,H0,σ0,env,ts,R,w,D,E):=h;show(M,P,H0,σ0,env,ts,_,w,D,λs1 l r H1 h1 o=>?_);let(S,ds,rfl,h1):=h1;show(M,P,H0,σ0,l,ts++[(r,.tr S (.list ds))],_,o,h1,λs2 c F H2 h2 j=>?_)
 cbv;let(n,d,e2,hd,G):=h2;let ei:=(j.view (v:=F) (s:=s2) (!1) e2).int;subst ei;let f:=j.drop;let(W,I,ot,h0):=f.e.tr (Po r) S _ (by rw[au];show K0 _ K3);cases I
 w_up;let p:=f.e.nd;let A:aw σ c (ts++[(r,Sl.tr S (.list ds))])=aw σ c ts++[(Po r,Sl.tr S (.list ds))]:=by rw[au];rfl
 let t:∀v S d,oas [((Po v,Sl.tr S d):Ent)]=S:=λv S d=>by rw[ad,am,show oas []=[] from rfl,Ls]
 rw[A,ac,t]at p;let(J,N,O):=K6.mp p;generalize g:eg ds=dd at ot;cases ot with
 |@lst a us ds' Y u q =>
  cbv;cases g;let(x,S1,k,S2,T,U,V,_):=q.split hd;subst U
  w_up;show(a,us,_,x,rfl,rfl,SqL.of u,bx T,?_);let sub:∀b∈k,b∈a::(S1++(k++S2)):=λb i=>by simp[i]
  let B:k.Nodup:=(K6.mp (K6.mp (Ll.mp N).2).2.1).1;let L:Lay M H0 (aw σ c (ts++[(.ref a,Sl.tr (a::(S1++(k++S2))) (.list ds))])) H2 (aw σ c ts++[(Po x,Sl.tr k d)]) H2 (λZ=>False):=(λZ Z Z e=>e,λZ z=>z.elim,λb i=>.inl (by
   rw[ac,t]at i;rw[A,ac,t];show(K2.mp i).elim (K1 _) λz=>K0 _ (sub b z)))
  show E _ _ _ _ (G k) (f.drop.withRes (f.e.remake L (λy s' m=>?_) (by
   rw[ac,t];show K6.mpr (J,B,λb i b' C z=>O b i b' (sub b' C) z))) rfl)
  rcases K2.mp m with m|m;show .inl (by rw[A];show K1 _ m,λZ Z z=>z);rw[K7]at m;cases m;show .inr (.inr (.inr (.inr (_,_,_,rfl,rfl,L.ot V (λZ Z z=>z),λb i=>h0 b (sub b i)))))
 |dct _ _ _ _=>simp[fQ]at g
 |idc _ _ _=>simp[cR]at g
 |dsk _ _ _ _=>simp[bU]at g
 |fz _=>simp[fzD]at g
 |_=>cases g
def EQ(C:aG):DE:=λenv R=>∀S,R (.tr S (bU C [])) env
theorem Bh(h:PE X e (Cr C (Ct C) [] E0 iQ)):PE X e (up K (EQ C)):=h.imp λσ H Q h=>by
 let(M,P,H0,σ0,env,ts,R,d,k,l):=h;intro x dx hx i ne;show(x,dx,rfl,aq,λb c=>(rfl,?_))
 cbv;let f:b≠x:=λz=>by rw[z,aq]at c;cases c
 rw[ao f]at c;let j:b≠dx:=λz=>by rw[z,aq]at c;cases c
 w_up;rw[ao j]at c;let m:aA H (upd (upd (upd (upd H dx (.own x)) x (.ins C dx [])) b (dkO [])) x (dsO C dx b)):=λy o e=>by
  let a1:y≠x:=ay e hx;let a2:y≠b:=ay e c;let n:y≠dx:=ay e i;rw[ao a1,ao a2,ao a1,ao n];show e
 show l _ _ _ _ (k [x,b]) (d.withRes (d.e.called m (.tr (.dsk (es:=[]) (S:=[]) aq (by rw[ao f];show aq) rfl .nil) (λa g=>?_) (by simp[f.symm]))) rfl);let g:H a=Pp:=by rcases K9.mp g with z|z;rw[z];show hx;rw[K7.mp z];show c
 show(g,d.newAddr g)
def JH:DE:=λenv R=>∀S,R (.tr S (cR [])) env
theorem IK(h:PE X e yR):PE X e (up K JH):=h.imp λσ H Q h=>by
 let(M,P,H0,σ0,env,ts,R,b,d,f):=h;intro p c;show f _ _ _ _ (d [p]) (b.withRes (b.e.called (aA.new c) (.tr (.idc (es:=[]) (S:=[]) aq rfl .nil) (λa g=>?_) (!1))) rfl);rw[K7.mp g];show(c,b.newAddr c)
end
section
variable{X:Cx}{K:cp}{e:bi}{st:Stmt}{C:aG}
theorem vi{kvs:OW}(h:∀p∈kvs,noF p.2=Pq):tF (cR kvs):=.inr (kvs,h,.inl rfl)
theorem AX{kvs:OW}(h:∀p∈kvs,noF p.2=Pq):tF (bU C kvs):=.inr (kvs,h,.inr (C,rfl))
theorem wV{kvs:OW}{nm:ck}{d:av}(h:∀p∈kvs,noF p.2=Pq)(hd:noF d=Pq):∀p∈putS kvs nm d,noF p.2=Pq:=λp a=>(ll a).elim (h p) λz=>by rw[z];show hd
theorem sy{kvs:OW}{nm:ck}(h:∀p∈kvs,noF p.2=Pq):∀p∈dropS kvs nm,noF p.2=Pq:=λp a=>h p (gv a)
theorem tJ{H:Hp}{b:aG}{es:O1}(h:H b=Po (dkO es))(us:Pl):¬Rd H b (.tup us):=λz=>by
 rcases z with z|⟨w,z⟩ <;> rw[h]at z <;> cases z
def EA(i k j:Nat):DS:=λDD env=>∃S kvs nm S2 d,i≠j/\env[i]?=Po (.tr S (cR kvs))/\env[k]?=Po (.fr (.str nm))/\env[j]?=Po (.tr S2 d)/\(∀p∈kvs,noF p.2=Pq)/\noF d=Pq/\(kvs.map (·.1)).Nodup/\kvs.length<1000000 /\
 ∀S',S'.head? = S.head?->DD.nx ((env.set j .un).set i (.tr S' (cR (putS kvs nm d))))
theorem CN{i k j:Nat}(h:PS X st (E7 (d5 j) (Ke (d5 i) (d5 k) FI))):PS X st (upS K (EA i k j)):=h.imp λD σ H h=>by
 cbv;let(M,P,H0,σ0,env,ts,DD,nv,l,(S,kvs,nm,S2,d,ne,ei,Q,J,hn,hd,R,hz,U),ok):=h;let(s,t,u,B,C,V,W):=l.treeI J;let(w,Y,dn):=l.frI Q;cases dn;let(Z,f,c):=l.move J rfl;rw[t]at f;cases f
 w_up;let m:(env.set j .un)[i]?=Po (.tr S (cR kvs)):=by rw[Lj ne.symm];show ei
 cbv;let(v1,n,E,F,a0,a3,a4):=c.treeI m;let(a,es,S',rfl,rfl,L,p,q):=E.idcI rfl;let(g,A):=Ll.mp F
 w_up;let le:-es=-kvs:=by let:=congrArg nn p;rwa [K4,K4]at this
 show(s,t,_,n,_,Y,nm,a,es,rfl,rfl,L,!0,?_)
 cbv;let(u2,G,u,_):=c.e.tr (Po s) S2 d (by rw[au];show K0 _ K3);cases G;let I:oas (tmp [(s,Sl.tr S2 d)])=S2:=by show oas [((Po s,Sl.tr S2 d):Ent)]=S2;rw[ad,am,show oas []=[] from rfl,Ls]
 let r:∀x∈S2,x ∉ a::S':=λx hx z=>by
  let(y,N,my):=c.drop.slot m;let nd:=c.e.nd;rw[au,ac,I]at nd;show(K6.mp nd).2.2 x (aL.mpr (_,my,by
   rw[n]at N;cases N;rw[am];show z)) x hx rfl
 let(T,t1,t2,O):=q.put1 (nm:=nm) (o':=dkO (putS es nm s)) p R A hn u B hd (λx hx z=>r x hx (K5 _ z)) (tJ L) g (λz=>r a z K3)
 w_up;let na:a ∉ T:=λz=>(O a z).elim g λw=>r a w K3;show ok.nx _ _ _ (U (a::T) rfl) (c.mutT2 m (λb o nb _ e=>by rw[ao (λz=>nb (by rw[z];show K3))];show e) (λb hb=>C b (by rw[<-I];show hb)) (λv e=>?_) (vi (wV hn hd)) (Ll.mpr (na,t2)) λx hx=>?_);rw[n]at e;cases e;show(OT.idc aq (mQ nm s d p) t1).to λb o _ z=>.inl z;rw[I];rcases K9.mp hx with z|z;show .inl (by rw[z];show K3);show(O x z).imp (K5 _) .inl
def ED(i k:Nat):DS:=λDD env=>∃S kvs nm,env[i]?=Po (.tr S (cR kvs))/\env[k]?=Po (.fr (.str nm))/\(∀p∈kvs,noF p.2=Pq)/\(atS kvs nm).isSome=Pq /\
 ∀S',S'.head? = S.head?->DD.nx (env.set i (.tr S' (cR (dropS kvs nm))))
theorem CO{i k:Nat}(h:PS X st (ub (tBM K "dict" FJ (d5 i) (bv (d5 k) iQ)))):PS X st (upS K (ED i k)):=h.imp λD σ H h=>by
 cbv;let(M,P,H0,σ0,env,ts,DD,nv,d,(S,kvs,nm,ei,r,hn,hs,s),ok):=h;let(w,t,dn):=d.frI r;cases dn;let(C,g,l,m,u,y,A):=d.treeI ei;let(a,es,S',rfl,rfl,n,f,q):=l.idcI rfl;let(c,j):=Ll.mp m;rw[<-fA nm f]at hs;let(v,hv):=Me.mp hs
 w_up;show(_,g,.inr (.inr (.inl (rfl,.inl (_,n)))),_,t,nm,a,es,v,rfl,rfl,n,hv,?_);let(T,t1,t2,p):=q.drop1 (nm:=nm) (o':=dkO (dropS es nm)) f j hn (tJ n) c;show ok.nx _ _ _ (s (a::T) rfl) (d.mutT ei (λb o B e=>by rw[ao (λz=>B (by rw[z];show K3))];show e) (λv e=>?_) (vi (sy hn)) (Ll.mpr (λz=>c (p a z),t2)) λx hx=>?_);rw[g]at e;cases e;show(OT.idc aq (fv nm f) t1).to λb o Y z=>.inl z;rcases K9.mp hx with z|z;show .inl (by rw[z];show K3);show .inl (K5 _ (p x z))
end
theorem Rel.apart{K:cp}{M P:aG->Prop}{H0 H:Hp}{σ0 σ:St}{env:Pf}{ts:O0}{i:Nat}{S:Pg}{d:av}{y:Pb}{s:Sl}{b:aG}(h:Rel K M P H0 σ0 σ env ts H)(ei:env[i]?=Po (.tr S d))(m:(y,s)∈aw σ env ts)(ns:∀S d,s≠.tr S d)(a:b∈cn (y,s)):b ∉ S:=λz=>by
 cbv;let(x,A,B,e1,q1,j):=h.split ei;let r:=h.e;rw[q1]at r;let nd:=r.nd;rw[q1]at m;let(v,ev,_):=r.tr _ _ _ (K0 _ K3);subst ev;rw[ac,ad,am]at nd;let(k,c,f):=K6.mp nd;let(l,n,g):=K6.mp c
 w_up;rcases K2.mp m with m|m;show f b (aL.mpr (_,m,a)) b (K1 _ z) rfl;rcases K9.mp m with m|m;cases m;show ns _ _ rfl;show g b z b (aL.mpr (_,m,a)) rfl
section
variable{X:Cx}{K:cp}{c e:bi}{C:aG}
def Kj(kvs:OW)(t:Int)(nm:ck)(d:av)(Z:OW->Prop):Prop :=
 (t = 2/\(atS kvs nm).isSome=Pq/\Z (dropS kvs nm))\/((t=0/\(atS kvs nm).isSome=Pr\/t=1/\(atS kvs nm).isSome=Pq)/\Z (putS kvs nm d))
theorem mZ(s o:O7):noF (tnD s o)=Pq:=lN [s,o]
def xN(C:aG)(i it ik ih iz:Nat):DT:=λenv R=>∃S kvs t nm b s o,env[i]?=Po (.tr S (bU C kvs))/\env[it]?=Po (.fr (.int t))/\env[ik]?=Po (.fr (.str nm))/\env[ih]?=Po (.tr b (tnD s o))/\env[iz]?=Po (.ow []) /\
 (∀p∈kvs,noF p.2=Pq)/\(kvs.map (·.1)).Nodup/\kvs.length<1000000/\s.length<=1000000/\o.length<=1000000/\Kj kvs t nm (tnD s o) λa=>∀S',S'.head? = S.head?->R Pr (env.set i (.tr S' (bU C a)))
theorem CK{i it ik ih iz:Nat}(h:PT X c (vg (tOp (FL K) (jH (vq K C) [] E0 (bv (d5 i) (bv (d5 it) (bv (d5 ik) (bv (d5 ih) iQ))))) (d5 iz)))):PT X c (upT K (xN C i it ik ih iz)):=h.imp λσ H Q h=>by
 cbv;let(M,P,H0,σ0,env,ts,R,d,(S,kvs,t,nm,S7,s,o,ei,et,ek,eh,ez,hn,nk,hz,h1,h2,U),hq):=h;let(v1,B,V,W,c6,c7,c8):=d.treeI ei;let(wt,Y,Z):=d.frI et;cases Z;let(wk,a0,a3):=d.frI ek;cases a3;let(vh,a4,r,c9,d0,d6,e0):=d.treeI eh;let(az,us,D,a5,qz):=d.mine ez rfl;cases qz;let(a,b,dx,es,S',rfl,rfl,O,E,g,q):=V.dskI rfl
 w_up;let le:-es=-kvs:=by let:=congrArg nn g;rwa [K4,K4]at this
 let n:=W;simp only[Ll,K9,not_or]at n;let((u,a6),A,nS):=n;show(_,B,_,Y,_,a0,_,a4,a,dx,b,es,t,nm,vh,rfl,O,E,?_);let a7:∀x,Nw M (aw σ env ts) x->H x≠Pp:=λx z w=>d.newAddr w z;let nz:az ∉ a::b::S':=by
  cbv;let(y2,F,b0):=d.slot ez;rw[D]at F;cases F
  w_up;show d.apart ei b0 (λ_ _ z=>by cases z) (K7.mpr rfl)
 let fin:∀(H1:Hp) (f:OW) (T:Pg),(∀y o,y ∉ a::b::S'->H y=Po o->H1 y=Po o)->OT K (Nw M (aw σ env ts)) H1 (.ref a) (bU C f) (a::b::T)->(∀p∈f,noF p.2=Pq)->T.Nodup->(∀x∈T,x∈S'\/H x=Pp) ->
   (∀S2,S2.head? = (a::b::S').head?->R Pr (env.set i (.tr S2 (bU C f))))->∀q H2,aA H1 H2->H1 q=Pp->H2 q=Po (.lst [])->(∃v,σ[iz]?=Po (Po v)/\FL K (.ref q) v H2 λx H'=>∃k,x=.bl k/\Q k H'):=λH1 f T kp ot b3 b4 sub G q H2 l e9 b5=>by
  show(_,D,.list [],.list [],.lst (.inl (.inl b5)) .nil,.lst (.inl (.inl (l _ _ (kp _ _ nz a5)))) .nil,(!3),(!3),Pr,rfl,hq _ _ _ (G (a::b::T) rfl) ?_);show d.mutT ei (λy o I e=>l _ _ (kp y o I e)) (λv e=>?_) (AX b3) ?_ λx hx=>?_;rw[B]at e;cases e;show(ot.keep (aM.same l) λy J=>by
   let(o,j):=ot.lives y J;rw[j,l _ _ j]).to λy o _ z=>.inl z
  simp only[Ll,K9,not_or];show((u,λz=>?_),λz=>?_,b4);rcases sub a z with w|w;show a6 w;rw[O]at w;cases w;rcases sub b z with w|w;show A w;rw[E]at w;cases w;simp only[K9]at hx ⊢;rcases hx with z|z|z;show .inl (.inl z);show .inl (.inr (.inl z));show(sub x z).imp (λw=>.inr (.inr w)) id
 unfold Kj at U;rw[<-fA nm g]at U;rcases U with⟨rfl,hs,G⟩|⟨hc,G⟩
 let(T,t1,t2,t3):=q.drop1 (nm:=nm) (o':=dkO (dropS es nm)) g nS hn (tJ E) A;show .inl (rfl,hs,fin _ _ T (λy o I e=>by rw[ao (λz=>I (by rw[z];simp))];show e) (.dsk (by rw[ao u];show O) aq (fv nm g) t1) (sy hn) t2 (λx hx=>.inl (t3 x hx)) G);show .inr (hc,λy=>Nw M (aw σ env ts) y/\y ∉ S7,s,o,r.dn (λ_ z=>z.1) (λy J z=>z.2 J),λy z=>a7 y z.1,h1,h2,!0,λp H2 S2 l b6 c3 n2=>?_);let L:OT K (Nw M (aw σ env ts)) H2 p (tnD s o) S2:=by
  show b6.noFto (λy us N z=>(z,λw=>?_)) (mZ s o);let(o',j):=r.lives y w;let m:=l _ _ j;show r.lst1 y w us ?_;rcases N with N|⟨x,N⟩
  rw[N]at m;cases m;show .inl j;rw[N]at m;cases m;show .inr (x,j)
 let ae:=l _ _ O;let be:=l _ _ E;let q2:=q.keep (aM.same l) λy J=>by
  let(o,j):=q.lives y J;rw[j,l _ _ j]
 let c4:∀x∈S2,x ∉ S':=λx hx z=>by
  let(o,j):=q.lives x z;rw[n2 x hx]at j;cases j
 let c5:b ∉ S2:=λz=>by
  let:=n2 b z;rw[E]at this;cases this
 let(T,t1,t2,t3):=q2.put1 (nm:=nm) (o':=dkO (putS es nm p)) g nk nS hn L c3 (mZ s o) c4 (tJ be) A c5;show fin _ _ T (λy o I e=>by rw[ao (λz=>I (by rw[z];simp))];show l _ _ e) (.dsk (by rw[ao u];show ae) aq (mQ nm p _ g) t1) (wV hn (mZ s o)) t2 (λx hx=>(t3 x hx).imp id (n2 x)) G
end
abbrev KD:=OW
inductive rK (C:aG) (G:KD->ck->Int->Prop) (F:KD->ck->Int->KD):JU
 |mk {ss R} (S1 S2:Pg) (kvs:KD) (nm:ck) (n:Int):ss=[.tr S1 (bU C kvs),.tr S2 (cR kvs),.fr (.str nm),.fr (.int n)]->G kvs nm n ->
  (∀env' S1' S2',env'[0]?=some (.tr S1' (bU C (F kvs nm n)))->S1'.head? = S1.head?->env'[1]?=some (.tr S2' (cR (F kvs nm n)))->S2'.head? = S2.head?->R env')->rK C G F ss R
theorem Rel.apart2{K:cp}{M P:aG->Prop}{H0 H:Hp}{σ0 σ:St}{env:Pf}{ts:O0}{i j:Nat}{S1 S2:Pg}{d1 d2:av}(h:Rel K M P H0 σ0 σ env ts H)(ei:env[i]?=Po (.tr S1 d1))(f:env[j]?=Po (.tr S2 d2))(ne:i≠j):∀x∈S1,∀y∈S2,x≠y:=λx hx y g=>by
 let(c,k,a):=h.move f rfl;let b:(env.set j .un)[i]?=Po (.tr S1 d1):=by rw[Lj ne.symm];show ei
 cbv;let(u,n,d):=a.drop.slot b;let(w,l,_):=a.drop.e.tr _ _ _ d;subst l
 w_up;let nd:=a.e.nd;let m:oas (tmp [(c,Sl.tr S2 d2)])=S2:=by show oas [((Po c,Sl.tr S2 d2):Ent)]=S2;rw[ad,am,show oas []=[] from rfl,Ls]
 rw[au,ac,m]at nd;show(K6.mp nd).2.2 x (aL.mpr (_,d,by rw[am];show hx)) y g
section
variable{X:Cx}{K:cp}{c e:bi}{C:aG}{G:KD->ck->Int->Prop}{F:KD->ck->Int->KD}
def xO(C:aG)(G:KD->ck->Int->Prop)(F:KD->ck->Int->KD)(i j k:Nat)(te:DE):DT:=λenv R=>∃S1 S2 kvs nm,i≠j/\env[i]?=Po (.tr S1 (bU C kvs))/\env[j]?=Po (.tr S2 (cR kvs))/\env[k]?=Po (.fr (.str nm)) /\
 te (env.map d7) λs Y=>∃n,s=.fr (.int n)/\G kvs nm n/\(∀p∈F kvs nm n,noF p.2=Pq)/\∀S1' S2',R Pq (((env.set j .un).set i (.tr S1' (bU C (F kvs nm n)))).set j (.tr S2' (cR (F kvs nm n))))
theorem CL{i j k:Nat}{te:DE}(h:PT X c (vg (jH (spM K (rK C G F)) [] E0 (bv (d5 i) (bv (d5 j) (bv (d5 k) (bv (up K te) iQ))))))):PT X c (upT K (xO C G F i j k te)):=h.imp λσ H Q h=>by
 cbv;let(M,P,H0,σ0,env,ts,R,f,(S1,S2,kvs,nm,ne,ei,u,ek,ht),hq):=h;let(v1,t,_):=f.treeI ei;let(v2,p,_):=f.treeI u;let(wk,O,T):=f.frI ek;cases T
 w_up;show(v1,t,v2,p,_,O,M,N0,H,σ,_,[],_,f.lentA,ht,λs b6 v4 H1 h1 l=>?_)
 cbv;let(n,rfl,hg,hF,hR):=h1;let f:=f.same l.e.keep.none;let(w,ew,dn):=l.e.fr (Po v4) _ (K0 _ K3);cases ew;obtain rfl:=dn.int';clear l ht;let(c4,r,y,U,c5,W,Y):=f.treeI ei;rw[t]at r;cases r;let(Z,g,A,a0,c6,a3,a4):=f.treeI u;rw[p]at g;cases g;let(Z,g,B):=f.move u rfl;rw[p]at g;cases g
 w_up;let a5:(env.set j .un)[i]?=Po (.tr S1 (bU C kvs)):=by rw[Lj ne.symm];show ei
 let a6:=f.apart2 ei u ne
 cbv;let(a1,b1,dx,es,T1,rfl,rfl,_,_,_,_):=y.dskI rfl;let(a2,c7,T2,rfl,rfl,_,_,_):=A.idcI rfl;generalize a7:a1::b1::T1=S1 at *;generalize b0:a2::T2=S2 at *
 w_up;let oE:oas (tmp (([.ref a1,.ref a2,.str nm,.int n]:Pl).zip [.tr S1 (bU C kvs),.tr S2 (cR kvs),.fr (.str nm),.fr (.int n)]))=S1++S2:=by show oas [((Po _,Sl.tr S1 (bU C kvs)):Ent),(Po _,Sl.tr S2 (cR kvs)),(Po _,.fr (.str nm)),(Po _,.fr (.int n))]=_;rw[ad,am,ad,am];simp[oas,cn]
 let D:∀b (o:HO),H1 b=Po o->Nw M (tmp (([.ref a1,.ref a2,.str nm,.int n]:Pl).zip [.tr S1 (bU C kvs),.tr S2 (cR kvs),.fr (.str nm),.fr (.int n)])) b->Nw M (aw σ env ts) b:=λb o V z=>by
  rcases z with z|z;show .inl z;rw[oE]at z;show(K2.mp z).elim (Y b) (a4 b)
 show(M,λa=>if a∈S1\/a∈S2 then Pp else H1 a,_,λenv'=>∃S1' S2',env'[0]?=Po (.tr S1' (bU C (F kvs nm n)))/\S1'.head? = S1.head?/\env'[1]?=Po (.tr S2' (cR (F kvs nm n)))/\S2'.head? = S2.head?,rfl,(λb o V e=>?_,λb z=>?_,λb z=>?_,λb z=>z.elim,λx d m=>?_,λx d m=>?_,λx d m=>?_,λx S d m=>?_,?_),.mk S1 S2 kvs nm n rfl hg (λenv' S1' S2' q1 I J L=>(S1',S2',q1,I,J,L)),λc3 σ' env' v' H' b3 N=>?_);split at e;cases e;show e;split at z;show absurd rfl z;show z;let lv:=f.e.live b (f.e.mt b z);rw[OH];show lv
 exactλw=>w.elim (λw=>W b w z) λw=>a3 b w z
 all_goals try
  let m:(x,_)∈[((Po _,Sl.tr S1 (bU C kvs)):Ent),(Po _,Sl.tr S2 (cR kvs)),(Po _,.fr (.str nm)),(Po _,.fr (.int n))]:=m;simp only[K9,ms,reduceCtorEq,and_false,false_or,or_false,Lv,Sl.fr.injEq,Sl.tr.injEq]at m
 rcases m with⟨rfl,rfl⟩|⟨rfl,rfl⟩
 show(_,rfl,.str _);show(_,rfl,.int _);rcases m with⟨rfl,rfl,rfl⟩|⟨rfl,rfl,rfl⟩
 show(_,rfl,y.to D,λa E=>OG (.inl E));show(_,rfl,A.to D,λa E=>OG (.inr E));let q:(S1++S2).Nodup:=K6.mpr (U,a0,a6);rw[<-oE]at q;show q
 .let(S1',S2',q1,I,J,L):=b3;show(Pq,rfl,hq _ _ _ (hR S1' S2') ?_)
  cbv;let(w1,x1,o1,t1,z1,_):=N.treeI q1;let(w2,x2,o2,t2,z2,_):=N.treeI J;let ds2:=N.apart2 q1 J (!2);let(b4,c8,_,_,U1,rfl,g1,_):=o1.dskI rfl;let(b5,_,U2,rfl,g2,_):=o2.idcI rfl
  w_up;let h1:b4=a1:=by rw[g1,<-a7]at I;show du I
  let h2:b5=a2:=by rw[g2,<-b0]at L;show du L
  subst h1 h2;let kp:∀b o,b ∉ S1->b ∉ S2->H1 b=Po o->H' b=Po o:=λb o n1 n2 e=>N.e.keep b o (λz=>z) (by
   show(if b∈S1\/b∈S2 then Pp else H1 b)=Po o;rw[OH λz=>z.elim n1 n2];show e)
  let sb:∀a,(if a∈S1\/a∈S2 then Pp else H1 a)=Pp->a∈S1\/a∈S2\/H1 a=Pp:=λa z=>by
   by_cases w:a∈S1\/a∈S2;show w.elim .inl λw=>.inr (.inl w);rw[OH w]at z;show .inr (.inr z)
  let m3:=B.mutT3 a5 kp (λv e=>by
   rw[t]at e;cases e;show o1.to λb o V z=>.inl z) (AX hF) (o2.to λb o V z=>.inl z) (vi hF) (K6.mpr (t1,t2,ds2)) (λa E=>(K2.mp E).elim (λw=>sb a (z1 a w)) λw=>sb a (z2 a w))
  show m3.unmove (by
   rw[Lj ne,Lp (Lc.mp u).1]) p
end
end _L
set_option maxHeartbeats 400000
namespace _L
open PySem PySem.Spec PyProof.Rows PySem.W
section
variable{X:Cx}{K:cp}{ei:bi}{te ti:DE}
theorem FS{a b l:bi}{o:Zi}{p:Pos}{x1}{c d pos:Pos}{tl:DE}(hK:X.K=K)(h1:PE X (.BinOp a o b p) (up K te))(hl:PE X l (up K tl))(hi:PE X ei (up K ti))(hs:cr ei) :
  PE X (.Tuple [.List [.BinOp a o b p] c,.Subscript l ei d] x1 pos) (up K (qu (ju (Fd (ju te yK)) (ju (Hu tl ti) yK)))) :=
 j4 (aa (dR (aa h1 ag)) (aa (IJ hK hl hi hs) ag))
end
noncomputable def gR:Pj->OO
 |[]=>Po []
 |.Constant (.int n) _ _::es=>(gR es).map (n::·)
 |_=>Pp
def jg:Pj->Option OQ
 |[]=>Po []
 |.List es _::r=>(gR es).bind λa=>(jg r).map (a::·)
 |_=>Pp
def DH:bi->Option OQ
 |.List es _=>jg es
 |_=>Pp
section
variable{X:Cx}{K:cp}
def Hw(ns:O7):DA:=λenv R=>R (ns.map λn=>.fr (.int n)) env
set_option tactic.hygienic true in
theorem vZ:∀{es:Pj}{ns:O7},gR es=Po ns->PA X es (upA K (Hw ns))
 |[],ns,h=>by cases h;show ag
 |e :: es,ns,h=>by
  unfold gR at h;split at h;cases ‹_=[]›;rename_i n j p r a;cases a;cases q:gR es with
  |none=>rw[q]at h;cases h
  |some m =>
   rw[q]at h;cases h;show aa ap (vZ q)
  cases h
def Hq(rows:OQ):DA:=λenv R=>R (rows.map λr=>.ow (r.map .int)) env
theorem ko(env:Pf):∀ns:O7,bh env (ns.map λn=>Sl.fr (.int n))=Po (ns.map .int)
 |[]=>rfl
 |n::ns=>by
  let:=ko env ns;simp[bh,aK,this]
set_option tactic.hygienic true in
theorem vY:∀{es:Pj}{rows:OQ},jg es=Po rows->(∀r∈rows,-r<=1000000)->PA X es (upA K (Hq rows))
 |[],rows,h,_=>by cases h;show ag
 |e :: es,rows,h,hz=>by
  unfold jg at h;split at h;cases ‹_=[]›;rename_i cs p r c;cases c;cases q1:gR cs with
  |none=>rw[q1]at h;cases h
  |some a =>
   cases q:jg es with
   |none=>rw[q1,q]at h;cases h
   |some m =>
    rw[q1,q]at h;cases h;show(aa (dR (vZ q1)) (vY q λr d=>hz r (K5 _ d))).imp λσ H Q h=>?_;let(M,P,H0,σ0,env,ts,R,b,f,g):=h;show(M,P,H0,σ0,env,ts,R,b,(_,ko env a,by rw[K4];show Ld (hz a K3) ar,f),g)
  cases h
def AG(rows:OQ):DE:=λenv R=>∀S,R (.tr S (.list (fB rows))) env
theorem jU(env:Pf):∀rows:OQ,bN env (rows.map λr=>Sl.ow (r.map .int))=Po (fB rows)
 |[]=>rfl
 |r::rows=>by
  let:=jU env rows;simp only[Le,bN,eF,dq,if_true,this];rfl
theorem FZ{l:bi}(rows:OQ)(h:DH l=Po rows)(h1:-rows<=1000000)(h2:∀r∈rows,-r<=1000000):PE X l (up K (AG rows)):=by unfold DH at h;split at h;show(j6 (K:=K) (vY h h2)).imp λσ H Q h=>?_;let(M,P,H0,σ0,env,ts,R,a,b,c):=h;show(M,P,H0,σ0,env,ts,R,a,(_,jU env rows,by rw[K4];show Ld h1 ar,b),c);cases h
theorem CS{ei a b l:bi}{te ti:DE}{o:Zi}{p:Pos}{x1}{c d pos:Pos}(rows:OQ)(hK:X.K=K)(hl:DH l=Po rows)(e:-rows<=1000000)(z2:∀r∈rows,-r<=1000000)(h1:PE X (.BinOp a o b p) (up K te))(hi:PE X ei (up K ti))(hs:cr ei) :
  PE X (.Tuple [.List [.BinOp a o b p] c,.Subscript l ei d] x1 pos) (up K (qu (ju (Fd (ju te yK)) (ju (Hu (AG rows) ti) yK)))):=FS hK h1 (FZ rows hl e z2) hi hs
end
section
variable{X:Cx}{K:cp}{e:bi}
def EO:DE:=λenv R=>R (.fr (cR [])) env
theorem Ga(h:PE X e yR):PE X e (up K EO):=h.imp λσ H Q h=>by
 let(M,P,H0,σ0,env,ts,R,a,c,d):=h;intro p b;show d _ _ _ _ c ((a.same (aA.new b)).addFr (.idc (es:=[]) (kvs:=[]) (a.newAddr b) aq rfl .nil))
end
section
variable{X:Cx}{K:cp}{a b e:bi}{ta tb te:DE}{pos p:Pos}
theorem qx(c:PE X a (up K ta))(d:PE X b (up K tb))(hK:X.K=K⊕'Pt)(hs:cr b⊕'Py):PE X (.Subscript a b pos) (up K (dOp gIx ta tb)):=HJ (ff hK) mIx c d hs
theorem qxK(c:PE X a (up K ta))(d:PE X b (up K tb))(hK:X.K=K⊕'Pt)(e:X.A.units+2<Qj:=by exact hu2 (by assumption))(hs:cr b⊕'Py):PE X (.Subscript a b pos) (up K (dOp HQ ta tb)):=HJ (KH hK e) Ky c d hs
theorem uo(b:X.mg "len" = none)(h:PE X e (up K te))(hK:X.K=K⊕'Pt)(c:Gl X "len"⊕'Pt)(a:kh [e] X.env=(false,eval e X.env)::kh [] X.env⊕'Pt):PE X (.Call (.Name "len" p) [e] [] pos) (up K (dCB G5 (ju te yK))):=HK (KF hK) Kx c b PySem.boot_len (aa h ag a) (!2) (!2) a
end
end _L
namespace _W
open PySem _L
local macro_rules | `(tactic| walk_at "d2") => do
 let l <- (("Hz,EO,AG,Jy,Hu,EQ,JH,xN,xO,EA,ED,x6,qu,AB,Hx,JD,JG,Es,x5,dLk,JF,Hv,JJ,Ey,Ex,oh,dRz,CJ,CH,Er,xY,EM,qw,x3,EC,yb,qy,EJ,EN,x8,EK,EE,JA,noF,iC,JI,BZ,lW,ya,qt,d7,EH,tN,EU,Eu,EG,x9,JE,Et,s9,xo,ES,ER,Ew,qo,HQ,A5,rf,Dx,oh,Fc,BX,tK,En,dFz,xQ,Eo,Hr,yc,AJ,Hy,ET,xZ,HX,dOp,Ht,dUn,HV,Fe,dC,l6,JK,dOr,JB,EW,EF,dIf,Fb,Fd,ju,yK,yd,dCB,dIs,xX,HW,AI,l8,qA,xW,HY,Jz,tO,AH,Ez,AK,qC,Ep,sqD,gI,gIC,gB,gEq,gNe,HR,Az,gIn,gIx,HS,G5,D9,Jp,EI,x4,BD,BJ,BH,xJ,Jo,HP,qu,x6,EV,Sl.tr.injEq,JC,HM,oj,eF,bN,slF,noL,gP,dq,rB,rY,nt,rm,rg,rh,q9,jS,iP,nA,nu,nr,jl,ig,A8,A6,A7,A4,A3,A0,A1,AZ,rD,rC,rA,r6,rZ,rX,vN,vM,jQ,nL,nJ,nK,nI,tG,tH,bd,rN,rO,wG,wH,wI,wF,jR,oA,oz,tU,tS,tT,tR,jX,iU,mr,mw,rn,mv,jT,nC,sU,nG,nF,kt,xx,sW,BM,BO,sV,nH,BG,BB,BK,BN,BF,BE,BC,BL,BI,bt,tz,Cb,Ca,B9,B8,B7,B6,B5,B4,tu,BT,BU,vB,rL,rM,List.map_cons,List.map_nil,List.length_cons,List.length_nil,List.cons_append,List.nil_append,List.append_nil,List.replicate_succ,List.replicate_zero,List.set_cons_succ,List.set_cons_zero,List.getElem?_cons_zero,List.getElem?_cons_succ,List.getElem?_nil,List.take_succ_cons,List.take_zero,List.take_nil,List.drop_succ_cons,List.drop_zero,List.drop_nil,Option.some.injEq,Option.bind_some,Option.bind_none,Option.map_some,Option.map_none,Sl.fr.injEq,Sl.ow.injEq,Sl.io.injEq,Sl.vw.injEq,PyData.int.injEq,PyData.bool.injEq,PyData.list.injEq,PyData.tuple.injEq,PyData.str.injEq,List.cons.injEq,reduceCtorEq,and_true,true_and,and_false,false_and,and_assoc,exists_eq_left',exists_eq_left,exists_and_left,exists_eq',exists_eq,exists_false,exists_const,Nat.reduceSub,Nat.reduceAdd,Nat.reduceLT,Nat.zero_add,Nat.lt_add_left_iff_pos,decide_eq_true_eq,ite_true,ite_false,Bool.false_eq_true,if_true,if_false,Bool.not_eq_true',Bool.not_eq_true,decide_eq_false_iff_not,Int.zero_add,String.reduceBEq,Bool.true_and,Bool.and_true,Bool.or_false,Bool.false_or,Bool.or_true,Bool.true_or,Bool.and_false,Bool.false_and,Bool.not_true,Bool.not_false,id_eq,Sl.ctorIdx,Nat.succ_eq_add_one".splitOn ",").toArray.mapM λs => `(Lean.Parser.Tactic.simpLemma| $(Lean.mkIdent s.toName):ident))
 `(tactic|simp only[$l,*])
local macro_rules | `(tactic| walk_at "d1") => do
 let l <- (("EO,AG,Jy,Hu,EQ,JH,xN,xO,EA,ED,x6,qu,AB,Hx,JD,JG,Es,x5,dLk,JF,Hv,JJ,Ey,Ex,oh,dRz,CJ,CH,Er,xY,EM,qw,x3,EC,yb,qy,EJ,EN,x8,EK,EE,JA,noF,iC,JI,BZ,lW,ya,qt,d7,EH,tN,EU,Eu,EG,x9,JE,Et,s9,xo,ES,ER,Ew,qo,HQ,A5,rf,Dx,oh,Fc,BX,tK,En,dFz,xQ,Eo,Hr,yc,AJ,Hy,ET,xZ,HX,dOp,Ht,dUn,HV,Fe,dC,l6,JK,dOr,JB,EW,EF,dIf,Fb,Fd,ju,yK,yd,dCB,dIs,xX,HW,AI,l8,qA,xW,HY,Jz,tO,AH,Ez,AK,qC,Ep,sqD,gI,gIC,gB,gEq,gNe,HR,Az,gIn,gIx,HS,G5,D9,Jp,EI,x4,BD,BJ,BH,xJ,Jo,HP,qu,x6,EV,Sl.tr.injEq,JC,HM,oj,eF,bN,slF,noL,gP,dq,rB,rY,nt,rm,rg,rh,q9,jS,iP,nA,nu,nr,jl,ig,A8,A6,A7,A4,A3,A0,A1,AZ,rD,rC,rA,r6,rZ,rX,vN,vM,jQ,nL,nJ,nK,nI,tG,tH,bd,rN,rO,wG,wH,wI,wF,jR,oA,oz,tU,tS,tT,tR,jX,iU,mr,mw,rn,mv,jT,nC,sU,nG,nF,kt,xx,sW,BM,BO,sV,nH,BG,BB,BK,BN,BF,BE,BC,BL,BI,bt,tz,Cb,Ca,B9,B8,B7,B6,B5,B4,tu,BT,BU,vB,rL,rM,List.map_cons,List.map_nil,List.length_cons,List.length_nil,List.cons_append,List.nil_append,List.append_nil,List.replicate_succ,List.replicate_zero,List.set_cons_succ,List.set_cons_zero,List.getElem?_cons_zero,List.getElem?_cons_succ,List.getElem?_nil,List.take_succ_cons,List.take_zero,List.take_nil,List.drop_succ_cons,List.drop_zero,List.drop_nil,Option.some.injEq,Option.bind_some,Option.bind_none,Option.map_some,Option.map_none,Sl.fr.injEq,Sl.ow.injEq,Sl.io.injEq,Sl.vw.injEq,PyData.int.injEq,PyData.bool.injEq,PyData.list.injEq,PyData.tuple.injEq,PyData.str.injEq,List.cons.injEq,reduceCtorEq,and_true,true_and,and_false,false_and,and_assoc,exists_eq_left',exists_eq_left,exists_and_left,exists_eq',exists_eq,exists_false,exists_const,Nat.reduceSub,Nat.reduceAdd,Nat.reduceLT,Nat.zero_add,Nat.lt_add_left_iff_pos,decide_eq_true_eq,ite_true,ite_false,Bool.false_eq_true,if_true,if_false,Bool.not_eq_true',Bool.not_eq_true,decide_eq_false_iff_not,Int.zero_add,String.reduceBEq,Bool.true_and,Bool.and_true,Bool.or_false,Bool.false_or,Bool.or_true,Bool.true_or,Bool.and_false,Bool.false_and,Bool.not_true,Bool.not_false,id_eq,Sl.ctorIdx,Nat.succ_eq_add_one".splitOn ",").toArray.mapM λs => `(Lean.Parser.Tactic.simpLemma| $(Lean.mkIdent s.toName):ident))
 let h:=Lean.mkIdent `hW
 `(tactic|(refine'(?wf : Wk _ _) ?we ?wk ?wq; (case we => (intro $h:ident; simp only[$l,*]at $h:ident; exact $h)); (case wf => exactλ_ k q => k q); (case wk => (intro $h:ident; walk_at"wa"))))
local macro_rules | `(tactic| walk_at "wh") => do
 let h:=Lean.mkIdent `hW
 `(tactic|repeat (first |(with_reducible refine Exists.elim $h λ_ $h => ?_) |((with_reducible refine And.elim (λe $h => ?_) $h); try subst e)))
local macro_rules | `(tactic| walk_at "ev") => do
 let l <- ("Jr,G9,KM,KN,Jx,KO,Ju,Eh,He,Ha,Hf,Hg,Hd,Hb,Js,Eg,Ef,Jt,Hn,El,Jw,Hm,Hl,Hk,Ej,Ei,Ek".splitOn ",").toArray.mapM λs => `(Lean.Parser.Tactic.tacticSeq|with_reducible apply $(Lean.mkIdent s.toName))
 `(tactic|((repeat' (first $[| $l]* |walk_at"wc")); done))
local macro_rules | `(tactic| walk_at "wc") => `(tactic| first | ((first | (with_reducible show _ = some (dZ _)) | (with_reducible show _ = dZ _) | (with_reducible show _ = List.map wD _) | (with_reducible show _ = fQ _)); assumption) | exact rfl | with_reducible assumption | with_reducible exact bt _ | exact of_decide_eq_true rfl | exact DL rfl | ((first | (with_reducible show _ <= sizeLine) | (with_reducible show _ < sizeLine) | (with_reducible show _ = _) | (with_reducible show shp _)); assumption))
local macro_rules | `(tactic| walk_at "wa") => do
 let h:=Lean.mkIdent `hW
 let l <- ("Fo,Fk,Fl,Fm,Fn,Fq,Fp,Cg,Km,Ie".splitOn ",").toArray.mapM λs => `(Lean.Parser.Tactic.tacticSeq|(with_reducible apply $(Lean.mkIdent s.toName)); focus walk_at"ev")
 let m <- ("ws_seq,wg_name,wk_K,wx_set,wx_ret,wx_drop".splitOn ",").toArray.mapM λs => `(Lean.Parser.Tactic.tacticSeq|with_reducible apply $(Lean.mkIdent s.toName))
 `(tactic|(walk_at"wh"; repeat' (first |exact $h $[| $l]* $[| $m]* |walk_at"wc" |((with_reducible show Ev _ _ _); walk_at"ev") |apply Exists.intro |refine And.intro rfl ?_ |(refine And.intro ?_ ?_; focus walk_at"wc") |refine And.intro (_, rfl) ?_ |refine And.intro (_, _, rfl) ?_ |(intro x; replace $h:ident := $h x; walk_at"wh") |(refine u6 rfl (fun $h => ?_) (fun $h => ?_) $h <;> walk_at"wh") |(refine Ch (fun $h => ?_) (fun $h => ?_) $h <;> walk_at"wh") |(refine Ci (fun $h => ?_) (fun $h => ?_) $h <;> walk_at"wh"))))
local macro_rules | `(tactic| walk_at "dN") => do
 let l <- ("hN,hM,hL".splitOn ",").toArray.mapM λs => let x := Lean.mkIdent s.toName; `(Lean.Parser.Tactic.tacticSeq|with_reducible (first |refine($x _).nx _ ?_ |refine($x _).ct _ ?_ |refine($x _).bk _ ?_ |refine($x _).rt _ _ ?_))
 `(tactic|((first $[| $l]*); try walk_at"d2"))
local macro_rules | `(tactic| walk_at "dd") => `(tactic| ((first | (walk_at "d1"; try walk_at "d2") | (simp only[Int.zero_add]; walk_at "d1"; try walk_at "d2") | (walk_at "d2")); try walk_at "dN"))
local macro_rules | `(tactic| walk_at "dx") => `(tactic| (first | ((with_reducible refine nx ?_); try walk_at "dd") | walk_at "dd"); repeat ((with_reducible refine nx ?_); try walk_at "dd"))
noncomputable def top(i:Nat):Stmt:=Ot.main.body.getD i (.Pass (0,0,0,0))
section
variable{P:ky}{w:kD}{K:cp}{mg:ck->O3}{base:cc}
theorem jn{l:OQ}{k:Nat}(h:k< -l):l.getD k []∈l:=by rw[Lb,K8 h];show cE h
noncomputable def kM:Nat->OQ
 | 0=>[[]]
 |k+1=>kM k++(kM k).map (·++[(k:Int)])
noncomputable def nW(l:O7)(n:Nat):O7:=((dm n).filter λi=>decide (l.getD i 0=1)).map (Nat.cast:Nat->Int)
noncomputable def iD(h:Int)(a r:O7):Bool:=decide ((-r:Int)<=h)&&decide ((a.filter λc=>decide (c ∉ r))=[])
def de(n:Nat)(h:Int)(l:O7):OQ:=(kM n).filter (iD h (nW l n))
theorem kL:∀n,(kM n).length=2 ^ n
 | 0=>rfl
 |n+1=>by
  show(kM n++(kM n).map _).length=_;rw[LB,K4,kL n,Nq];lia
theorem ca:∀n,∀r∈kM n,-r<=n/\r.Pairwise (·<·)/\∀x∈r,0<=x/\x<n
 | 0,r,h=>by
  rw[K7.mp h];simp
 |n + 1,r,h=>by
  rcases K2.mp h with h|h;let(a,b,c):=ca n r h;show(!0,b,λx hx=>by let:=c x hx;lia);let(d,h',rfl):=Lo.mp h;let(a,b,c):=ca n d h';show(by simp;lia,t0.mpr (b,!1,λx hx y e=>?_),λx hx=>?_);rw[K7.mp e];let:=c x hx;lia;rcases K2.mp hx with hx|hx;let:=c x hx;lia;rw[K7.mp hx];lia
theorem il{α:Type}{p q:α->Bool}(h:∀x,p x=Pq->q x=Pq):∀l:List α,(l.filter p).length<=(l.filter q).length
 |[]=>Lf _
 |x :: l=>by
  let ih:=il h l;by_cases a:p x=Pq;rw[LU a,LU (h x a)];simpa using ih;rw[Mg a];by_cases b:q x=Pq;rw[LU b];simp;lia;rw[Mg b];show ih
theorem qp{n:Nat}{h:Int}{l:O7}(hn:n<=6)(d:n<=4\/h<=3):(de n h l).length<64:=by
 rcases d with e|h2;let a:=LS (iD h (nW l n)) (kM n);rw[kL]at a;let:2 ^ n<=2 ^ 4:=Mq (!2) e;unfold de;lia;let a:(de n h l).length<=((kM n).filter λr=>decide (-r<=3)).length:=il (λr c=>by
  unfold iD at c;rw[LX,decide_eq_true_eq]at c;rw[decide_eq_true_eq];lia) _
 let b:∀n:Nat,n<=6->((kM n).filter λr=>decide (-r<=3)).length<=42:=by
  intro n hn
  match n,hn with
  | 0,_=>decide
  | 1,_=>decide
  | 2,_=>decide
  | 3,_=>decide
  | 4,_=>decide
  | 5,_=>decide +kernel
  | 6,_=>decide +kernel
 let:=b n hn;lia
theorem bQ{l:O7}{k:Nat}(h:k< -l):l.getD k 0∈l:=by rw[Lb,K8 h];show cE h
def StB(s o:O7)(d:Nat)(l:O7):Prop:=d< -o/\l.length=-s
noncomputable def AT(s l r:O7)(n:Nat):O7:=(dm n).map λ(i:Nat)=>if (i:Int)∈r then s.getD i 0 else l.getD i 0-1
theorem AR(s l r:O7)(n:Nat):(AT s l r n).length=n:=by simp[AT]
abbrev gJ:Stmt:=top 9
theorem pb:ax ["town","standing"] ["town","standing"] (af gJ):={}
inductive iS:DSp
 |mk {ss R} (s o l:O7) (d:Nat):ss=[.fr (.tuple [.list (li s),.list (li o)]),.fr (.tuple [.int d,.tuple (li l)])]->d<o.length->R (.fr (.int (o.getD d 0))) [.un,.un]->iS ss R
theorem pT{f:aG}{fd:kx}(F:Fun K "hands_on" "hands_on" gJ f fd)(B:Bn mg):aY P w K mg base CX0 1 f fd ["town","standing"] (spD K iS):=by show okD (k:=0) F pb (λss R h=>?_) (!2) (λcdv A outer s H E a=>(_,(al (aR (qx (qx (qv 0) ap) (qx (qv 1) ap)))),λss R h=>?_));let(s,o,l,d,rfl,_):=h;rfl;let(s,o,l,d,rfl,hd,q):=h;walk_at"dd";show(_,iw hd,q)
abbrev iK:Stmt:=top 11
theorem iV:ax ["town","standing","row","spans","lefts"] ["town","standing","row"] (af iK):={}
inductive iI:DSp
 |mk {ss R} (s o l r:O7) (d:Nat):ss=[.fr (.tuple [.list (li s),.list (li o)]),.fr (.tuple [.int d,.tuple (li l)]),.fr (.list (li r))]->1<=o.length->l.length=s.length->s.length<=1000->R (.fr (.tuple [.int (((d+1) % o.length:Nat):Int),.tuple (li (AT s l r s.length))])) [.un,.un,.un]->iI ss R
theorem wQ{f:aG}{fd:kx}(F:Fun K "behind" "behind" iK f fd)(B:Bn mg):aY P w K mg base CX0 1 f fd ["town","standing","row"] (spD K iI):=by
 show okD (k:=0) F iV (λss R h=>?_) (!2) (λcdv A outer s H E b=>(_,(aj (aT 3 iV.nd (qx (qv 0) ap))
   (aj (iZ 4 iV.nd (NN:=_::_) (sc0:=af iK) (N':=["clock","left","row","spans"]) (ix:=[Pp,Pp,Po 2,Po 3]) (vW Pq (K:=K) rfl rfl B.enumerate (aa (qx (qv 1) ap) ag)) (λY Y Y Y=>(Be (K:=K) (n:=2) rfl rfl (iL (a8 0 (!4)) (iL (a8 1 (!4)) vX)))) (λY Y Y Y=>(wj (aC (kIn (K:=K) rfl) mIn (qv 0) (qv 2)) (qx (qv 3) (qv 0)) (bJ Bo mI (qv 1) ap))))
   (al (aR (zd (aa (bJ bu mIC (bJ bY mI (qx (qv 1) ap) ap) (uo B.len (qx (qv 0) ap))) (aa (v5 (K:=K) rfl rfl B.tuple (aa (qv 4) ag)) ag))))))),λss R h=>?_))
 let(s,o,l,r,d,rfl,_):=h;rfl;let(s,o,l,r,d,rfl,ho,hl,hs,q):=h;lk;show iu (λi=>.int (if (i:Int)∈r then s.getD i 0 else l.getD i 0-1)) (by rw[bS,K4];lia) (λi hi Q a=>?_) ?_
 .rw[bS,K4]at hi;rw[js,sF];lk;show yI (λh=>?_) (λh=>?_);rw[OG h]at a;show(_,iw (!0),a);rw[OH h]at a;show a
 let e:(dm (l4 (li l)).length).map (λi:Nat=>fy (if (i:Int)∈r then s.getD i 0 else l.getD i 0-1))=li (AT s l r (-s)):=by rw[bS,K4,hl];show _=i1 _ (i1 _ _);rw[LA];rfl
 rw[e];lk;rw[K4];show(!0,Ld (!2) ar,q)
abbrev pe:Stmt:=top 8
theorem y7:ax ["town"] ["town"] (af pe):={}
inductive kU:DSp
 |mk {ss R} (s o:O7):ss=[.fr (.tuple [.list (li s),.list (li o)])]->R (.fr (.tuple [.int 0,.tuple (li s)])) [.un]->kU ss R
theorem zN{f:aG}{fd:kx}(F:Fun K "begun" "begun" pe f fd)(B:Bn mg):aY P w K mg base CX0 1 f fd ["town"] (spD K kU):=by show okD (k:=0) F y7 (λss R h=>?_) (!2) (λcdv A outer s H E a=>(_,(al (aR (zd (aa ap (aa (v5 (K:=K) rfl rfl B.tuple (aa (qx (qv 0) ap) ag)) ag))))),λss R h=>?_));let(s,o,rfl,_):=h;rfl;let(s,o,rfl,q):=h;walk_at"dd";show(Ld (!2) ar,q)
theorem AS{s l r:O7}{n c:Nat}(h:c<n):(AT s l r n).getD c 0=if (c:Int)∈r then s.getD c 0 else l.getD c 0-1:=by unfold AT;simp[Lb,h]
theorem kK:∀(n:Nat) (r:O7),r.Pairwise (·<·)->(∀x∈r,0<=x/\x<n)->r∈kM n
 | 0,r,_,h=>by
  cases r with
  |nil=>simp[kM]
  |cons x l=>let:=h x (!1);lia
 |n + 1,r,d,h=>by
  show r∈kM n++(kM n).map (·++[(n:Int)]);by_cases hn:(n:Int)∈r;show K0 _ ?_;rcases Ny r with rfl|⟨l,x,rfl⟩
  cases hn;rw[NC]at *;let(f,_,p3):=t0.mp d;let hx:=h x (!1);let c:x=(n:Int):=by rcases K2.mp hn with z|z;let:=p3 _ z x (!1);lia;show(K7.mp z).symm
  show Lo.mpr (l,kK n l f λy e=>?_,by rw[c]);let a:=h y (by simp[e]);let b:=p3 y e x (!1);lia;show K1 _ (kK n r d λx hx=>?_);let a:=h x hx;let b:x≠(n:Int):=λz=>hn (z▸hx);lia
noncomputable def chs(h:Int)(l:O7):Nat->OQ
 | 0=>[[]]
 |k+1=>if l.getD k 0=1 then ((chs h l k).filter λr=>decide ((-r:Int)<h)).map (·++[(k:Int)]) else chs h l k++((chs h l k).filter λr=>decide ((-r:Int)<h)).map (·++[(k:Int)])
theorem jt(l:O7)(k:Nat):nW l (k+1)=nW l k++(if l.getD k 0=1 then [(k:Int)] else []):=by
 unfold nW;rw[Mm,Md,Lw]
 congr 1
 by_cases h:l.getD k 0=1;rw[OG h,LU (by simpa using h)];rfl;rw[OH h,Mg (by simpa using h)];rfl
theorem Em{l:O7}{k:Nat}{x:Int}(h:x∈nW l k):0<=x/\x<k:=by unfold nW at h;let(i,hi,rfl):=Lo.mp h;let:=LP.mp (Ly.mp hi).1;lia
theorem jv(h:Int)(f:0<=h)(l:O7):∀k,chs h l k=de k h l
 | 0 => by
  show[[]]=mo _ [[]];rw[LU];rfl;show iD h (nW l 0) []=Pq;unfold iD nW;simp[f]
 |k + 1=>by
  let ih:=jv h f l k;let e1:((kM k).map (·++[(k:Int)])).filter (iD h (nW l (k+1)))=((de k h l).filter λr=>decide ((-r:Int)<h)).map (·++[(k:Int)]):=by
   unfold de;rw[On,List.filter_filter]
   congr 1
   show N9 λr b=>?_;let a:=ca k r b;show iD h (nW l (k+1)) (r++[(k:Int)])=_;unfold iD;rw[jt];let e2:(mo (λc=>decide (c ∉ r++[(k:Int)])) (nW l k++if l.getD k 0=1 then [(k:Int)] else []))=mo (λc=>decide (c ∉ r)) (nW l k):=by
    rw[Md];let e3:mo (λc=>decide (c ∉ r++[(k:Int)])) (if l.getD k 0=1 then [(k:Int)] else [])=[]:=by split <;> simp
    rw[e3,Ls];show N9 λc hc=>?_;let:=Em hc;let d:c≠(k:Int):=!0
    simp[d]
   rw[e2];let e4:decide (((r++[(k:Int)]).length:Int)<=h)=(decide ((-r:Int)<h)&&decide ((-r:Int)<=h)):=by
    rw[LB,Mj];by_cases c:(-r:Int)<h;let c2:(-r:Int)<=h:=!0
    let e:((-r+1:Nat):Int)<=h:=!0
    rw[decide_eq_true c,decide_eq_true c2,decide_eq_true e];rfl;let e:¬((-r+1:Nat):Int)<=h:=!0
    rw[decide_eq_false c,decide_eq_false e];rfl
   rw[e4,Bool.and_assoc]
  let e2:(kM k).filter (iD h (nW l (k+1)))=if l.getD k 0=1 then [] else de k h l:=by
   split;rename_i h1;show Nn.mpr λr b=>?_;let a:=ca k r b;unfold iD;rw[jt,OG h1,Md];let hn:(k:Int) ∉ r:=λz=>by let:=a.2.2 _ z;lia
   simp[hn];rename_i h1;unfold de;rw[jt,OH h1,Ls]
  show(if l.getD k 0=1 then _ else _)=mo _ (kM k++(kM k).map (·++[(k:Int)]));rw[Md,e1,e2,ih];split;rw[sT];rfl
def Aj(r:O7):Int×O7:=((-r:Int),r)
def chX(n:Nat)(h:Int)(l:O7):OQ:=pick (aX ((de n h l).map Aj)) (de n h l) []
theorem iO(n:Nat)(h:Int)(l:O7):(chX n h l).Perm (de n h l):=gh (by let:=bz ((de n h l).map Aj);rwa [K4]at this)
theorem AL{n:Nat}{h:Int}{l:O7}(a:chX n h l≠[]):∃b r,chX n h l=b++[r]/\r∈de n h l/\∀f∈de n h l,-f<=-r:=by
 let q:=iO n h l;let c:1<=((de n h l).map Aj).length:=by rw[K4,<-q.length_eq];show List.length_pos_iff.mpr a
 let(j,h1,h2,o):=uh c;rw[K4]at h2 o;let e:(chX n h l).getLast? = Po ((de n h l).getD j []):=by unfold chX pick;rw[List.getLast?_map,h1];rfl
 obtain⟨b,r,d⟩:∃b r,chX n h l=b++[r]:=((chX n h l).dropLast,(chX n h l).getLast a,(List.dropLast_concat_getLast a).symm)
 let p:r=(de n h l).getD j []:=by rw[d,List.getLast?_append]at e;simpa using e
 show(b,r,d,by rw[p];show jn h2,λf m=>?_);let(i,hi,e2):=LC m;let:=o i hi;let g:∀k,k<(de n h l).length->((de n h l).map Aj).getD k (0,[])=Aj ((de n h l).getD k []):=λk hk=>by
  simp[Lb,hk]
 rw[g i hi,g j h2]at this;unfold Aj at this;simp only at this;rw[<-p,show(de n h l).getD i []=f by simp[Lb,hi,e2]]at this;lia
theorem Ai(a:OQ):(lr a).map (λd=>fe (qj d))=a.map Aj:=by show(i1 _ (i1 _ a))=_;rw[LA];show L6 λr Y=>?_;show fe (qj (.list (li r)))=Aj r;unfold qj fe Aj;simp only[bt,NU,K4]
theorem qg{a:OQ}{p:Pd}(h:∀i∈p,i< -a):pick p (lr a) .none=lr (pick p a []):=by unfold pick;show _=i1 _ (i1 _ p);rw[LA];show L6 λi hi=>?_;let:=h i hi;simp[Lb,this]
abbrev gb:Stmt:=top 10
theorem b7:ax ["town","standing","most","rows","clock","left","with_it"] ["town","standing"] (af gb):={}
def mL:DSp:=λss R=>∃(s o l:O7) (d:Nat),ss=[.fr (.tuple [.list (li s),.list (li o)]),.fr (.tuple [.int d,.tuple (li l)])]/\s.length<=6/\0<=o.getD d 0/\(-s<=4\/o.getD d 0<=3)/\StB s o d l /\
 ∀S,R (.tr S (.list (lr (chX (-s) (o.getD d 0) l)))) [.un,.un]
theorem ux{f:aG}{fd:kx}(F:Fun K "choices" "choices" gb f fd)(B:Bn mg)(L:yE K base "choices" fd)(g:Cal P w K mg base "hands_on" 1 (spD K iS)):aY P w K mg base CX0 6 f fd ["town","standing"] (spD K mL):=by
 show Ka (k:=5) F b7 (λss R h=>?_) (!2) (λcdv v A outer s H E m=>(_,(aj (aT 2 b7.nd (aQ g (aa (qf 0) (aa (qf 1) ag))))
   (aj (aT 3 b7.nd (j6 (aa (dR ag) ag)))
   (aj (jJ PassesOwn.never rfl (vW Pq (K:=K) rfl rfl B.enumerate (aa (qx (qv 1) ap) ag)) (Be (K:=K) (n:=2) rfl rfl (iL (a8 4 b7.nd) (iL (a8 5 b7.nd) vX))) (aj (ur 3 (i:=6) b7.nd rfl rfl (N':=["row","most","clock"]) (ix:=[Pp,Po 2,Po 4]) rfl (oH (N:=_::_) (sc0:=af gb) rfl rfl (!3)) (dQ (qf 3)) (λY Y Y Y=>(a8 0 (!4))) (λY Y Y Y=>(vV (aC zA mB (uo B.len (qv 0)) (qv 1)))) (λY Y Y Y=>(CW (lB (K:=K) rfl) IY (qv 0) (dR (aa (qf 2) ag)))))
   (al (aT 3 b7.nd (wj (aC bM gQ (qv 5) ap) (lg 6) (Gd (K:=K) rfl (lg 3) (lg 6)))))))
   (al (aR (FU (p := "row") (K:=K) rfl (let ⟨c,T,a,b,d⟩:=L;(c,T,v.trans a,b,d)) (m.mono (!2)) rfl B.sorted (aa (lg 3) ag) (rfl,rfl,rfl,!2,rfl,λx hx=>by rw[K7.mp hx];show .inl rfl,!2) (λY Y Y Y Y=>rfl) rfl rfl (λY Y Y Y Y=>(zd (aa (uo B.len (qv 0)) (aa (qf 0) ag)))))))))),λss R h=>?_))
 let(s,o,l,d,rfl,_):=h;rfl;let(s,o,l,d,rfl,t2,u,z,C,q):=h;let(s1,s2):=C;lk;show(s,o,l,d,rfl,s1,?_);lk;show(Ln _,Ld (!2) ar,λS=>?_);lk;show bR (λi env=>∃(S:Pg) (a b c:Sl),env=[.fr (.tuple [.list (li s),.list (li o)]),.fr (.tuple [.int d,.tuple (li l)]),.fr (.int (o.getD d 0)),.tr S (.list (lr (chs (o.getD d 0) l i))),a,b,c]) (_,_,_,_,rfl) ?_ ?_
 .rintro i env hi ⟨S,a,b,c,rfl⟩;rw[js,sF];rw[bS,K4]at hi;let hz:(chs (o.getD d 0) l i).length<=64:=by
   rw[jv _ u];show Ld (LS _ _) ?_;rw[kL];show Mq (!2) (show i<=6 by lia)
  let t:∀r∈chs (o.getD d 0) l i,-r<=6:=λr m=>by
   rw[jv _ u]at m;let:=(ca i r (Ly.mp m).1).1;lia
  let D:chs (o.getD d 0) l (i+1)=if l.getD i 0=1 then ((chs (o.getD d 0) l i).filter λr=>decide ((-r:Int)<o.getD d 0)).map (·++[(i:Int)]) else chs (o.getD d 0) l i++((chs (o.getD d 0) l i).filter λr=>decide ((-r:Int)<o.getD d 0)).map (·++[(i:Int)]):=rfl
  rw[D];generalize chs (o.getD d 0) l i=cs at *;generalize o.getD d 0=hd at *;lk;show yg (λj=>decide (((cs.getD j []).length:Int)<hd)) (λj=>.list (li (cs.getD j []++[(i:Int)]))) (by rw[K4];lia) (λj hj Q I h1 h2=>?_) λS1=>?_
  .rw[K4]at hj;rw[sC];let J:=t _ (jn (l:=cs) hj);lk;rw[K4];show yI (λh=>(Ld (!2) ar,Ld (!0) ar,?_)) (λh=>h2 (by simpa using h));rw[DJ,OG (dq _)];show(_,rfl,h1 (by simpa using h))
  rw[K4,gc cs [] (λr=>decide ((-r:Int)<hd)) (λr=>eg (li (r++[(i:Int)])))];show(S1,(cs.filter λr=>decide ((-r:Int)<hd)).map (·++[(i:Int)]),by unfold fB;rw[LA];rfl,λS2=>?_);lk;show yI (λh1=>?_) (λh1=>?_);rw[OG h1];rw[OH h1];let M:=LS (λr:O7=>decide ((-r:Int)<hd)) cs;show(?_,λY=>(Lw ..).symm);rw[K4,K4,K4];show Ld (!0) ar
 .rintro env ⟨S,a,b,c,rfl⟩;rw[bS,K4,s2];let hz:(chs (o.getD d 0) l (-s)).length<64:=by
   rw[jv _ u];show qp t2 z
  let m:∀x∈lr (chs (o.getD d 0) l (-s)),GW x:=λx hx=>by
   let(r,_,rfl):=Lo.mp hx;show(r,rfl)
  let e:pick (aX (((lr (chs (o.getD d 0) l (-s))).map qj).map fe)) (lr (chs (o.getD d 0) l (-s))) .none=lr (chX (-s) (o.getD d 0) l):=by rw[LA,show(fe ∘ qj)=λd=>fe (qj d) from rfl,Ai,jv _ u];show qg λi hi=>by let:=cS i hi;rwa [K4]at this
  lk;show(by rw[K4];show hz,qj,.inl λx hx=>?_,λx hx=>?_,λS'=>?_);let(y,G,rfl):=Lo.mp hx;let(r,rfl):=m y G;show(_,r,rfl)
  .let(r,rfl):=m x hx;unfold Bx;walk_at"dd";show(Ld (!2) ar,rfl)
  rw[e];show q S'
section
variable{κ β:Type}[DecidableEq κ]
theorem Aw(a b:List (κ×β))(k:κ):dY (a++b) k=match dY a k with|some v=>Po v|none=>dY b k:=by
 induction a with
 |nil=>rfl
 |cons p a ih =>
  rw[MO,bD,bD,ih];by_cases h:p.1=k <;> simp[h]
theorem Au(kvs:List (κ×β))(k:κ)(v:β)(x:κ):dY (kvs.map λp=>if p.1=k then (p.1,v) else p) x=if x=k then (dY kvs x).map λY=>v else dY kvs x:=by
 induction kvs with
 |nil=>simp[dY]
 |cons p kvs ih =>
  rw[Le,bD,bD,ih];by_cases h1:p.1=k;by_cases h2:x=k;simp[h1,h2];let:¬k=x:=λz=>h2 z.symm;simp[h1,h2,this];by_cases h2:p.1=x;subst h2;simp[h1];simp[h1,h2]
theorem fu(kvs:List (κ×β))(k:κ)(v:β)(x:κ):dY (oS kvs k v) x=if x=k then Po v else dY kvs x:=by
 unfold oS;cases e:dY kvs k with
 |some w =>
  rw[OG (show(Po w).isSome=Pq from rfl),Au];by_cases h:x=k;subst h;simp[e];simp[h]
 |none =>
  rw[OH (!1),Aw,bD,Av];by_cases h:x=k;subst h;simp[e];let:¬k=x:=λz=>h z.symm;simp only[this,h,if_false];cases dY kvs x <;> rfl
end
theorem jc{α:Type} [DecidableEq α]:∀{l U:List α},l.Nodup->(∀x∈l,x∈U)->-l<=-U
 |[],_,_,_=>Ln _
 |x::l,U,hn,h=>by
  let(h1,h2):=Ll.mp hn;let hx:=h x (!1);let:=jc (l:=l) (U:=U.erase x) h2 λy a=>(List.mem_erase_of_ne (λ(z:y=x)=>h1 (by rw[<-z];show a))).mpr (h y (by simp[a]));rw[List.length_erase_of_mem hx]at this;let b:0< -U:=List.length_pos_of_mem hx;simp;lia
theorem w9{n:Nat}{h:Int}{l r:O7}:r∈de n h l↔r∈kM n/\(-r:Int)<=h/\∀c,c<n->l.getD c 0=1->(c:Int)∈r:=by
 unfold de iD;rw[Ly,LX,decide_eq_true_eq,decide_eq_true_eq];let a:(mo (λc=>decide (c ∉ r)) (nW l n))=[]↔∀c,c<n->l.getD c 0=1->(c:Int)∈r:=by
  rw[Nn];constructor;intro h c hc e;let:=h (c:Int) (by
   unfold nW;show Lo.mpr (c,Ly.mpr (LP.mpr hc,decide_eq_true e),rfl))
  simpa using this;intro h x hx;unfold nW at hx;let(c,hc,rfl):=Lo.mp hx;let(h1,h2):=Ly.mp hc;let:=h c (LP.mp h1) (of_decide_eq_true h2);simpa using this
 rw[a]
abbrev Std:=Nat×O7
abbrev OI:=List (Std×List (List Int))
abbrev Pc:=List Std
def cG(s o:O7)(x:Std)(r:O7):Std:=((x.1+1) % (-o),AT s x.2 r (-s))
def E6(s o:O7)(x:Std)(fr:OQ):Prop:=(∀r∈fr,r∈de (-s) (o.getD x.1 0) x.2)/\(∀r∈de (-s) (o.getD x.1 0) x.2,∃a∈fr,∀c∈r,c∈a) /\
 (∀r∈fr,∀a∈de (-s) (o.getD x.1 0) x.2,-a<=-r)/\∀r∈de (-s) (o.getD x.1 0) x.2,(∀a∈de (-s) (o.getD x.1 0) x.2,-a<=-r)->r∈fr
def IsS(s o:O7)(x:Std):Prop:=x.1< -o/\x.2.length=-s/\∀c,c< -s->1<=x.2.getD c 0/\x.2.getD c 0<=s.getD c 0
theorem Br{s o:O7}(hs:∀x∈s,1<=x){x:Std}{r:O7}(h:IsS s o x)(a:r∈de (-s) (o.getD x.1 0) x.2):IsS s o (cG s o x r):=by let(h1,h2,b):=h;show(N5 _ (!0),AR _ _ _ _,λc hc=>?_);let d:=(w9.mp a).2.2;show 1<=(AT s x.2 r (-s)).getD c 0/\(AT s x.2 r (-s)).getD c 0<=_;rw[AS hc];let f:=b c hc;let g:=hs _ (bQ hc);split;lia;rename_i hn;by_cases e:x.2.getD c 0=1;show absurd (d c hc e) hn;lia
noncomputable def AQ:O7->OQ
 |[]=>[[]]
 |x::s=>((dm x.toNat).map λ(i:Nat)=>(AQ s).map λl=>((i:Int)+1)::l).flatten
theorem sB:∀{s l:O7},-l=-s->(∀c,c< -s->1<=l.getD c 0/\l.getD c 0<=s.getD c 0)->l∈AQ s
 |[],l,h,_=>by
  rw[Ni.mp h];simp[AQ]
 |x::s,[],h,_=>by simp at h
 |x::s,y::l,h,a=>by
  let h0:=a 0 (!1);let b:1<=y/\y<=x:=by simpa using h0
  let ih:=sB (s:=s) (l:=l) (by simpa using h) λc hc=>by simpa using a (c+1) (by simpa using hc)
  unfold AQ;show Of.mpr (_,Lo.mpr ((y-1).toNat,LP.mpr (!0),rfl),Lo.mpr (l,ih,?_));rw[show(((y-1).toNat:Nat):Int)+1=y by lia]
def lq:O7->Nat
 |[]=>1
 |x::s=>x.toNat*lq s
theorem tW:∀s:O7,(AQ s).length=lq s
 |[]=>rfl
 |x :: s=>by
  unfold AQ lq;rw[NO,LA];let:(nn ∘ λ(i:Nat)=>(AQ s).map λl=>((i:Int)+1)::l)=λY=>lq s:=by funext i;simp[tW s]
  rw[this,Ol,Nm,LH]
def uQ(s o:O7):Pc:=((dm (-o)).map λd=>(AQ s).map λl=>(d,l)).flatten
theorem sA{s o:O7}{x:Std}(h:IsS s o x):x∈uQ s o :=
 Of.mpr (_,Lo.mpr (x.1,LP.mpr h.1,rfl),Lo.mpr (x.2,sB h.2.1 h.2.2,rfl))
theorem AO(s o:O7):(uQ s o).length=-o*lq s:=by
 unfold uQ;rw[NO,LA];let:(nn ∘ λd=>(AQ s).map λl=>((d,l):Std))=λY=>lq s:=by funext i;simp[tW s]
 rw[this,Ol,Nm,LH]
noncomputable def BQ(c:Int)(r:O7):O7:=r.filter (λx=>decide (x<c))++c::r.filter (λx=>decide (c<x))
theorem lQ{c x:Int}{r:O7}:x∈BQ c r↔x=c\/x∈r:=by unfold BQ;rw[K2,K9,Ly,Ly,decide_eq_true_eq,decide_eq_true_eq];constructor;rintro(h|h|h);show .inr h.1;show .inl h;show .inr h.1;rintro(h|h);show .inr (.inl h);by_cases h1:x<c;show .inl (h,h1);by_cases h2:x=c;show .inr (.inl h2);show .inr (.inr (h,!0))
theorem sY{c:Int}{r:O7}(h:c ∉ r):(BQ c r).length=-r+1:=by
 unfold BQ;rw[LB,Lu];let : ∀r:O7,c ∉ r->(r.filter λx=>decide (x<c)).length+(r.filter λx=>decide (c<x)).length=-r:=λr=>by
  induction r with
  |nil=>exactλY=>rfl
  |cons x r ih =>
   intro h;let h1:c≠x:=λz=>h (by simp[z]);let:=ih λz=>h (K5 _ z);by_cases h2:x<c;let a:¬c<x:=!0
   rw[LU (by simpa using h2),Mg (by simpa using a),Lu,Lu];lia;let a:c<x:=!0
   rw[Mg (by simpa using h2),LU (by simpa using a),Lu,Lu];lia
 let:=this r h;lia
theorem uI{c:Int}{r:O7}(h:r.Pairwise (·<·)):(BQ c r).Pairwise (·<·):=by
 unfold BQ;show t0.mpr (h.filter _,List.pairwise_cons.mpr (λx hx=>?_,h.filter _),λx hx y a=>?_);simpa using(Ly.mp hx).2;let h1:x<c:=by simpa using(Ly.mp hx).2
 rcases K9.mp a with a|a;rw[a];show h1;let h2:c<y:=by simpa using(Ly.mp a).2
 lia
theorem Ed{s o l r:O7}{d:Nat}{c:Int}(a:r∈de (-s) (o.getD d 0) l)(hc:0<=c/\c< -s)(hn:c ∉ r)(g:(-r:Int)+1<=o.getD d 0):BQ c r∈de (-s) (o.getD d 0) l:=by rw[w9]at a ⊢;let(h1,h,b):=a;let(_,f,b1):=ca _ _ h1;show(kK _ _ (uI f) λx hx=>?_,?_,λk hk e=>lQ.mpr (.inr (b k hk e)));rcases lQ.mp hx with rfl|hx;show hc;show b1 x hx;rw[sY hn];lia
theorem pf{r:O7}(h:r.Pairwise (·<·)):r.Nodup:=h.imp λ{a b} (z:a<b) (e:a=b)=>!0
theorem tq{s o l:O7}{d:Nat}{a:O7}(h1:a∈de (-s) (o.getD d 0) l):∀n (r:O7),r∈de (-s) (o.getD d 0) l->-r+n=-a->∃f∈de (-s) (o.getD d 0) l,-f=-a/\∀x∈r,x∈f
 | 0,r,g,e=>(r,g,!0,λx hx=>hx)
 |n + 1,r,g,e=>by
  cbv;let(_,h,b1):=ca _ _ (Ly.mp h1).1;let j:(-a:Int)<=o.getD d 0:=by let:=(Ly.mp h1).2;unfold iD at this;rw[LX,decide_eq_true_eq]at this;show this.1
  let : ∃c∈a,c ∉ r:=by
   by_cases hc:∃c∈a,c ∉ r;show hc;let:=jc (pf h) (U:=r) λx hx=>by
    by_cases b:x∈r;show b;show absurd (x,hx,b) hc
   lia
  let(c,c1,c2):=this;let(f,a1,a2,i):=tq h1 n (BQ c r) (Ed g (b1 c c1) c2 (!0)) (by rw[sY c2];lia)
  w_up;show(f,a1,a2,λx hx=>i x (lQ.mpr (.inr hx)))
theorem Eb{s o:O7}{x:Std}{fr:OQ}{e:O7}(h1:e∈de (-s) (o.getD x.1 0) x.2)(c:∀r∈de (-s) (o.getD x.1 0) x.2,-r<=-e)
  (f:∀r,r∈fr↔r∈de (-s) (o.getD x.1 0) x.2/\r.length=-e):E6 s o x fr:=by show(λr d=>((f r).mp d).1,λr d=>?_,λr d g i=>?_,λr d h=>(f r).mpr (d,Nat.le_antisymm (c r d) (h e h1)));let(g,a1,a2,j):=tq h1 (-e- -r) r d (by let:=c r d;lia);show(g,(f g).mpr (a1,a2),j);let a:=((f r).mp d).2;let b:=c g i;lia
theorem AA{s o:O7}{x:Std}(h:de (-s) (o.getD x.1 0) x.2=[]):E6 s o x []:=by
 show(λr a=>(by cases a),λr a=>?_,λr a=>(by cases a),λr a=>?_)
 all_goals
  rw[h]at a;cases a
section
variable{σ ρ:Type}[DecidableEq σ](F:σ->List ρ) (nxt:σ->ρ->σ)
abbrev SrS(σ ρ:Type):=List σ×List (List ρ)×List σ
noncomputable def eI(z:SrS σ ρ):SrS σ ρ:=match z.1.getLast?,z.2.1.getLast? with
 |some x,Po []=>(z.1.dropLast,z.2.1.dropLast,z.2.2++[x])
 |some x,Po (r::t)=>if nxt x r∈z.1 then z else if nxt x r∈z.2.2 then (z.1,z.2.1.dropLast++[t],z.2.2) else (z.1++[nxt x r],z.2.1++[F (nxt x r)],z.2.2)
 |_,_=>z
def CF(z:SrS σ ρ):Nat->SrS σ ρ
 | 0=>z
 |n+1=>eI F nxt (CF z n)
def Rch(x:σ)(z:SrS σ ρ):Prop:=∃n,CF F nxt ([x],[F x],[]) n=z
variable{F nxt}{x y:σ}{P lost:List σ}{V:List (List ρ)}{r:ρ}{t:List ρ}
theorem vo:eI F nxt (P++[x],V++[[]],lost)=(P,V,lost++[x]):=by simp[eI]
theorem vj(h1:nxt x r ∉ P++[x])(h2:nxt x r∈lost):eI F nxt (P++[x],V++[r::t],lost)=(P++[x],V++[t],lost):=by unfold eI;simp only[vb];rw[OH h1,OG h2,vl]
theorem Cs(h1:nxt x r ∉ P++[x])(h2:nxt x r ∉ lost):eI F nxt (P++[x],V++[r::t],lost)=(P++[x]++[nxt x r],V++[r::t]++[F (nxt x r)],lost):=by unfold eI;simp only[vb];rw[OH h1,OH h2]
theorem vm(h1:nxt x r∈P++[x]):eI F nxt (P++[x],V++[r::t],lost)=(P++[x],V++[r::t],lost):=by unfold eI;simp only[vb];rw[OG h1]
theorem kO:eI F nxt (([],V,lost):SrS σ ρ)=([],V,lost):=by simp[eI]
theorem Rch.next{z a:SrS σ ρ}(h:Rch F nxt y z)(e:eI F nxt z=a):Rch F nxt y a:=by let(n,rfl):=h;show(n+1,e)
theorem lb{z:SrS σ ρ}{n:Nat}(e:eI F nxt (CF F nxt z n)=CF F nxt z n):∀m,CF F nxt z (n+m)=CF F nxt z n
 | 0=>rfl
 |m+1=>by
  show eI F nxt (CF F nxt z (n+m))=_;rw[lb e m,e]
theorem Rch.same{z a:SrS σ ρ}(h:Rch F nxt y z)(e:eI F nxt z=z)(h':Rch F nxt y a)(e':eI F nxt a=a):z=a:=by let(n,rfl):=h;let(m,rfl):=h';rw[<-lb e m,<-lb e' n,Nat.add_comm]
end
abbrev stS(x:Std):av:=dZ ((x.1:Int),x.2)
def kOf(x:Std):bc:=((x.1:Int),x.2)
theorem lX{x y:Std}(h:kOf x=kOf y):x=y:=by let(a,b):=x;let(c,d):=y;unfold kOf at h;simp only[ms]at h ⊢;show(!0,h.2)
theorem Cz{κ β:Type} [DecidableEq κ]{kvs:List (κ×β)}{k:κ}{v:β}(h:(dY kvs k).isSome=Pq):(oS kvs k v).length=-kvs:=by unfold oS;rw[OG h,K4]
theorem yw(a:OQ)(x:O7):atI (lr (a++[x])) (-1)=Po (.list (li x)):=by show atI (i1 _ (a++[x])) (-1)=_;rw[Lw];show dz _ _
def Fa(l:O7):av->av
 |.list es=>.list (li (jI ((dm ((cj es).getD []).length).map λi=>l.getD (((cj es).getD []).getD i 0).toNat 0)))
 |d=>d
theorem An(l r:O7):Fa l (.list (li r))=.list (li (jI ((dm (-r)).map λi=>l.getD (r.getD i 0).toNat 0))):=by show eg (li (jI ((dm ((cj (r.map .int)).getD []).length).map λi=>l.getD (((cj (r.map .int)).getD []).getD i 0).toNat 0)))=_;rw[bt];rfl
def jP(s o:O7)(x:Std):OQ:=(chX (-s) (o.getD x.1 0) x.2).filter λr=>decide (-r=((chX (-s) (o.getD x.1 0) x.2).getLastD []).length)
def bL(s o:O7)(x:Std):OQ:=pick (aX (((lr (jP s o x)).map (Fa x.2)).map fe)) (jP s o x) []
theorem kB(s o:O7)(x:Std):(bL s o x).Perm (jP s o x):=gh (by let:=bz (((lr (jP s o x)).map (Fa x.2)).map fe);rwa [K4,K4,K4]at this)
theorem lZ(s o:O7)(x:Std):E6 s o x (bL s o x):=by
 let b:=iO (-s) (o.getD x.1 0) x.2;let c:=kB s o x;by_cases a:chX (-s) (o.getD x.1 0) x.2=[]
 let e:jP s o x=[]:=by unfold jP;rw[a];rfl
 rw[e]at c;rw[NE c];rw[a]at b;show AA (NE b.symm);let(d,r,e1,e2,e3):=AL a;show Eb e2 e3 λf=>?_;rw[c.mem_iff];unfold jP;rw[Ly,b.mem_iff,e1];simp
theorem jp{s o:O7}{x:Std}(t2:-s<=6)(c:-s<=4\/o.getD x.1 0<=3):(bL s o x).length<64/\∀r∈bL s o x,-r<=6:=by let a:=iO (-s) (o.getD x.1 0) x.2;let b:=kB s o x;show(?_,λr d=>?_);rw[b.length_eq];show LW (LS _ _) ?_;rw[a.length_eq];show qp t2 c;let:=(ca _ r (Ly.mp (a.mem_iff.mp (Ly.mp (b.mem_iff.mp d)).1)).1).1;lia
abbrev dL:Stmt:=top 13
theorem cU:ax ["town","standing","lefts","rows","full"] ["town","standing"] (af dL):={}
def vv:DSp:=λss R=>∃(s o l:O7) (d:Nat),ss=[.fr (.tuple [.list (li s),.list (li o)]),.fr (.tuple [.int d,.tuple (li l)])]/\s.length<=6/\0<=o.getD d 0/\(-s<=4\/o.getD d 0<=3)/\StB s o d l /\
 ∀S,R (.tr S (.list (lr (bL s o (d,l))))) [.un,.un]
theorem mV{f:aG}{fd:kx}(F:Fun K "full_rows" "full_rows" dL f fd)(B:Bn mg)(L:yE K base "full_rows" fd)(g:Cal P w K mg base "choices" 6 (spD K mL)):aY P w K mg base CX0 7 f fd ["town","standing"] (spD K vv):=by
 show Ka (k:=6) F cU (λss R h=>?_) (!2) (λcdv D A outer s H E n=>(_,(aj (aT 2 cU.nd (qx (qv 1) ap))
   (aj (aT 3 cU.nd (aQ g (aa (qf 0) (aa (qf 1) ag))))
   (aj (v9 (K:=K) 3 (i:=4) cU.nd rfl rfl (eC cA) rfl rfl rfl (oH (N:=_::_) (sc0:=af dL) rfl rfl (!3)) (λ_ _ _ _=>fO (!4) rfl cA) (λ_ _ _ _=>(vV (aC bM gQ (uo B.len (qv 0)) (uo B.len (qx (qv 1) (HI mq HN ap)))))) (λ_ _ _ _=>ah rfl cA))
   (al (aR (CT 2 (p := "row") (x := "lefts") (K:=K) rfl (let ⟨c,T,a,b,d⟩:=L;(c,T,D.trans a,b,d)) (n.mono (!2)) rfl B.sorted (aa (lg 4) ag) (rfl,rfl,rfl,rfl,rfl,!2,!2,!2) rfl (eC cA) cA (λz=>nomatch (show(Po mn:Option NameKind)=Po .local from z)) (λ_ _ _ _ _ _=>rfl) (λc hc=>by cases hc;rfl) rfl (λ_ _ _ _ _ _ _=>(FT (K:=K) rfl rfl B.sorted (aa (C3 (N':=["clock","lefts"]) (ix:=[Pp,Po 1]) rfl (JR (!3)) (dQ (qf 0)) (λ_ _ _ _=>(a8 0 (!4))) (λ_ _ _ _=>lf) (λ_ _ _ _=>(qx (qv 1) (qv 0)))) ag))))))))),λss R h=>?_))
 let(s,o,l,d,rfl,_):=h;rfl;let(s,o,l,d,rfl,t2,U,M,O,q):=h;let(s1,s2):=id O;lk;show(s,o,l,d,rfl,t2,U,M,O,λS=>?_);lk;let G:=iO (-s) (o.getD d 0) l;let u:(chX (-s) (o.getD d 0) l).length<64:=by rw[G.length_eq];show qp t2 M
 let v:∀r∈chX (-s) (o.getD d 0) l,-r<=6:=λr n=>by
  let:=(ca _ r (Ly.mp (G.mem_iff.mp n)).1).1;lia
 let I:∀r∈chX (-s) (o.getD d 0) l,∀x∈r,0<=x/\x< -s:=λr n=>(ca _ r (Ly.mp (G.mem_iff.mp n)).1).2.2;let V:∀m:Nat,((chX (-s) (o.getD d 0) l).filter λr=>decide (-r=m)).length<64:=λm=>LW (LS _ _) u;let C:jP s o (d,l)=(chX (-s) (o.getD d 0) l).filter λr=>decide (-r=((chX (-s) (o.getD d 0) l).getLastD []).length):=rfl;let W:bL s o (d,l)=pick (aX (((lr (jP s o (d,l))).map (Fa l)).map fe)) (jP s o (d,l)) []:=rfl;obtain⟨m,J⟩:∃m,m=((chX (-s) (o.getD d 0) l).getLastD []).length:=(_,rfl)
 rw[<-J]at C;let X:∀j,j<(chX (-s) (o.getD d 0) l).length->∃z:O7,atI (lr (chX (-s) (o.getD d 0) l)) (-1)=Po (.list (li z))/\z.length=m:=λj hj=>by
  rcases Ny (chX (-s) (o.getD d 0) l) with e|⟨rl,r,e⟩
  rw[e]at hj;simp at hj;rw[NC]at e;rw[e]at J ⊢;show(r,yw _ _,by rw[J,List.getLastD_eq_getLast?];simp)
 generalize chX (-s) (o.getD d 0) l=cs at *;show(by rw[K4];lia,λj=>decide ((cs.getD j []).length=m),λj hj=>?_,λS'=>?_);rw[K4]at hj;rw[sC];let(z,Y,z2):=X j hj;show(_,rfl,_,Y,_,rfl,?_);rw[K4,K4,z2];show decide_eq_decide.mpr (!0);let Z:pick (mo (λj=>decide ((cs.getD j []).length=m)) (dm (lr cs).length)) (lr cs) Ou=lr (cs.filter λr=>decide (-r=m)):=by rw[K4,qg λi hi=>LP.mp (Ly.mp hi).1];show congrArg lr ((gc cs [] (λr=>decide (-r=m)) id).trans (List.map_id _))
 rw[Z];lk;let t:∀r∈mo (λr=>decide (-r=m)) cs,r∈cs:=λr n=>(Ly.mp n).1;show(by rw[K4];show V m,Fa l,.inr (.inr λx hx=>?_),λx hx=>?_,λS2=>?_);let(y,hy,rfl):=Lo.mp hx;let(r,_,rfl):=Lo.mp hy;show(_,rfl)
 .let(r,n,rfl):=Lo.mp hx;show(_,rfl,iu (λi=>.int (l.getD (r.getD i 0).toNat 0)) (by rw[K4];let:=v r (t r n);lia) (λi hi Q hQ=>?_) ?_)
  .rw[K4]at hi;rw[sF];let h9:=I r (t r n) _ (show r.getD i 0∈r by rw[Lb,K8 hi];show cE hi);walk_at"dd";rw[show r.getD i 0=((r.getD i 0).toNat:Int) by lia];show(_,iw (!0),hQ)
  .let e:(dm (li r).length).map (λi:Nat=>fy (l.getD (r.getD i 0).toNat 0))=li ((dm (-r)).map λi=>l.getD (r.getD i 0).toNat 0):=by
    rw[K4];show _=i1 _ (i1 _ _);rw[LA];rfl
   rw[e];lk;show(_,rfl,?_,(An l r).symm);let:=v r (t r n);simp;lia
 let e:pick (aX (((lr (mo (λr=>decide (-r=m)) cs)).map (Fa l)).map fe)) (lr (mo (λr=>decide (-r=m)) cs)) .none=lr (bL s o (d,l)):=by rw[W,C];show qg λi hi=>by let:=cS i hi;rwa [K4,K4,K4]at this
 rw[e];show q S2
abbrev hdW(p:Std×OQ):O7:=p.2.getD 0 []
structure Lk(s o:O7)(Z:OI)(lost:Pc)(kvs:OX):Prop where
 rch:Rch (bL s o) (cG s o) (0,s) ((Z.map (·.1)).reverse,(Z.map (·.2)).reverse,lost)
 hd : ∀p∈Z.tail,p.2≠[]
 is : ∀p∈Z,IsS s o p.1
 ful:∀p∈Z,∃pre,bL s o p.1=pre++p.2/\∀r∈pre,cG s o p.1 r∈lost
 isl:∀x∈lost,IsS s o x
 nd : (Z.map (·.1)++lost).Nodup
 kl : kvs.length<=Z.length+lost.length
 val:∀y d,dY kvs (kOf y)=some d->(d=.none/\y∈lost)\/∃i:Nat,d=.int i/\(Z.map (·.1)).reverse[i]?=some y
 key:∀y∈Z.map (·.1)++lost,(dY kvs (kOf y)).isSome=true
 down:∀(j:Nat) x,lost[j]?=some x->∀r∈bL s o x,cG s o x r∈lost.take j
 bg : (0,s)∈Z.map (·.1)++lost
def oO(s o:O7)(A B:OQ):Prop:=∃(x:Std) (r:O7) (w:OQ) (Z:OI) (lost:Pc) (k:Nat),Rch (bL s o) (cG s o) (0,s) ((((x,r::w)::Z).map (·.1)).reverse,(((x,r::w)::Z).map (·.2)).reverse,lost) /\
 (((x,r::w)::Z).map (·.1)).reverse[k]?=Po (cG s o x r)/\(((x,r::w)::Z).map (·.1)).Nodup/\A=((((x,r::w)::Z).map hdW).reverse).take k/\B=((((x,r::w)::Z).map hdW).reverse).drop k
def AV(s o:O7)(lost:Pc):Prop:=Rch (bL s o) (cG s o) (0,s) ([],[],lost)
section
variable{s o:O7}{x:Std}{r:O7}{w:OQ}{Z:OI}{lost lost':Pc}{kvs:OX}{A B A' B':OQ}
theorem yO{Z a:OI}(h1:(Z.map (·.1)).reverse=(a.map (·.1)).reverse)(h2:(Z.map (·.2)).reverse=(a.map (·.2)).reverse):Z=a:=by
 let e1:=Oe.mp h1;let e2:=Oe.mp h2
 induction Z generalizing a with
 |nil=>cases a with
  |nil=>rfl
  |cons=>cases e1
 |cons p Z ih=>cases a with
  |nil=>cases e1
  |cons q a =>
   rw[Le,Le]at e1 e2;injection e1 with a1 a2;injection e2 with b1 b2;rw[ih (by rw[a2]) (by rw[b2]) a2 b2,Prod.ext a1 b1]
theorem iX{k:Nat}(hk:(((x,r::w)::Z).map (·.1)).reverse[k]?=Po (cG s o x r)):eI (bL s o) (cG s o) ((((x,r::w)::Z).map (·.1)).reverse,(((x,r::w)::Z).map (·.2)).reverse,lost)=((((x,r::w)::Z).map (·.1)).reverse,(((x,r::w)::Z).map (·.2)).reverse,lost):=by let:=LF hk;rw[Le,Mf]at this ⊢;rw[Le,Mf];show vm this
theorem zn(h:oO s o A B)(h':oO s o A' B'):A=A'/\B=B':=by
 cbv;let(x,r,w,Z,l,k,h1,h2,c,rfl,rfl):=h;let(f,g,w',i,l',k',b,a,d,rfl,rfl):=h';let e:=h1.same (iX h2) b (iX a);let(e1,e2):=ip e;let(e2,_):=ip e2;let e:=yO e1 e2;injection e with e3 e4;injection e3 with e5 e6;injection e6 with e7 e8;subst e4 e5 e7 e8;let:k=k':=(N7 (Lc.mp h2).1 ((List.reverse_perm _).nodup_iff.mpr c)).mp (h2.trans a.symm);subst this
 w_up;show(rfl,rfl)
theorem dh(h:oO s o A B)(h':AV s o lost):False:=by let(x,r,w,Z,l,k,h1,h2,_):=h;let:=congrArg (λz:SrS Std O7=>z.1) (h1.same (iX h2) h' kO);simp at this
theorem sD(h:AV s o lost)(h':AV s o lost'):lost=lost':=congrArg (λz:SrS Std O7=>z.2.2) (h.same kO h' kO)
theorem Lk.few(h:Lk s o Z lost kvs):-Z+-lost<=(uQ s o).length:=by
 let:=jc h.nd (U:=uQ s o) λx hx=>by
  rcases K2.mp hx with hx|hx;let(p,a,rfl):=Lo.mp hx;show sA (h.is p a);show sA (h.isl x hx)
 simpa using this
theorem Lk.fit(h:Lk s o ((x,r::w)::Z) lost kvs):r∈de (-s) (o.getD x.1 0) x.2:=by let(pre,h1,_):=h.ful _ K3;show(lZ s o x).1 r (by rw[h1];simp)
theorem Lk.init(h0:IsS s o (0,s)):Lk s o [((0,s),bL s o (0,s))] [] [(kOf (0,s),.int 0)]:=by show((0,rfl),λp a=>(nomatch a),λp a=>?_,λp a=>?_,λx hx=>(nomatch hx),!1,Lf _,λy d e=>?_,λy b=>?_,λj x e=>by simp at e,!1);rw[K7.mp a];show h0;rw[K7.mp a];show([],rfl,λr c=>(nomatch c));rw[bD]at e;split at e;rename_i z;rw[<-lX z];cases e;show .inr (0,rfl,rfl);cases e;rw[K7.mp b,bD,OG rfl];rfl
theorem Lk.skip(h:Lk s o ((x,r::w)::Z) lost kvs)(hx:cG s o x r∈lost):Lk s o ((x,w)::Z) lost kvs:=by show(h.rch.next ?_,h.hd,λp a=>?_,λp a=>?_,h.isl,h.nd,h.kl,h.val,h.key,h.down,h.bg);let c:cG s o x r ∉ ((x,r::w)::Z).map (·.1):=λz=>(K6.mp h.nd).2.2 _ z _ hx rfl;rw[<-MD]at c;simp only[Le,Mf]at c ⊢;show vj c hx;rcases K9.mp a with rfl|a;show(show IsS s o x from h.is (x,r::w) K3);show h.is p (K5 _ a);rcases K9.mp a with rfl|a;let(pre,h2,d):=h.ful _ K3;show(pre++[r],by rw[h2];simp,λq b=>?_);rcases K2.mp b with b|b;show d q b;rw[K7.mp b];show hx;show h.ful p (K5 _ a)
theorem Lk.lose(h:Lk s o ((x,[])::Z) lost kvs):Lk s o Z (lost++[x]) (oS kvs (kOf x) .none):=by
 let pm:(Z.map (·.1)++(lost++[x])).Perm (((x,[])::Z).map (·.1)++lost):=by rw[<-LQ];show List.perm_append_singleton ..
 show(h.rch.next ?_,λp f=>h.hd p (List.mem_of_mem_tail f),λp f=>h.is p (K5 _ f),λp f=>?_,λy c=>?_,pm.nodup_iff.mpr h.nd,?_,λy d e=>?_,λy c=>?_,λj y e=>?_,pm.mem_iff.mpr h.bg);simp only[Le,Mf];show vo;let(pre,h2,g):=h.ful p (K5 _ f);show(pre,h2,λr l=>K1 _ (g r l));rcases K2.mp c with c|c;show h.isl y c;rw[K7.mp c];show h.is _ K3;let:=h.kl;rw[Cz (h.key x K3)];simp at this ⊢;lia;rw[fu]at e;split at e;rename_i z;cases e;show .inl (rfl,by rw[lX z];simp);rename_i z;show(h.val y d e).imp (λ⟨a,b⟩=>(a,K1 _ b)) λk=>?_;let(i,a,b):=k;show(i,a,?_);rw[Le,Mf]at b;by_cases hi:i<(Z.map (·.1)).reverse.length;rwa [L1 hi]at b;rw[L8 (!0)]at b;show absurd (by rw[K7.mp (LF b)]) z;rw[fu];split;rfl;show h.key y (pm.mem_iff.mp c);by_cases hj:j< -lost;rw[L1 hj]at e;rw[List.take_append_of_le_length (MH hj)];show h.down j y e;rw[L8 (!0)]at e;let m:j=-lost:=by let:=(Lc.mp e).1;simp at this;lia
 rw[K7.mp (LF e),m,List.take_left];let(pre,h2,g):=h.ful _ K3;rw[Ls]at h2;show h2▸g
theorem Lk.push(h:Lk s o ((x,r::w)::Z) lost kvs)(hs:∀x∈s,1<=x)(hn:(dY kvs (kOf (cG s o x r))).isSome=Pr):Lk s o ((cG s o x r,bL s o (cG s o x r))::(x,r::w)::Z) lost (oS kvs (kOf (cG s o x r)) (.int ((-Z+1:Nat):Int))):=by
 let hx:=h.is _ K3;let f:cG s o x r ∉ ((x,r::w)::Z).map (·.1)++lost:=λz=>by
  let:=h.key _ z;rw[hn]at this;cases this
 show(h.rch.next ?_,λp c=>?_,λp c=>?_,λp c=>?_,h.isl,Ll.mpr (f,h.nd),?_,λy d e=>?_,λy g=>?_,h.down,K5 _ h.bg);let j:cG s o x r ∉ (((x,r::w)::Z).map (·.1)).reverse:=λz=>f (K1 _ (MD.mp z));let k:cG s o x r ∉ lost:=λz=>f (K0 _ z);simp only[Le,Mf]at j ⊢;show Cs j k;rcases K9.mp c with rfl|c;show MN _ _;show h.hd p c;rcases K9.mp c with rfl|c;show Br hs hx h.fit;show h.is p c;rcases K9.mp c with rfl|c;show([],rfl,λr l=>(nomatch l));show h.ful p c;let:=h.kl;let:=rP kvs (kOf (cG s o x r)) (.int ((-Z+1:Nat):Int));simp at *;lia;rw[fu]at e;rw[Le,Mf];split at e;rename_i z;cases e;show .inr (_,rfl,by rw[lX z,L8 (!1)];simp);show(h.val y d e).imp id λ⟨i,a,b⟩=>(i,a,by rw[L1 (Lc.mp b).1];show b)
 rw[fu];split;rfl;rename_i z;rcases K9.mp g with e|g;show absurd (by rw[e]) z;show h.key y g
end
def lkM(s o:O7)(Z:OI)(lost:Pc):Nat:=((uQ s o).length-(-Z+-lost))*66+(Z.map λp=>p.2.length+1).sum
theorem Dz(x:Std):noL (stS x)=Pq:=by show(Pq&&(gP (x.2.map .int)&&Pq))=Pq;rw[dq];rfl
theorem sw(l:Pc):gP (l.map stS)=Pq:=by
 induction l with
 |nil=>rfl
 |cons x l ih =>
  show(noL (stS x)&&gP (l.map stS))=Pq;rw[Dz,ih];rfl
theorem kg{s o:O7}{x:Std}{Z:OI}{lost:Pc}:lkM s o Z (lost++[x])<lkM s o ((x,[])::Z) lost:=by unfold lkM;simp only[Lu,LB,Om,Le,rj];rw[show -Z+(-lost+(0+1))=-Z+1+-lost by lia];lia
theorem kb{s o:O7}{x:Std}{r:O7}{w:OQ}{Z:OI}{lost:Pc}:lkM s o ((x,w)::Z) lost<lkM s o ((x,r::w)::Z) lost:=by unfold lkM;simp only[Lu,Le,rj];lia
theorem ke{s o:O7}{p:Std×OQ}{Z:OI}{lost:Pc}(h:(p::Z).length+-lost<=(uQ s o).length)(a:p.2.length<64):lkM s o (p::Z) lost<lkM s o Z lost:=by unfold lkM;simp only[Lu,Le,rj]at h ⊢;lia
abbrev bF:Stmt:=top 14
theorem aN:ax ["town","standing","path","ways","places","lost","ahead","rows"] ["town","standing"] (af bF):={}
def TbL(s o:O7):Prop:=-s<=6/\1<=-o/\(∀x∈s,1<=x)/\(∀h∈o,0<=h)/\(-s<=4\/∀h∈o,h<=3)/\(uQ s o).length<100000
theorem Jn:(λw:OQ=>w.headD [])=λw=>w.getD 0 []:=by funext w;cases w <;> rfl
structure oQ(s o:O7)(lost:Pc):Prop where
 rch:AV s o lost
 is : ∀x∈lost,IsS s o x
 few:lost.length<=(uQ s o).length
 down:∀(j:Nat) x,lost[j]?=some x->∀r∈bL s o x,cG s o x r∈lost.take j
 bg : (0,s)∈lost
def vt:DSp:=λss R=>∃(s o:O7),ss=[.fr (.tuple [.list (li s),.list (li o)]),.fr (.tuple [.int 0,.tuple (li s)])]/\TbL s o /\
 (∀(A B:OQ) (x:av),oO s o A B->-A+-B<=(uQ s o).length->(∀r∈A++B,-r<=6)->∀S,R (.tr S (.tuple [.tuple [.list (lr A),.list (lr B)],x])) [.un,.un]) /\
 ∀lost:Pc,oQ s o lost->∀S,R (.tr S (.tuple [.none,.list (lost.map stS)])) [.un,.un]
theorem gO{f:aG}{fd:kx}(F:Fun K "looked_through" "looked_through" bF f fd)(B:Bn mg)(g:Cal P w K mg base "full_rows" 7 (spD K vv))(j:Cal P w K mg base "behind" 1 (spD K iI)):aY P w K mg base CX0 9 f fd ["town","standing"] (spD K vt):=by
 show okD (k:=8) F aN (λss R h=>?_) (!2) (λcdv A outer s H E J=>(_,(aj (aT 2 aN.nd (dR (aa (qf 1) ag)))
   (aj (aT 3 aN.nd (j6 (aa (aQ g (aa (qf 0) (aa (qf 1) ag))) ag)))
   (aj (aT 4 aN.nd (Gb (K:=K) rfl (hu2 J) (qf 1) ap))
   (aj (aT 5 aN.nd (dR ag))
   (aj (v3 PassesOwn.never (zc (K:=K) rfl (qv 2)) (aj (cQ (fG (vQ 3 (K:=K) rfl rfl)) (aj (cW (jK 5 (K:=K) rfl rfl (IH 2 (K:=K) rfl rfl)))
   (aj (v8 4 (K:=K) rfl (hu2 J) rfl (qx (qv 5) (HI mq HN ap)) fN)
   (aj (cW (FW 3 (K:=K) rfl rfl))
   (al ut)))) aF)
   (aj (aT 6 aN.nd (wd (aQ j (aa (qf 0) (aa (qx (qv 2) (HI mq HN ap)) (aa (qx (qx (qv 3) (HI mq HN ap)) ap) ag))))))
   (al (cQ (aC (DY (K:=K) rfl (hu2 J)) DF (qv 6) (qv 4)) (aj (v8 4 (K:=K) rfl (hu2 J) rfl (qf 6) (uo B.len (qv 2)))
   (aj (cW (jK 2 (K:=K) rfl rfl (qf 6)))
   (al (cW (Gf 3 (K:=K) rfl rfl (aQ g (aa (qf 0) (aa (qf 6) ag)))))))) (al (cQ (aC wL IW (qxK (qv 4) (qv 6)) fN) (al (cW (CV 3 (K:=K) rfl rfl))) (aj (uq (K:=K) 3 (i:=7) aN.nd rfl rfl cA rfl rfl rfl (oH (N:=_::_) (sc0:=af bF) rfl rfl (!3)) (λ_ _ _ _=>fO (!4) rfl cA) (λ_ _ _ _=>ah rfl cA))
   (al (aR (j4 (aa (ze 7 (K:=K) rfl rfl (qxK (qv 4) (qv 6)) (qxK (qv 4) (qv 6))) (aa (lg 5) ag)))))))))))))
   (al (aR (j4 (aa fN (aa (lg 5) ag)))))))))),λss R h=>?_))
 let(s,o,rfl,_):=h;rfl;let(s,o,rfl,(t1,t2,t3,t4,t5,t6),q1,q2):=h;lk;let M:∀d,d< -o->0<=o.getD d 0/\(-s<=4\/o.getD d 0<=3):=λd hd=>(t4 _ (bQ hd),t5.imp id λh=>h _ (bQ hd))
 let i0:IsS s o (0,s):=(t2,rfl,λc hc=>(t3 _ (bQ hc),NS _))
 let few:∀x:Std,IsS s o x->(bL s o x).length<64/\∀r∈bL s o x,-r<=6:=λx hx=>jp t1 (M _ hx.1).2;show(Ld (!2) ar,?_);lk;show(s,o,s,0,rfl,t1,(M 0 t2).1,(M 0 t2).2,(t2,rfl),?_);obtain⟨fr,I⟩:∃fr,fr=bL s o (0,s):=(_,rfl)
 rw[<-I];intro S0;lk;show(Ld (!2) ar,λS=>?_);lk;show(((0:Int),s),rfl,rfl,λS1=>?_);lk;show(Ln _,?_);lk;show(λm env=>∃(Z:OI) (path:Pc) (Y:OJ) (kvs:OX) (lost:Pc) (S1 S2:Pg) (a b:Sl),
  env=[.fr (.tuple [.list (li s),.list (li o)]),.fr (.tuple [.int 0,.tuple (li s)]),.ow (path.map stS),.tr S1 (wyD Y),.tr S2 (fQ kvs),.ow (lost.map stS),a,b] /\
  path=(Z.map (·.1)).reverse/\Y=(Z.map (·.2)).reverse/\Lk s o Z lost kvs/\m=lkM s o Z lost,(_,[((0,s),fr)],[(0,s)],[fr],[(((0:Int),s),.int 0)],[],S,S1,.un,.un,rfl,rfl,rfl,I▸Lk.init i0,rfl),?_)
 rintro m env ⟨Z,path,Y,kvs,lost,S1,S2,a,b,rfl,eP,eW,hs,rfl⟩;let L:=hs.few;let a0:=hs.kl;let C:∀n:Nat,n<=100000->n<sizeLine:=λn h=>Lg (!0) ar;let a3:∀p∈Z,p.2.length<64/\∀r∈p.2,-r<=6:=λp l=>by
  let(pre,h2,_):=hs.ful p l;let:=few _ (hs.is p l);rw[h2]at this;simp only[LB]at this;show(!0,λr J=>this.2 r (K0 _ J))
 lk;rcases Z with _|⟨⟨x,w⟩,Z⟩
 .subst eP eW;rw[OH (!1)];lk;rw[OG (sw lost)];show(_,rfl,Ld (!2) ar,λS=>q2 lost (hs.rch,hs.isl,by simpa using L,hs.down,by simpa using hs.bg) S)
 obtain⟨P,O⟩:∃P,P=(Z.map (·.1)).reverse:=(_,rfl)
 obtain⟨V,Q⟩:∃V,V=(Z.map (·.2)).reverse:=(_,rfl)
 let a4:path=P++[x]:=by rw[eP,O];simp
 let a5:Y=V++[w]:=by rw[eW,Q];simp
 let lP:-P=-Z:=by rw[O];simp
 let lV:V.length=-Z:=by rw[Q];simp
 let T:IsS s o x:=hs.is _ K3;subst a4 a5;simp only[Lu]at L a0;rw[Lw,OG (!1)];cases w with
 |nil =>
  show(V,[],rfl,?_);rw[OG (show(!([]:OQ).isEmpty)=Pr from rfl)];show(stS x,!1,C _ (by simp;lia),?_);lk;show((kvs,rfl),stS x,dz _ _,kvs,rfl,kOf x,rfl,C _ (!0),?_);lk;show(V,[],rfl,λS'=>?_);lk;show(_,kg,Z,P,!1,V,rfl,oS kvs (kOf x) .none,rfl,lost++[x],!1,O,Q,hs.lose,rfl)
 |cons r w =>
  show(V,r::w,rfl,?_);rw[OH (show ¬(!(r::w).isEmpty)=Pr from by simp)];let J:r∈de (-s) (o.getD x.1 0) x.2:=hs.fit;let D:=Br t3 T J;lk;show(stS x,dz _ _,_,rfl,wT (r::w),by rw[Lw];show dz _ _,_,rfl,.list (li r),by simp[atI,ixN],s,o,x.2,r,x.1,rfl,t2,T.2.1,!0,?_);lk;show(kOf (cG s o x r),rfl,rfl,kvs,rfl,yI (λh=>?_) (λh=>?_))
  .let hn:(dY kvs (kOf (cG s o x r))).isSome=Pr:=by
    cases e:dY kvs (kOf (cG s o x r)) with
    |none=>rfl
    |some v=>rw[e]at h;cases h
   let l:=hs.push t3 hn;let G:=l.few;show((kvs,rfl),kvs,rfl,kOf (cG s o x r),rfl,rfl,C _ (!0),?_);lk;show(C _ (by simp;lia),?_);lk;show((_,rfl),s,o,(cG s o x r).2,(cG s o x r).1,rfl,t1,(M _ D.1).1,(M _ D.1).2,(D.1,D.2.1),?_);let U:=(few _ D).1;rw[show(((cG s o x r).1,(cG s o x r).2):Std)=cG s o x r from rfl];obtain⟨fr,I⟩:∃fr,fr=bL s o (cG s o x r):=(_,rfl)
   rw[<-I]at U l G ⊢;intro S5;lk;show(_,rfl,C _ (by simp;lia),λS'=>(_,ke G U,(cG s o x r,fr)::(x,r::w)::Z,P++[x]++[cG s o x r],by rw[Lw,Lw];rfl,V++[r::w]++[fr],by show eg (i1 wT (V++[r::w])++[wT fr])=eg (i1 wT (V++[r::w]++[fr]));rw[Lw (l₁:=V++[r::w]) (l₂:=[fr])];rfl,_,rfl,lost,rfl,by rw[O];simp,by rw[Q];simp,?_,rfl));rw[show(P.map stS++[stS x]).length=-Z+1 from by simp[lP]];show l
  .cases hv:dY kvs (kOf (cG s o x r)) with
   |none=>rw[hv]at h;show absurd rfl h
   |some v =>
    show(kvs,rfl,kOf (cG s o x r),rfl,rfl,v,hv,?_);rcases hs.val _ _ hv with⟨e,hl⟩|⟨k,e,hk⟩
    subst e;rw[OG (show ku .none=Pq from rfl)];show(V,r,w,rfl,λS'=>(_,kb,(x,w)::Z,P++[x],!1,V++[w],rfl,kvs,rfl,lost,rfl,by rw[O];simp,by rw[Q];simp,hs.skip hl,rfl))
    .subst e;rw[OH (show ¬ku (.int (k:Int))=Pq fromλz=>Bool.noConfusion z)];let W:∀p∈(x,r::w)::Z,p.2≠[]:=λp l=>(K9.mp l).elim (λe=>e▸MN _ _) (hs.hd p);let hW:∀u∈V++[r::w],u≠[]:=λu hu=>by
      rw[eW]at hu;let(p,l,rfl):=Lo.mp (MD.mp hu);show W p l
     show(V++[r::w],rfl,by simp;lia,hW,λS'=>?_);rw[Jn];lk;show(k,(kvs,rfl,kOf (cG s o x r),rfl,rfl,_,hv,rfl),λS6=>?_);rw[OG (sw lost),<-List.map_take,<-List.map_drop];let eH:(V++[r::w]).map (λw=>w.getD 0 [])=(((x,r::w)::Z).map hdW).reverse:=by rw[eW,List.map_reverse,LA];rfl
     show(_,rfl,Ld (!2) ar,λS7=>q1 _ _ _ (x,r,w,Z,lost,k,hs.rch,hk,(K6.mp hs.nd).1,by rw[<-eH],by rw[<-eH]) (by simp;lia) (λr' X=>?_) S7);rw[Nt,eH]at X;let(p,l,rfl):=Lo.mp (MD.mp X);let h2:=a3 p l;let h3:=W p l;let(y,u):=p;cases u with
     |nil=>show absurd rfl h3
     |cons q t=>show h2.2 q K3
abbrev iW:Stmt:=top 15
theorem uj:ax ["town"] ["town"] (af iW):={}
def uR(s o:O7)(v:av):Prop:=(∃A B:OQ,v=.tuple [.list (lr A),.list (lr B)]/\oO s o A B/\A.length+-B<=(uQ s o).length/\∀r∈A++B,-r<=6)\/v=.none/\∃lost,oQ s o lost
theorem uR.one{s o:O7}{v v':av}(h:uR s o v)(h':uR s o v'):v=v':=by
 rcases h with⟨A,B,rfl,h,_⟩|⟨rfl,l,h⟩ <;> rcases h' with⟨A',B',rfl,h',_⟩|⟨rfl,l',h'⟩
 let(rfl,rfl):=zn h h';rfl;show(dh h h'.rch).elim;show(dh h' h.rch).elim;rfl
def dE:DSp:=λss R=>∃(s o:O7),ss=[.fr (.tuple [.list (li s),.list (li o)])]/\TbL s o/\∀v,uR s o v->∀S,R (.tr S v) [.un]
theorem uw{f:aG}{fd:kx}(F:Fun K "plan_of" "plan_of" iW f fd)(B:Bn mg)(a:Cal P w K mg base "looked_through" 9 (spD K vt))(b:Cal P w K mg base "begun" 1 (spD K kU)):aY P w K mg base CX0 10 f fd ["town"] (spD K dE):=by
 show okD (k:=9) F uj (λss R h=>?_) (!2) (λcdv A outer s H E d=>(_,(al (aR (F5 (K:=K) rfl (aQ a (aa (qf 0) (aa (aQ b (aa (qf 0) ag)) ag)))))),λss R h=>?_));let(s,o,rfl,_):=h;rfl;let(s,o,rfl,t,q):=h;walk_at"dd";show(s,o,rfl,?_);walk_at"dd";show(s,o,rfl,t,λA B x c h1 h2 S=>?_,λlost hl S=>?_)
 .lk
  exactλS'=>q _ (.inl (A,B,rfl,c,h1,h2)) S'
 .lk
  exactλS'=>q _ (.inr (rfl,lost,hl)) S'
abbrev cF:Stmt:=top 17
theorem cI:ax ["town","found","ranks","standing","ahead"] ["town"] (af cF):={}
abbrev Jv(e:Std×Int):av:=.tuple [.int (e.1.1:Int),.tuple (li e.1.2),.int e.2]
abbrev E9(P:List (Std×Int)):Pe:=P.map Jv
theorem DC{l:O7}{d a b:Int}(h:oP l d a)(h':oP l d b):a=b:=by
 rcases h with⟨h1,h2⟩|⟨h1,h2⟩ <;> rcases h' with⟨c,e⟩|⟨c,e⟩
 lia;rw[h1]at c;cases c;rw[c]at h1;cases h1;show Int.le_antisymm (e _ h1) (h2 _ c)
def mxF(l:O7):Int:=open Classical in if h:∃m,oP l 0 m then h.choose else 0
theorem GH{l:O7}{m:Int}(h:oP l 0 m):m=mxF l:=DC h (by unfold mxF;rw[dif_pos (m,h)];show Exists.choose_spec _)
def uW(kvs:OX)(y:Std):Int:=match dY kvs (kOf y) with
 |some (.int i)=>i
 |_=>0
def d3(s o:O7)(kvs:OX)(x:Std):OX:=oS kvs (kOf x) (.int (mxF ((dm (bL s o x).length).map λi=>uW kvs (cG s o x ((bL s o x).getD i []))+1)))
theorem Bb{s o:O7}(l:Pc):∀kvs:OX,(l.foldl (d3 s o) kvs).length<=-kvs+-l/\∀y,(y∈l\/dY kvs (kOf y)=Po (.int (uW kvs y)))->dY (l.foldl (d3 s o) kvs) (kOf y)=Po (.int (uW (l.foldl (d3 s o) kvs) y)):=by
 induction l with
 |nil=>exactλkvs=>(Lf _,λy h=>h.elim (λz=>nomatch z) id)
 |cons x l ih =>
  intro kvs;let(h1,h2):=ih (d3 s o kvs x);show(?_,λy a=>h2 y ?_);let:=rP kvs (kOf x) (.int (mxF ((dm (bL s o x).length).map λi=>uW kvs (cG s o x ((bL s o x).getD i []))+1)));simp only[List.foldl_cons,Lu];unfold d3 at h1 ⊢;lia;by_cases e:y=x;subst e;right;unfold uW d3;rw[fu,OG rfl];show a.imp (λh=>(K9.mp h).resolve_left e) λh=>?_;let e':¬kOf y=kOf x:=λz=>e (lX z);unfold uW d3 at *;rw[fu,OH e'];show h
def Dp(s o:O7)(lost:Pc):List (Std×Int):=lost.map λx=>(x,uW (lost.foldl (d3 s o) []) x)
def gG:DSp:=λss R=>∃(s o:O7),ss=[.fr (.tuple [.list (li s),.list (li o)])]/\TbL s o/\((∃A B,oO s o A B)->R (.fr .none) [.un])/\∀lost,oQ s o lost->R (.ow (E9 (Dp s o lost))) [.un]
theorem pR{f:aG}{fd:kx}(F:Fun K "paper_of" "paper_of" cF f fd)(B:Bn mg)(c:Cal P w K mg base "looked_through" 9 (spD K vt))(r:Cal P w K mg base "begun" 1 (spD K kU))(g:Cal P w K mg base "full_rows" 7 (spD K vv))(p:Cal P w K mg base "behind" 1 (spD K iI)):aY P w K mg base CX0 10 f fd ["town"] (spD K gG):=by
 show okD (k:=9) F cI (λss R h=>?_) (!2) (λcdv A outer s H E M=>(_,(aj (aT 1 cI.nd (se (aQ c (aa (qf 0) (aa (aQ r (aa (qf 0) ag)) ag)))))
   (aj (cQ (aC gN z6 (qx (qv 1) ap) fN) (al (aR fN)) aF)
   (aj (aT 2 cI.nd Gc)
   (aj (jJ PassesOwn.never rfl (dQ (qx (qv 1) ap)) (a8 3 cI.nd) (aj (iZ 4 cI.nd (NN:=_::_) (sc0:=af cF) (N':=["row","town","standing"]) (ix:=[Pp,Po 0,Po 3]) (dQ (se (aQ g (aa (qf 0) (aa (qf 3) ag))))) (λZ Z Z Z=>(a8 0 (!4))) (λZ Z Z Z=>(aQ p (aa (qf 1) (aa (qf 2) (aa (qf 0) ag))))))
   (FQ 4 (al (v8 2 (K:=K) rfl (hu2 M) rfl (qf 3) (C0 2 (FX (K:=K) rfl rfl rfl B.max (aa (sf (NN:=_::_) (sc0:=af cF) (N':=["other","ranks"]) (ix:=[Pp,Po 2]) (dQ (qf 4)) (λZ Z Z Z=>(a8 0 (!4))) (λZ Z Z Z=>(bJ bY mI (qxK (qv 1) (qv 0)) ap))) ag))))))))
   (CP 2 (al (aR (sf (NN:=_::_) (sc0:=af cF) (N':=["standing","ranks"]) (ix:=[Pp,Po 2]) (dQ (qx (qv 1) ap)) (λZ Z Z Z=>(a8 0 (!4))) (λZ Z Z Z=>(zd (aa (qx (qv 0) ap) (aa (qx (qv 0) ap) (aa (qxK (qv 1) (qv 0)) ag))))))))))))),λss R h=>?_))
 let(s,o,rfl,_):=h;rfl;let(s,o,rfl,t,N,q):=h;let(t1,t2,X,O,T,U):=id t;lk;show(s,o,rfl,?_);lk;show(s,o,rfl,t,λA B x hc Z Z V=>?_,λlost hl V=>?_)
 .lk;show N (A,B,hc)
 let L:-lost<100000:=LW hl.few U;let z:∀d,d< -o->0<=o.getD d 0/\(-s<=4\/o.getD d 0<=3):=λd hd=>(O _ (bQ hd),T.imp id λh=>h _ (bQ hd))
 let C:∀n:Nat,n<=100000->n<sizeLine:=λn h=>Lg (!0) ar;lk;intro S;lk;show bR (λj env=>∃(kvs:OX) (a b:Sl),env=[.fr (.tuple [.list (li s),.list (li o)]),.fr (.tuple [.none,.list (lost.map stS)]),.tr S (fQ kvs),a,b]/\kvs=(lost.take j).foldl (d3 s o) []) ([],_,_,rfl,rfl) ?_ ?_
 .rintro j env hj ⟨kvs,a,b,rfl,hk⟩;rw[K4]at hj;rw[Mb];let l:=hl.is _ (cE hj);let hd:=hl.down j _ (K8 hj);let y:d3 s o kvs lost[j]=(lost.take (j+1)).foldl (d3 s o) []:=by
   rw[List.take_succ_eq_append_getElem hj,List.foldl_append,<-hk];rfl
  let(k1,k2):=Bb (s:=s) (o:=o) (lost.take j) [];rw[<-hk]at k1 k2;let k1:-kvs<sizeLine:=C _ (by simp at k1;lia);obtain⟨x,hx⟩:∃x,x=lost[j]:=(_,rfl)
  rw[<-hx]at l hd y ⊢;lk;let(D,G):=jp (o:=o) (x:=x) t1 (z _ l.1).2;show(s,o,x.2,x.1,rfl,t1,(z _ l.1).1,(z _ l.1).2,(l.1,l.2.1),λY=>?_);unfold d3 at y;rw[show((x.1,x.2):Std)=x from rfl];obtain⟨fr,I⟩:∃fr,fr=bL s o x:=(_,rfl)
  rw[<-I]at D G hd y ⊢;lk;show iu (λi=>stS (cG s o x (fr.getD i []))) (by rw[K4];lia) (λi hi Q u=>?_) ?_
  .rw[sC];lk;show(s,o,x.2,fr.getD i [],x.1,rfl,t2,l.2.1,!0,?_);lk;show u
  rw[show(lr fr).length=-fr from K4 ..];lk;show iu (λi=>.int (uW kvs (cG s o x (fr.getD i []))+1)) (by rw[K4,LH];lia) (λi hi Q u=>?_) ?_
  .rw[K4,LH]at hi;rw[Mb,List.getElem_range];let v:=k2 _ (.inl (hd (fr.getD i []) (by rw[Lb,K8 hi];show cE hi)));lk;show(kvs,rfl,kOf (cG s o x (fr.getD i [])),rfl,rfl,_,v,_,rfl,u)
  rw[K4,LH,show(dm (-fr)).map (λi=>fy (uW kvs (cG s o x (fr.getD i []))+1))=li ((dm (-fr)).map λi=>uW kvs (cG s o x (fr.getD i []))+1) by
   show _=i1 _ (i1 _ _);rw[LA];rfl]
  lk;intro m W;rw[<-GH W]at y;show((kvs,rfl),kvs,rfl,kOf x,rfl,rfl,k1,oS kvs (kOf x) (.int m),rfl,y)
 .rintro env ⟨kvs,a,b,rfl,hk⟩;rw[K4,ML]at hk;let k2:=(Bb (s:=s) (o:=o) lost []).2;rw[<-hk]at k2;lk;show iu (λi=>Jv (lost.getD i (0,[]),uW kvs (lost.getD i (0,[])))) (by rw[K4];lia) (λi hi Q u=>?_) ?_
  .rw[K4]at hi;rw[Mb];let e:lost.getD i (0,[])=lost[i]:=by rw[Lb,K8 hi];rfl
   rw[e]at u;lk;show(kvs,rfl,kOf lost[i],rfl,rfl,_,k2 _ (.inl (cE hi)),Ld (!2) ar,u)
  rw[show(dm (lost.map stS).length).map (λi=>Jv (lost.getD i (0,[]),uW kvs (lost.getD i (0,[]))))=E9 (Dp s o lost) by
   unfold Dp;rw[<-hk];apply Mh;simp;intro i h1 h2;let J:i< -lost:=by simpa using h1
   simp[Lb,J]]
  lk;show q _ hl
noncomputable def mnd:O7->Nat->OQ
 |[],_=>[]
 |[x],n=>[[x+(n:Int)]]
 |x::y::r,n=>(dm (n+1)).flatMap λk=>(mnd (y::r) (n-k)).map ((x+(k:Int))::·)
theorem qc(x:Int)(n:Nat):mnd [x] n=[[x+(n:Int)]]:=by unfold mnd;rfl
theorem qa(x y:Int)(r:O7)(n:Nat):mnd (x::y::r) n=(dm (n+1)).flatMap λk=>(mnd (y::r) (n-k)).map ((x+(k:Int))::·):=by rw[mnd]
theorem wZ:∀(s:O7) (n:Nat) (t:O7),t∈mnd s n->-t=-s/\∀c,c< -s->s.getD c 0<=t.getD c 0/\t.getD c 0<=s.getD c 0+(n:Int)
 |[],n,t,h=>by
  unfold mnd at h;cases h
 |[x],n,t,h=>by
  rw[qc,K7]at h;subst h;show(rfl,λc hc=>?_);let:c=0:=by simpa using hc
  subst this;show x<=x+(n:Int)/\x+(n:Int)<=x+(n:Int)
  lia
 |x :: y::r,n,t,h=>by
  rw[qa,Og]at h
  cbv;let(k,hk,h):=h;let(u,a,rfl):=Lo.mp h;let hk:=LP.mp hk;let(e1,e2):=wZ (y::r) (n-k) u a
  w_up;show(by rw[Lu,e1];rfl,λc hc=>?_);cases c with
  |zero =>
   show x<=x+(k:Int)/\x+(k:Int)<=x+(n:Int)
   lia
  |succ c =>
   let:=e2 c (by simpa using hc);show(y::r).getD c 0<=u.getD c 0/\u.getD c 0<=(y::r).getD c 0+(n:Int)
   lia
theorem jW{l:Pd}{b:Nat}(h:∀x∈l,x<=b):l.sum<=-l*b:=by
 induction l with
 |nil=>simp
 |cons x l ih =>
  let h1:=h x (!1);let h2:=ih λy a=>h y (by simp[a]);rw[rj,Lu,Nat.add_mul,Nat.one_mul];lia
theorem je:∀(s:O7) (n:Nat),(mnd s n).length<=(n+1) ^ (-s)
 |[],n=>by
  unfold mnd;show Ln _
 |[x],n=>by
  rw[qc];show 1<=(n+1) ^ 1;rw[Nat.pow_one];lia
 |x :: y::r,n=>by
  rw[qa,NP];let h:∀v∈(dm (n+1)).map (λk=>((mnd (y::r) (n-k)).map ((x+(k:Int))::·)).length),v<=(n+1) ^ (y::r).length:=λv hv=>by
   let(k,hk,rfl):=Lo.mp hv;rw[K4];show Ld (je (y::r) (n-k)) (NX (!0) _)
  let:=jW h;rw[K4,LH]at this;show Ld this ?_;rw[show(x::y::r).length=(y::r).length+1 from rfl,Nq,Nat.mul_comm];show Lf _
theorem HU{m n:Nat}(a:m<=3)(hn:n<=4):(n+1) ^ m<=125:=by let h1:(n+1) ^ m<=5 ^ m:=NX (!0) _;let h2:5 ^ m<=5 ^ 3:=Mq (!2) a;lia
theorem zm{s:O7}{b:Nat}(h:∀x∈s,1<=x/\x<=(b:Int)):lq s<=b ^ (-s):=by
 induction s with
 |nil=>show Lf _
 |cons x s ih =>
  let h1:=h x (!1);let h2:=ih λy a=>h y (by simp[a]);show x.toNat*lq s<=b ^ (-s+1);rw[Nq,Nat.mul_comm];show Ow h2 (!0)
theorem Fv{s o:O7}(h1:1<=-s)(h2:-s<=3)(hs:∀x∈s,1<=x/\x<=13)(a:1<=-o)(c:-o<=3)(ho:∀x∈o,0<=x):TbL s o:=by show(!0,a,λx hx=>(hs x hx).1,ho,.inl (!0),?_);rw[AO];let p:=zm (b:=13) hs;let p2:13 ^ (-s)<=13 ^ 3:=Mq (!2) h2;let:-o*lq s<=3*13 ^ 3:=Ow c (Ld p p2);lia
theorem lO{s o t:O7}{n:Nat}(h1:1<=-s)(h2:-s<=3)(hs:∀x∈s,1<=x/\x<=9)(hn:n<=4)(a:1<=-o)(b:-o<=3)(ho:∀x∈o,0<=x)(d:t∈mnd s n):TbL t o:=by let(e1,e2):=wZ s n t d;show Fv (!0) (!0) (λx hx=>?_) a b ho;let(c,hc,rfl):=LC hx;let:=e2 c (!0);let e:=hs _ (bQ (l:=s) (k:=c) (!0));rw[show t.getD c 0=t[c] by rw[Lb,K8 hc];rfl]at this;lia
theorem yf(x:Int)(r:O7):B0 (li (x::r)) (Po 1) Pp=li r:=by unfold B0;rw[show(Po (1:Int))=Po ((1:Nat):Int) from rfl,HT.sIx_nat,HT.sIx_none,K4,Lu,MZ (!0)];show(List.drop 1 (fy x::i1 _ r)).take _=_;rw[List.drop_succ_cons,M3,LY (by rw[K4];lia)]
def Bs(x:Int)(r:O7)(n k:Nat):OQ:=(dm k).flatMap λj=>(mnd r (n-j)).map ((x+(j:Int))::·)
theorem w4(x:Int)(r:O7)(n k:Nat):Bs x r n (k+1)=Bs x r n k++(mnd r (n-k)).map ((x+(k:Int))::·):=by unfold Bs;rw[Mm,NQ,N8,List.flatMap_nil,Ls]
theorem zZ(x y:Int)(r:O7)(n:Nat):Bs x (y::r) n (n+1)=mnd (x::y::r) n:=(qa x y r n).symm
theorem zY(x:Int){r:O7}{n k:Nat}(a:-r<=2)(hn:n<=4)(hk:k<=5):(Bs x r n k).length<=1000:=by
 unfold Bs;rw[NP];let h:∀v∈(dm k).map (λj=>((mnd r (n-j)).map ((x+(j:Int))::·)).length),v<=125:=λv hv=>by
  let(j,_,rfl):=Lo.mp hv;rw[K4];show Ld (je r (n-j)) (HU (!0) (!0))
 let:=jW h;rw[K4,LH]at this;let:=Nat.mul_le_mul_right 125 hk;lia
abbrev b8:Stmt:=top 19
theorem fK:ax ["spans","size","found","more"] ["spans","size"] (af b8):={}
def gH(n:Nat):DSp:=λss R=>∃(s:O7) (m:Nat),ss=[.fr (.list (li s)),.fr (.int m)]/\1<=-s/\s.length<=n+1/\s.length<=3/\m<=4/\∀S,R (.tr S (.list (lr (mnd s m)))) [.un,.un]
theorem jz{f:aG}{fd:kx}(F:Fun K "mends_of" "mends_of" b8 f fd):bE K fd ["spans","size"] []:=F.binds (ps:=["spans","size"]) λY Y Y Y Y Y us hl=>us2 (Q:=λus=>Qh _ (us,[])=pure (p7 _ us)) hl λY Y=>rfl
theorem j9{f:aG}{fd:kx}(F:Fun K "mends_of" "mends_of" b8 f fd)(B:Bn mg)(n:Nat)(sp:DSp)(b:Cal P w K mg base "mends_of" n (spD K sp))(e:∀m,n=m+1->sp=gH m):aY P w K mg base CX0 (n+1) f fd ["spans","size"] (spD K (gH n)):=by
 show okD (k:=n) F fK (λss R h=>?_) (!2) (λcdv A outer s H E p=>(_,(aj (cQ (aC bM gQ (uo B.len (qv 0)) ap) (al (aR (j6 (aa (dR (aa (bJ bY mI (qx (qv 0) ap) (qv 1)) ag)) ag)))) aF)
   (aj (aT 2 fK.nd (j6 ag))
   (aj (jJ PassesOwn.never rfl (eR rfl B.range (aa (bJ bY mI (qv 1) ap) ag)) (a8 3 fK.nd) (al (cW (F9 2 (K:=K) rfl rfl (aa (C2 (N':=["rest","spans","more"]) (ix:=[Pp,Po 0,Po 3]) rfl (oH (N:=_::_) (sc0:=af b8) rfl rfl (!3)) (dQ (se (aQ b (aa (FV (K:=K) rfl (qv 0) (vT ap) vU) (aa (bJ Bo mI (qv 1) (qv 3)) ag)) (p.mono (Lf _))))) (λY Y Y Y=>(a8 0 (!4))) (λY Y Y Y=>lf) (λY Y Y Y=>(CW (lB (K:=K) rfl) IY (dR (aa (bJ bY mI (qx (qv 1) ap) (qv 2)) ag)) (qv 0)))) ag)))))
   (al (aR (lg 2)))))),λss R h=>?_))
 let(s,m,rfl,_):=h;rfl;let(s,m,rfl,h1,h2,d,u,q):=h;let hx:atI (li s) 0=Po (.int (s.getD 0 0)):=iw (ns:=s) (k:=0) (!0);lk;rw[K4];show yI (λhl=>?_) (λhl=>?_)
 .obtain⟨x,rfl⟩:∃x,s=[x]:=by
   cases s with
   |nil=>simp at h1
   |cons x r =>
    cases r with
    |nil=>show(x,rfl)
    |cons y r=>simp at hl;lia
  show(_,hx,?_);lk;rw[qc]at q;show(Ld (!2) ar,Ld (!2) ar,q)
 obtain⟨x,y,r,rfl⟩:∃x y r,s=x::y::r:=by
  cases s with
  |nil=>simp at h1
  |cons x r =>
   cases r with
   |nil=>simp at hl
   |cons y r=>show(x,y,r,rfl)
 let hx:atI (li (x::y::r)) 0=Po (.int x):=hx;let o:=yf x (y::r);obtain⟨S,v⟩:∃S,S=li (x::y::r):=(_,rfl)
 rw[<-v]at hx o ⊢;lk;show(Ln _,λz=>?_);lk;show(!0,!0,bR (λi env=>∃(S1:Pg) (a:Sl),env=[.fr (.list S),.fr (.int m),.tr S1 (.list (lr (Bs x (y::r) m i))),a]) (z,_,rfl) ?_ ?_)
 .rintro i env hi ⟨S1,a,rfl⟩;rw[aI]at hi;rw[bf];lk;obtain⟨g,rfl⟩:∃g,n=g+1:=(n-1,by simp at h2;lia)
  obtain rfl:=e g rfl;let C:i<=m:=!0
  let G:(mnd (y::r) (m-i)).length<=125:=Ld (je _ _) (HU (by simpa using Nat.le_of_succ_le d) (!0));let I:=zY x (r:=y::r) (n:=m) (k:=i) (by simpa using d) u (!0);rw[o,show((m:Int)-(i:Int))=((m-i:Nat):Int) by lia];show(y::r,m-i,rfl,!1,by simpa using h2,by simp at d ⊢;lia,!0,?_);let c:∀t∈mnd (y::r) (m-i),-t<=3:=λt h=>by
   let:=(wZ _ _ _ h).1;simp at this d;lia
  rw[w4];generalize mnd (y::r) (m-i)=mm at *;generalize Bs x (y::r) m i=uu at *;lk;intro J;show EY (λj=>.list (li ((x+(i:Int))::mm.getD j []))) (by rw[K4];lia) (λj hj Q D=>?_) ?_
  .rw[K4]at hj;rw[sC];let L:=c _ (jn (l:=mm) hj);lk;show(_,hx,?_);lk;show(Ld (!2) ar,by rw[K4];show Ld (!0) ar,D)
  .intro S2;rw[K4,uk mm [] (λt=>eg (li ((x+(i:Int))::t)))];lk;show(?_,?_);rw[K4,K4];show Ld (!0) ar;intro _;show _=i1 _ (uu++_);rw[Lw,LA];rfl
 .rintro env ⟨S1,a,rfl⟩;rw[aI];lk;rw[show((m:Int)+1).toNat=m+1 by lia,zZ];show q _
theorem nc{f:aG}{fd:kx}(F:Fun K "mends_of" "mends_of" b8 f fd)(B:Bn mg)(m:mg "mends_of" = Po (.ref f)):∀n,aY P w K mg base CX0 (n+1) f fd ["spans","size"] (spD K (gH n))
 | 0=>j9 F B 0 _ (JQ F m (jz F)) λY z=>(nomatch z)
 |n+1=>j9 F B (n+1) (gH n) (HZ F m (jz F) (nc F B m n)) λY z=>by cases z;rfl
theorem pS{f:aG}{fd:kx}(F:Fun K "mends_of" "mends_of" b8 f fd)(B:Bn mg)(m:mg "mends_of" = Po (.ref f)):aY P w K mg base CX0 3 f fd ["spans","size"] (spD K (gH 2)):=nc F B m 2
theorem wU(A:OQ):iC (lr A)=Pq:=by
 induction A with
 |nil=>rfl
 |cons r A ih =>
  show(iC (li r)&&iC (lr A))=Pq;rw[ih,bC];rfl
def fh(s o:O7)(v:av):Prop:=∃A B:OQ,v=.tuple [.list (lr A),.list (lr B)]/\oO s o A B/\A.length+-B<=(uQ s o).length/\∀r∈A++B,-r<=6
theorem fh.noF{s o:O7}{v:av}(h:fh s o v):noF v=Pq:=by let(A,B,rfl,_):=h;show(iC (lr A)&&(iC (lr B)&&Pq))=Pq;rw[wU,wU];rfl
abbrev eL:Stmt:=top 20
theorem dH:ax ["mends","hands","spans","plan"] ["mends","hands"] (af eL):={}
def yN(t o:O7):Prop:=∃lost,oQ t o lost
theorem lE{f:aG}{fd:kx}(F:Fun K "first_kept" "first_kept" eL f fd)(B:Bn mg)(b:Cal P w K mg base "plan_of" 10 (spD K dE)):aY P w K mg base CX0 11 f fd ["mends","hands"] (HH K TbL yN fh):=by
 show F.ok (k:=10) dH (λvs H Q E h=>?_) λcdv A outer s H vs Q E c h=>(tFK K dE,a9 (si PassesOwn.never rfl (gM (ah (i:=0) rfl cA)) (fO (i:=2) dH.nd rfl cA) (a9 (mR (i:=3) dH.nd rfl cA (dj b (c.mono (!2)) rfl (ak (hJ (ak (ah (i:=2) rfl cA) (ak (ah (i:=1) rfl cA) aH))) aH))) (aW (i5 (cm gN (ah (i:=3) rfl cA) j7 rfl) (aW (gg (hJ (ak (ah (i:=2) rfl cA) (ak (ah (i:=3) rfl cA) aH))))) cZ)))) (aW (gg j7)),?_)
 let(_,a,us,rows,bs,hv,o,rfl,_):=h;rfl;let e:=G7 (sp:=dE) (λt o R d g j=>(t,o,rfl,d,λv hv S=>hv.elim (λhv:fh t o v=>j S v hv hv.noF (by let(_,_,rfl,_):=hv;exactλz=>by cases z)) λ⟨e,hv⟩=>e▸g hv S)) h;let(_,a,us,rows,bs,hv,o,rfl,_):=h;show e
theorem fw{s o:O7}{v:av}(h:yN s o)(h':fh s o v):False:=by let(l,h):=h;let(A,B,_,p,_):=h';show dh p h.rch
theorem fh.one{s o:O7}{v v':av}(h:fh s o v)(h':fh s o v'):v=v':=uR.one (.inl h) (.inl h')
def LmE(s o:O7)(n:Nat)(t:O7)(v:av):Prop:=(∃k:Nat,(mnd s n)[k]?=Po t/\fh t o v/\∀(j:Nat) u,j<k->(mnd s n)[j]?=Po u->yN u o)/\∀m,m<n->∀u∈mnd s m,yN u o
theorem LmE.one{s o t t':O7}{n c:Nat}{v v':av}(h:LmE s o n t v)(h':LmE s o c t' v'):n=c/\t=t'/\v=v':=by let((k,h1,h2,g),i):=h;let((k',a,b,d),f):=h';rcases Od n c with e|rfl|e;show(fw (f n e t (LF h1)) h2).elim;rcases Od k k' with e|rfl|e;show(fw (d k t e h1) h2).elim;obtain rfl:=du (h1.symm.trans a);show(rfl,rfl,h2.one b);show(fw (g k' t' e a) b).elim;show(fw (i c e t' (LF a)) b).elim
def okP(t o:O7):Prop:=TbL t o/\yN t o
def gdP(t o:O7)(d:av):Prop:=∃lost,oQ t o lost/\d=.list (E9 (Dp t o lost))
theorem gdP.one{t o:O7}{d d':av}(h:gdP t o d)(h':gdP t o d'):d=d':=by let(l,h,rfl):=h;let(l',h',rfl):=h';rw[sD h.rch h'.rch]
theorem jd(P:List (Std×Int)):gP (E9 P)=Pq:=by
 induction P with
 |nil=>rfl
 |cons e P ih =>
  show((Pq&&((gP (li e.1.2))&&(Pq&&Pq)))&&gP (E9 P))=Pq;rw[ih,dq];rfl
theorem zw(t o:O7)(R:Sl->Pf->Prop)(h:okP t o)(q:∀l,gdP t o (.list l)->gP l=Pq->R (.ow l) [.un]):gG [.fr (.tuple [.list (t.map .int),.list (o.map .int)])] R :=
 (t,o,rfl,h.1,λ⟨_,_,c⟩=>h.2.elim λY hl=>(dh c hl.rch).elim,λlost hl=>q _ (lost,hl,rfl) (jd _))
def lss(s:O7):Nat->OQ
 | 0=>[]
 |n+1=>mnd s n
def LmI(s o:O7)(n:Nat)(env:Pf):Prop:=∃(a:Pg) (B C:Sl),env=[.fr (.tuple [.list (li s),.list (li o)]),.fr (.list (li o)),.fr (.int n),.tr a (.list (lr (lss s n))),B,C,.un]/\(∀m,m<n->∀u∈mnd s m,yN u o) /\
 ((∃b,B=.tr b (.list (lr (mnd s n)))/\C=.fr .none/\∀u∈mnd s n,yN u o) \/
  (B = .un/\∃c t d,∃k:Nat,C=.tr c (.tuple [.list (li t),d])/\(mnd s n)[k]?=Po t/\(∀(j:Nat) u,j<k->(mnd s n)[j]?=Po u->yN u o)/\fh t o d))
abbrev ce:Stmt:=top 21
theorem aE:ax ["town","hands","size","lesser","mends","found","papers"] ["town"] (af ce):={}
def FA:DSp:=λss R=>∃(s o:O7) (k:Nat) (tk:O7),ss=[.fr (.tuple [.list (li s),.list (li o)])]/\1<=-s/\s.length<=3/\(∀x∈s,1<=x/\x<=9)/\1<=-o/\o.length<=3/\(∀x∈o,0<=x)/\o.sum≠0/\k<=4/\tk∈mnd s k/\(∃v,fh tk o v) /\
 ∀(n:Nat) (t:O7) (p:av) (ps:Pe),LmE s o n t p->-ps=(lss s n).length->(∀(j:Nat) u,(lss s n)[j]?=Po u->gdP u o (ps.getD j .none))->∀S,R (.tr S (.tuple [.int n,.list (li t),p,.list (prD (lss s n) ps)])) [.un]
theorem lD{f:aG}{fd:kx}(F:Fun K "least_mend" "least_mend" ce f fd)(B:Bn mg)(b:Cal P w K mg base "mends_of" 3 (spD K (gH 2)))(a:Cal P w K mg base "first_kept" 11 (HH K TbL yN fh))(c:Cal P w K mg base "paper_of" 10 (spD K gG)):aY P w K mg base CX0 12 f fd ["town"] (spD K FA):=by
 show okD (k:=11) F aE (λss R h=>?_) (!2) (λcdv A outer s H E p=>(_,(aj (aT 1 aE.nd (qx (qv 0) ap))
   (aj (cQ (aC bM gQ (HK (jx (K:=K) rfl rfl) IV rfl B.sum p9 (aa (qv 1) ag)) ap) (al i4) aF)
   (aj (aT 2 aE.nd ap)
   (aj (aT 3 aE.nd (j6 ag))
   (aj (aT 4 aE.nd (aQ b (aa (qx (qv 0) ap) (aa (qf 2) ag))))
   (aj (aT 5 aE.nd (Bf 4 1 (K:=K) rfl a (p.mono (!2)) rfl (ak (ah (i:=4) rfl cA) (ak (ah (i:=1) rfl (eC cA)) aH))))
   (aj (v3 PassesOwn.never (cB (aC wL IW (qv 5) fN)) (aj (Ge (i:=2) aE.nd rfl cA ap)
   (aj (aT 3 aE.nd (lg 4))
   (aj (aT 4 aE.nd (aQ b (aa (qx (qv 0) ap) (aa (qf 2) ag))))
   (al (aT 5 aE.nd (Bf 4 1 (K:=K) rfl a (p.mono (!2)) rfl (ak (ah (i:=4) rfl cA) (ak (ah (i:=1) rfl (eC cA)) aH)))))))))
   (aj (vR 3 1 (i:=6) aE.nd rfl rfl cA rfl rfl rfl (oH (N:=_::_) (sc0:=af ce) rfl rfl (!3)) zw (λ_ _ _ _=>fO (!4) rfl cA) (λ_ _ _ _=>(hJ (ak (ah rfl cA) (ak (dj c (p.mono (!2)) rfl (ak (hJ (ak (ah rfl cA) (ak (ah (i:=1) rfl (by first|show px rfl|show eC cA|show eC (eC rfl))) aH))) aH)) aH)))))
   (al (aR (F8 2 5 6 (hJ (ak (ah (i:=2) rfl cA) (ak (gi (ff (K:=K) rfl) (ah (i:=5) rfl cA) ci (λ_ _=>rfl)) (ak (gi (ff (K:=K) rfl) (ah (i:=5) rfl cA) ci (λ_ _=>rfl)) (ak (ah (i:=6) rfl cA) aH)))))))))))))))),λss R h=>?_))
 let(s,o,k,tk,rfl,_):=h;rfl;let(s,o,k,tk,rfl,h1,h2,D,G,I,J,hz,X,hk,(Y,L),q):=h;let tbl:∀n,n<=4->∀t∈mnd s n,TbL t o:=λn hn t r=>lO h1 h2 D hn G I J r;let few:∀n,n<=4->(mnd s n).length<=125:=λn hn=>Ld (je s n) (HU h2 hn);lk;show yI (λv=>absurd v hz) (λ_=>?_);lk;show(Ln _,λx=>?_);lk;show(s,0,rfl,h1,!0,h2,!0,λS1=>?_);lk;show(mnd s 0,rfl,o,rfl,tbl 0 (!0),?_);show(λ(m:∀env,LmI s o 0 env->dNx _ (nV 1 R) env)=>(λl=>m _ (x,_,_,rfl,λm y=>!0,.inl (S1,rfl,rfl,l)),λk' t d e1 e2 e3 _ S'=>m _ (x,_,_,rfl,λm y=>!0,.inr (rfl,S',t,d,k',rfl,e1,e2,e3)))) λenv O=>?_;lk;show(λM env=>∃n,LmI s o n env/\n<=k/\M=k-n,(_,0,O,!0,rfl),?_);rintro M env ⟨n,⟨Z,B',C',rfl,j,hc⟩,Q,rfl⟩;rcases hc with⟨z,rfl,rfl,e⟩|⟨rfl,S5,t,d,k',rfl,r,l,S⟩
 .let T:n<k:=by
   rcases Nr n k with h|h;show h;let:n=k:=!0
   subst this;show(fw (e tk hk) L).elim
  let g:∀m,m<n+1->∀u∈mnd s m,yN u o:=λm y u C=>by
   rcases Nr m n with h|h;show j m h u C;let:m=n:=!0
   subst this;show e u C
  lk;rw[show((n:Int)+1)=((n+1:Nat):Int) from rfl];show(s,n+1,rfl,h1,!0,h2,!0,λU=>?_);lk;show(mnd s (n+1),rfl,o,rfl,tbl (n+1) (!0),λl=>(k-(n+1),!0,n+1,(z,_,_,rfl,g,.inl (U,rfl,rfl,l)),!0,rfl),
   λk' t d e1 e2 e3 _ S'=>(k-(n+1),!0,n+1,(z,_,_,rfl,g,.inr (rfl,S',t,d,k',rfl,e1,e2,e3)),!0,rfl))
 .let hL:(lss s n).length<=125/\∀t∈lss s n,okP t o:=by
   cases n with
   |zero=>show(Ln _,λt h=>by cases h)
   |succ n=>show(few n (!0),λt h=>(tbl n (!0) t h,j n (!0) t h))
  lk;show(lss s n,rfl,o,rfl,!0,hL.2,λS' ps V p2=>?_);lk;show(!2,λW=>q n t d ps ((k',r,S,l),j) V p2 W)
section
variable{s o:O7}
theorem Lk.end(hs:∀x∈s,1<=x)(few:∀x,IsS s o x->(bL s o x).length<64/\∀r∈bL s o x,-r<=6):∀(n:Nat) (Z:OI) (lost:Pc) (kvs:OX),lkM s o Z lost<n->Lk s o Z lost kvs->(∃v,fh s o v)\/∃lost,oQ s o lost:=by
 intro n
 induction n with
 |zero=>exactλY Y Y h=>absurd h (My _)
 |succ n ih =>
  intro Z lost kvs hn h;rcases Z with _|⟨⟨x,_|⟨r,w⟩⟩,Z⟩
  show .inr (lost,h.rch,h.isl,by simpa using h.few,h.down,by simpa using h.bg);show ih _ _ _ (Lg kg (I7 hn)) h.lose;cases e:dY kvs (kOf (cG s o x r)) with
  |none =>
   let a:=h.push hs (by rw[e];rfl);show ih _ _ _ (Lg (ke a.few (few _ (a.is _ K3)).1) (I7 hn)) a
  |some v =>
   rcases h.val _ _ e with⟨_,hl⟩|⟨k,_,hk⟩
   show ih _ _ _ (Lg kb (I7 hn)) (h.skip hl);let c:=h.few;show .inl (_,_,_,rfl,(x,r,w,Z,lost,k,h.rch,hk,(K6.mp h.nd).1,rfl,rfl),by simp at c ⊢;lia,λq b=>?_);rw[Nt]at b;let(p,a,rfl):=Lo.mp (MD.mp b);let(pre,h2,_):=h.ful p a;let d:p.2≠[]:=(K9.mp a).elim (λe=>e▸MN _ _) (h.hd p);show(few _ (h.is p a)).2 _ ?_;rw[h2];show K0 _ ?_;let(y,u):=p;cases u with
   |nil=>show absurd rfl d
   |cons q t=>show K3
theorem TbL.or(t:TbL s o):(∃v,fh s o v)\/∃lost,oQ s o lost:=by let(t1,t2,a,d,b,_):=t;show Lk.end a (λx hx=>jp t1 (b.imp id λh=>h _ (bQ hx.1))) _ _ _ _ (LR _) (Lk.init (t2,rfl,λc hc=>(a _ (bQ hc),NS _)))
theorem D6(t:TbL s o)(G:Pc)(h0:(0,s)∈G)(b:∀x∈G,∃r∈bL s o x,cG s o x r∈G):∃v,fh s o v:=by
 show t.or.resolve_right λa=>?_;let(lost,h):=a;let key:∀n (j:Nat) x,j<n->lost[j]?=Po x->x ∉ G:=λn=>by
  induction n with
  |zero=>intro j x hj;lia
  |succ n ih =>
   intro j x hj hx c;let(r,d,hn):=b x c;let(i,hi,e):=LC (h.down j x hx r d);rw[MC]at hi;rw[N6]at e;show ih i _ (!0) (Lc.mpr (!0,e)) hn
 let(i,hi,e):=LC h.bg;show key (i+1) i _ (!0) (Lc.mpr (hi,e)) h0
def uS(s o:O7)(v:av):Prop:=∃(n:Nat) (t:O7) (p:av) (ps:Pe),v=.tuple [.int n,.list (li t),p,.list (prD (lss s n) ps)]/\LmE s o n t p/\ps.length=(lss s n).length/\∀(j:Nat) u,(lss s n)[j]?=Po u->gdP u o (ps.getD j .none)
theorem uS.one{v v':av}(h:uS s o v)(h':uS s o v'):v=v':=by
 cbv;let(n,t,p,ps,rfl,h1,h2,g):=h;let(k,t',l,c,rfl,d,j,f):=h';let(rfl,rfl,rfl):=h1.one d
 w_up;let:ps=c:=Mh (!0) λi a b=>by
  let e:=(g i _ (K8 (!0))).one (f i _ (K8 (!0)));simpa[Lb,a,b] using e
 rw[this]
end
noncomputable def Ea(k:O7->Int)(a:OO)(r:O7):OO:=match a with
 |none=>Po r
 |some b=>if k r<k b then Po r else Po b
def Kf(s o:O7)(x:Std):OO :=
 ((de (-s) (o.getD x.1 0) x.2).filter λr=>(de (-s) (o.getD x.1 0) x.2).all λa=>!(r.all λc=>a.contains c) ||a==r).foldl (Ea λr=>x.2.getD (r.headD 0).toNat 0) Pp
def Ay(s o:O7):Nat->Std->Pc->Bool
 | 0,_,_=>Pr
 |n+1,x,P=>match Kf s o x with
  |none=>Pr
  |some r=>(x::P).contains (cG s o x r) ||Ay s o n (cG s o x r) (x::P)
noncomputable def eG:OQ:=[[1],[2],[3],[1,1],[1,2],[1,3],[2,1],[2,2],[2,3],[3,1],[3,2],[3,3]]
def fP:OQ:=[[1],[2],[2,0],[0,2],[1,1],[1,0]]
def IU(s o:O7):Bool:=(dm 5).any λk=>(mnd s k).any λt=>Ay t o 60 (0,t) []
theorem tp{k:O7->Int}{r:O7}:∀(l:OQ) (a:OO),l.foldl (Ea k) a=Po r->r∈l\/a=Po r
 |[],_,h=>.inr h
 |q :: l,a,h=>by
  rcases tp l _ h with h|h;show .inl (K5 _ h);cases a with
  |none=>show .inl (by cases h;show K3)
  |some b =>
   simp only[Ea]at h;by_cases c:k q<k b;rw[OG c]at h;show .inl (by cases h;show K3);rw[OH c]at h;show .inr h
theorem nR{s o:O7}{x:Std}{r:O7}(h:Kf s o x=Po r):r∈bL s o x:=by
 let e:=(tp _ Pp h).resolve_right λz=>nomatch z;let(h1,h2):=Ly.mp e;let(a,b,f):=(lZ s o x).2.1 r h1;let d:=LN.mp h2 a ((lZ s o x).1 a b);let g:(r.all λc=>a.contains c)=Pq:=LN.mpr λc hc=>NA.mpr (f c hc);rw[g]at d;let:a=r:=by simpa using d
 show this▸b
set_option tactic.hygienic true in
theorem tm{s o:O7}:∀(n:Nat) (x:Std) (P:Pc),Ay s o n x P=Pq->(∀y∈P,∃r∈bL s o y,cG s o y r∈x::P)->∃G:Pc,(∀y∈x::P,y∈G)/\∀y∈G,∃r∈bL s o y,cG s o y r∈G
 | 0,_,_,h,_=>nomatch h
 |n + 1,x,P,h,b=>by
  unfold Ay at h;split at h;cases h;rename_i r c;rcases v6.mp h with h|h;show(x::P,λY h=>h,λy a=>?_);rcases K9.mp a with rfl|a;show(r,nR c,NA.mp h);show b y a;let(G,h1,h2):=tm n _ (x::P) h λy a=>by
   rcases K9.mp a with rfl|a;show(r,nR c,K3);let(q,d,e):=b y a;show(q,d,K5 _ e)
  show(G,λy a=>h1 y (K5 _ a),h2)
theorem Ft:∀s∈eG,∀o∈fP,(-s=2->o≠[1,0])->IU s o=Pq:=!3
theorem ng{s o:O7}(hs:s∈eG)(ho:o∈fP)(hn:-s=2->o≠[1,0]):∃k,k<=4/\∃t∈mnd s k,∃v,fh t o v:=by let(k,hk,h):=MP.mp (Ft s hs o ho hn);let(t,c,h):=MP.mp h;let hk:=LP.mp hk;show(k,!0,t,c,?_);let a:=(by decide:∀s∈eG,1<=-s/\s.length<=3/\∀x∈s,1<=x/\x<=9) s hs;let b:=(by decide:∀o∈fP,1<=-o/\o.length<=3/\∀x∈o,0<=x) o ho;let(G,h1,h2):=tm 60 _ [] h λY z=>nomatch z;show D6 (lO a.1 a.2.1 a.2.2 (!0) b.1 b.2.1 b.2.2 c) G (h1 _ K3) h2
abbrev k7:Stmt:=top 23
theorem vH:ax ["town"] ["town"] (af k7):={}
inductive dF:DSp
 |mk {ss R} (s o:O7):ss=[.fr (.tuple [.list (li s),.list (li o)])]->s.length<=1000000->o.length<=1000000->(∀S,R (.tr S (.tuple [.list (li s),.list (li o)])) [.un])->dF ss R
theorem wP{f:aG}{fd:kx}(F:Fun K "copied" "copied" k7 f fd)(B:Bn mg):aY P w K mg base CX0 1 f fd ["town"] (spD K dF):=by show okD (k:=0) F vH (λss R h=>?_) (!2) (λcdv A outer s H E a=>(_,(al (aR (j4 (aa (fj (K:=K) rfl rfl B.list (aa (qx (qv 0) ap) ag)) (aa (fj (K:=K) rfl rfl B.list (aa (qx (qv 0) ap) ag)) ag))))),λss R h=>?_));let(s,o,rfl,_):=h;rfl;let(s,o,rfl,h1,h2,q):=h;lk;show(!2,q)
theorem om{tv:V}{H:Hp}{Q:VK}{N:aG->Prop}{s o:O7}(dn:DN K N H tv (tnD s o))(live:∀a,N a->H a≠Pp)(h1:-s<=1000000)(h2:-o<=1000000)(h:∀p H2 S2,aA H H2->OT K N H2 p (tnD s o) S2->S2.Nodup->(∀a∈S2,H a=Pp)->Q p H2):spD K dF [tv] H Q E0:=by
 show(N,[.fr (tnD s o)],λr Y=>∃S,r=.tr S (tnD s o),rfl,kG (ds:=[_]) (.cons dn .nil) live,.mk s o rfl h1 h2 λS=>(S,rfl),λr c p H2 e Y d=>?_)
 cbv;let(S,rfl):=e;let(f,ep,ot,h0):=d.tr (Po p) S _ K3;cases ep
 w_up;let nd:=d.nd;rw[show tmp ((p,Sl.tr S (tnD s o))::[tv].zip c)=(Po p,Sl.tr S (tnD s o))::tmp ([tv].zip c) from rfl,ad,am]at nd;show h p H2 S (d.keep.mono (M:=N0) λa z=>by
  let z:a∈oas (tmp ([tv].zip ([tnD s o].map Sl.fr))):=z;rw[h8]at z;cases z).none (ot.to λb Y Y z=>.inl z) (K6.mp nd).1 h0
abbrev vJ:Stmt:=db (top 24) 0
theorem CA:ax ["self"] ["self"] (af vJ):={}
abbrev y8:Stmt:=db (top 24) 1
theorem Ba:ax ["self","name","town"] ["self","name","town"] (af y8):={}
abbrev iJ:Stmt:=db (top 24) 2
theorem mN:ax ["self","name","town"] ["self","name","town"] (af iJ):={}
abbrev rT:Stmt:=db (top 24) 3
theorem vI:ax ["self","name"] ["self","name"] (af rT):={}
abbrev f9:Stmt:=db (top 24) 9
theorem jY:ax ["self","name"] ["self","name"] (af f9):={}
section
variable{f C:aG}{fd:kx}
theorem Dv(F:Fun K "__init__" "Desk.__init__" vJ f fd)(c:Cls K C)(na:cP K C "towns"):aY P w K mg base CX0 1 f fd ["self"] (Ct C):=by
 show F.ok (k:=0) CA (λvs H Q E h=>?_) λcdv A outer s H vs Q E e h=>(J2 K (d5 0) yR "towns",aW (Gi (ah rfl cA) pK rfl),?_)
 let(x,dx,rfl,_):=h;rfl;let(x,dx,rfl,hx,d):=h;intro b a;show(.ref x,rfl,x,C,dx,[],rfl,by rw[ao (ay hx a)];show hx,c,na,!2,d b a)
theorem IT(F:Fun K "look_up" "Desk.look_up" f9 f fd)(c:Cls K C)(na:cP K C "towns"):aY P w K mg base CX0 1 f fd ["self","name"] (yY C):=by
 show F.ok (k:=0) jY (λvs H Q E h=>?_) λcdv A outer s H vs Q E g h=>(_,a9 (i5 (cm wK (ah (i:=1) rfl cA) (i9 (ah (i:=0) rfl cA) rfl) (by with_unfolding_all rfl)) (aW ln) cZ) (aW (gg (gi GU (i9 (ah (i:=0) rfl cA) rfl) (ah (i:=1) rfl cA) (λY Y=>rfl)))),?_)
 let(x,dx,b,es,nm,v,rfl,_):=h;rfl;let(x,dx,b,es,nm,v,rfl,hx,d,a,e):=h;show(.str nm,rfl,.ref x,rfl,x,C,dx,_,.ref b,rfl,hx,c,na,rfl,nm,b,es,rfl,rfl,d,_,rfl,?_);rw[a];show if Pr=Pq then _ else _
 rw[OH (!2)];show(.ref x,rfl,x,C,dx,_,.ref b,rfl,hx,c,na,rfl,.str nm,rfl,nm,b,es,v,rfl,rfl,d,a,e)
theorem Du(F:Fun K "put" "Desk.put" y8 f fd)(c:Cls K C)(na:cP K C "towns")(a:Cal P w K mg base "copied" 1 (spD K dF)):aY P w K mg base CX0 2 f fd ["self","name","town"] (rJ K C 0):=by
 show F.ok (k:=1) Ba (λvs H Q E h=>?_) λcdv A outer s H vs Q E j h=>(_,a9 (i5 (cm Bp (ah (i:=1) rfl cA) (i9 (ah (i:=0) rfl cA) rfl) (by with_unfolding_all rfl)) (aW ln) cZ)
  (aW (mS (dj a (j.mono (!2)) rfl (ak (ah (i:=2) rfl cA) aH)) (mT (i9 (ah (i:=0) rfl cA) rfl) (ah (i:=1) rfl cA) Cy))),?_)
 let(x,dx,b,es,nm,tv,rfl,_):=h;rfl;let(x,dx,b,es,nm,tv,rfl,hx,g,_,h):=h;rcases h with⟨z,_⟩|⟨⟨_,d⟩|⟨z,_⟩,N,s,o,dn,live,h1,h2,hz,l⟩
 cases z;show(.str nm,rfl,.ref x,rfl,x,C,dx,_,.ref b,rfl,hx,c,na,rfl,nm,b,es,rfl,rfl,g,_,rfl,?_);rw[d];show if Pr=Pq then _ else _
 rw[OH (!2)];show(tv,rfl,om dn live h1 h2 λp H2 S2 e ot nd h0=>(.ref x,rfl,x,C,dx,_,.ref b,rfl,e _ _ hx,c,na,rfl,.str nm,rfl,nm,b,es,rfl,rfl,e _ _ g,hz,l p H2 S2 e ot nd h0));cases z
theorem uz(F:Fun K "change" "Desk.change" iJ f fd)(c:Cls K C)(na:cP K C "towns")(d:Cal P w K mg base "copied" 1 (spD K dF))(a:mj P w K mg base C "look_up" 1 (yY C)):aY P w K mg base CX0 2 f fd ["self","name","town"] (rJ K C 1):=by
 show F.ok (k:=1) mN (λvs H Q E h=>?_) λcdv A outer s H vs Q E j h=>(_,a9 (bO (eU (ah (i:=0) rfl cA) a.1 a.2.choose_spec.choose_spec.choose_spec.2.2 a.2.choose_spec.choose_spec.choose_spec.1 (j.mono (!2)) a.2.choose_spec.choose_spec.choose_spec.2.1 .nil ja (ak (ah (i:=1) rfl cA) aH)))
  (aW (mS (dj d (j.mono (!2)) rfl (ak (ah (i:=2) rfl cA) aH)) (mT (i9 (ah (i:=0) rfl cA) rfl) (ah (i:=1) rfl cA) Cy))),?_)
 let(x,dx,b,es,nm,tv,rfl,_):=h;rfl;let(x,dx,b,es,nm,tv,rfl,hx,l,_,h):=h;rcases h with⟨z,_⟩|⟨⟨z,_⟩|⟨_,e⟩,N,s,o,dn,live,h1,h2,hz,m⟩
 cases z;cases z;let(v,hv):=Me.mp e;show(.ref x,rfl,x,dx,_,rfl,hx,rfl,.str nm,rfl,x,dx,b,es,nm,v,rfl,hx,l,hv,?_);show(tv,rfl,om dn live h1 h2 λp H2 S2 g ot nd h0=>(.ref x,rfl,x,C,dx,_,.ref b,rfl,g _ _ hx,c,na,rfl,.str nm,rfl,nm,b,es,rfl,rfl,g _ _ l,hz,m p H2 S2 g ot nd h0))
theorem zP(F:Fun K "away" "Desk.away" rT f fd)(c:Cls K C)(na:cP K C "towns")(a:mj P w K mg base C "look_up" 1 (yY C)):aY P w K mg base CX0 2 f fd ["self","name"] (vz K C):=by
 show F.ok (k:=1) vI (λvs H Q E h=>?_) λcdv A outer s H vs Q E g h=>(_,a9 (bO (eU (ah (i:=0) rfl cA) a.1 a.2.choose_spec.choose_spec.choose_spec.2.2 a.2.choose_spec.choose_spec.choose_spec.1 (g.mono (!2)) a.2.choose_spec.choose_spec.choose_spec.2.1 .nil ja (ak (ah (i:=1) rfl cA) aH)))
  (aW (bO (zu M1 sj Ng wW (i9 (ah (i:=0) rfl cA) rfl) (ak (ah (i:=1) rfl cA) aH)))),?_)
 let(x,dx,b,es,nm,rfl,_):=h;rfl;let(x,dx,b,es,nm,rfl,hx,d,h):=h;rcases h with⟨_,e,j⟩|⟨⟨z,_⟩|⟨z,_⟩,_⟩
 let(v,hv):=Me.mp e;show(.ref x,rfl,x,dx,_,rfl,hx,rfl,.str nm,rfl,x,dx,b,es,nm,v,rfl,hx,d,hv,?_);show(.ref x,rfl,x,C,dx,_,.ref b,rfl,hx,c,na,rfl,.inr (.inr (.inl (rfl,.inl (_,d)))),.str nm,rfl,nm,b,es,v,rfl,rfl,d,hv,j);cases z;cases z
end
structure Kl(K:cp)(mg:ck->O3)(cT cK cH cD cX:aG):Prop where
 T : mg "NoTown" = some (.ref cT)
 K' : mg "Taken" = some (.ref cK)
 H : mg "NoHands" = some (.ref cH)
 D : mg "NoDay" = some (.ref cD)
 X : mg "NoText" = some (.ref cX)
 vE : mg "ValueError" = none
structure qR(K:cp)(cT cK cH cD cX:aG)(d:av)(bT bK bH:Bool):Prop where
 T : IsC K (.ref cT) d bT
 K' : IsC K (.ref cK) d bK
 H : IsC K (.ref cH) d bH
 D : IsC K (.ref cD) d false
 X : IsC K (.ref cX) d false
 v : d=.none\/ku d=false/\IsC K (.ty "ValueError") d true
noncomputable def jN(bT bK bH:Bool):Pe:=(if bT=Pq then [.str "no town"] else [])++((if bK=Pq then [.str "taken"] else [])++(if bH=Pq then [.str "hands"] else []))
abbrev fL:Stmt:=top 29
theorem gX:ax ["_law_error","_law_found"] ["_law_error"] (af fL):={}
inductive mK (K:cp) (cT cK cH cD cX:aG):DSp
 |mk {ss R} (d:av) (bT bK bH:Bool):ss=[.fr d]->qR K cT cK cH cD cX d bT bK bH->R (.ow (jN bT bK bH)) [.un]->mK K cT cK cH cD cX ss R
section
variable{cT cK cH cD cX:aG}
theorem mW{f:aG}{fd:kx}(F:Fun K "_law_kind" "_law_kind" fL f fd)(B:Bn mg)(m:Kl K mg cT cK cH cD cX):aY P w K mg base CX0 2 f fd ["_law_error"] (spD K (mK K cT cK cH cD cX)):=by
 let b:=m.T;let g:=m.K';let a:=m.H;let i:=m.D;let c:=m.X;let j:=m.vE;show okD (k:=1) F gX (λss R h=>?_) (!2) (λcdv A outer s H E p=>(_,(eQ (aT 1 gX.nd (dR ag))
   (iY (cQ (cw (wg rfl rfl B.isinstance rfl b (qf 0))) (al (cW (jK 1 (K:=K) rfl rfl gL))) aF)
   (iY (cQ (cw (wg rfl rfl B.isinstance rfl g (qf 0))) (al (cW (jK 1 (K:=K) rfl rfl gL))) aF)
   (iY (cQ (cw (wg rfl rfl B.isinstance rfl a (qf 0))) (al (cW (jK 1 (K:=K) rfl rfl gL))) aF)
   (iY (cQ (PW.pt (FO (cw (wg rfl rfl B.isinstance rfl i (qf 0))) (Bc (cw (wg rfl rfl B.isinstance rfl c (qf 0)))))) (al (cW (jK 1 (K:=K) rfl rfl gL))) aF)
   (iY (cQ (PW.pt (gY (aC gN z6 (qv 0) fN) (eO (fG (cw (F6 (T := "ValueError") rfl rfl B.isinstance rfl j (by rfl) (qf 0))))))) (al (cW (jK 1 (K:=K) rfl rfl gL))) aF)
   (al (aR (qv 1))))))))),λss R h=>?_))
 let(d,bT,bK,bH,rfl,_):=h;rfl;let(d,bT,bK,bH,rfl,k,q):=h;lk;show(Ln _,?_);show(λenv=>env=[.fr d,.ow (if bT=Pq then [.str "no town"] else [])],?_,λenv l=>?_)
 .lk;show(bT,k.T,?_);cases bT
  .lk
  .lk;show Lg (!2) ar
 subst l;generalize n:(if bT=Pq then [fx "no town"] else [])=A;let r:-A<=1:=by rw[<-n];cases bT <;> decide
 show(λenv=>env=[.fr d,.ow (A++if bK=Pq then [.str "taken"] else [])],?_,λenv l=>?_)
 .lk;show(bK,k.K',?_);cases bK
  .lk
  .lk;show Lg (!0) ar
 subst l;let e3:jN bT bK bH=(A++if bK=Pq then [.str "taken"] else [])++if bH=Pq then [.str "hands"] else []:=by rw[jN,n,LQ]
 rw[e3]at q;generalize o:(A++if bK=Pq then [fx "taken"] else [])=C at *;let t:-C<=2:=by rw[<-o,LB];cases bK <;> simp <;> lia
 show(λenv=>env=[.fr d,.ow (C++if bH=Pq then [.str "hands"] else [])],?_,λenv l=>?_)
 .lk;show(bH,k.H,?_);cases bH
  .lk
  .lk;show Lg (!0) ar
 subst l;generalize (C++if bH=Pq then [fx "hands"] else [])=G at *;show(λenv=>env=[.fr d,.ow G],?_,λenv l=>?_)
 .lk;show(Pr,k.D,?_);lk;show(Pr,k.X,?_);lk
 subst l;show(λenv=>env=[.fr d,.ow G],?_,λenv l=>?_)
 .rcases k.v with rfl|⟨e,z⟩
  .lk
  .lk;rw[e];lk;show(Pq,z,?_);lk
 subst l;lk;show q
end
noncomputable def plD:Nat->av->Bool
 |_,.int _=>Pq
 |n+1,.list ds=>decide (-ds<=100000)&&ds.all (plD n)
 |n+1,.tuple ds=>decide (-ds<=100000)&&ds.all (plD n)
 |_,_=>Pr
theorem nZ{t u:DS}{DD:gW}{env:Pf}(h:t { DD with nx:=dI (λenv'=>env'=env) ⟨⟩ } env)(k:u DD env):Kg t u DD env:=(λenv'=>env'=env,h,λY e=>e▸k)
abbrev cg:Stmt:=top 27
theorem f8:ax ["_law_found","_law_due_here","_law_k"] ["_law_found","_law_due_here"] (af cg):={}
def iT(n:Nat):DSp:=λss R=>∃d,ss=[.fr d,.fr d]/\plD n d=Pq/\R (.fr (.bool Pq)) [.un,.un]
theorem gw{f:aG}{fd:kx}(F:Fun K "_law_alike" "_law_alike" cg f fd):bE K fd ["_law_found","_law_due_here"] []:=F.binds (ps:=["_law_found","_law_due_here"]) λY Y Y Y Y Y us hl=>us2 (Q:=λus=>Qh _ (us,[])=pure (p7 _ us)) hl λY Y=>rfl
theorem kH{f:aG}{fd:kx}(F:Fun K "_law_alike" "_law_alike" cg f fd)(B:Bn mg)(n:Nat)(sp:DSp)(b:Cal P w K mg base "_law_alike" (n+1) (spD K sp))(g:∀m,n=m+1->sp=iT m):aY P w K mg base CX0 (n+2) f fd ["_law_found","_law_due_here"] (spD K (iT n)):=by
 show okD (k:=n+1) F f8 (λss R h=>?_) (!2) (λcdv A outer s H E l=>(_,(eQ (cQ (cw (lh (K:=K) rfl xj rfl B.isinstance rfl B.str MR (qv 1))) (al (aR (zf (lh (K:=K) rfl xj rfl B.isinstance rfl B.str MR (qv 0)) (CY (wm (Bz (K:=K) rfl l.units) mEq (qv 0) (qv 1)))))) aF)
   (eQ (cQ (cw (lh (K:=K) rfl xk rfl B.isinstance rfl B.int MS (qv 1))) (al (aR (zf (lh (K:=K) rfl xk rfl B.isinstance rfl B.int MS (qv 0)) (zf (II (lh (K:=K) rfl Ae rfl B.isinstance rfl B.bool PyProof.Rows.boot_bool (qv 0))) (CY (wm (Bz (K:=K) rfl l.units) mEq (qv 0) (qv 1))))))) aF)
   (iY (cQ (cw (lh (K:=K) rfl dW rfl B.isinstance rfl B.list ls (qv 1))) (al (cQ (fG (cw (lh (K:=K) rfl dW rfl B.isinstance rfl B.list ls (qv 0)))) (al (aR sg)) aF)) (al (cQ (fG (cw (lh (K:=K) rfl fb rfl B.isinstance rfl B.tuple pE (qv 0)))) (al (aR sg)) aF)))
   (eQ (cQ (aC IP Kw (uo B.len (qv 0)) (uo B.len (qv 1))) (al (aR sg)) aF)
   (eQ (jJ PassesOwn.never rfl (eR rfl B.range (aa (uo B.len (qv 1)) ag)) (a8 2 f8.nd) (al (cQ (fG (cw (aQ b (aa (qx (qv 0) (qv 2)) (aa (qx (qv 1) (qv 2)) ag)) (l.mono (Lf _))))) (al (aR sg)) aF)))
   (al (aR sg))))))),λss R h=>?_))
 let(d,rfl,_):=h;rfl;let(d,rfl,c,q):=h;obtain⟨i,rfl⟩|⟨m,ds,rfl,hz,o,p⟩:(∃i,d=.int i)\/∃m ds,n=m+1/\ds.length<=100000/\ds.all (plD m)=Pq/\(d=.list ds\/d=.tuple ds):=by
  cases d with
  |int i=>show .inl (i,rfl)
  |list ds =>
   cases n with
   |zero=>cases c
   |succ m=>let(h1,h2):=LK.mp (show(decide (-ds<=100000)&&ds.all (plD m))=Pq from c);show .inr (m,ds,rfl,of_decide_eq_true h1,h2,.inl rfl)
  |tuple ds =>
   cases n with
   |zero=>cases c
   |succ m=>let(h1,h2):=LK.mp (show(decide (-ds<=100000)&&ds.all (plD m))=Pq from c);show .inr (m,ds,rfl,of_decide_eq_true h1,h2,.inr rfl)
  |_=>cases n <;> cases c
 .lk;rw[decide_true];show q
 obtain rfl:=g m rfl;let r:=ar;rcases p with rfl|rfl
 .lk;show nZ ?_ ?_
  .lk
  lk;rw[OH (λz=>z trivial)];show(!0,!0,bR (λi env=>∃a,env=[.fr (.list ds),.fr (.list ds),a]) (_,rfl) ?_ ?_)
  .rintro i env hi ⟨a,rfl⟩;rw[aI]at hi;rw[bf];let hi:i< -ds:=!0
   lk;let e:=bx (xs:=ds) (j:=i) (K8 hi);show(_,e,_,e,_,rfl,LN.mp o _ (cE hi),Pq,rfl,_,rfl)
  .rintro env ⟨a,rfl⟩;lk;show q
 .lk;show nZ ?_ ?_
  .lk
  lk;rw[OH (λz=>z trivial)];show(!0,!0,bR (λi env=>∃a,env=[.fr (.tuple ds),.fr (.tuple ds),a]) (_,rfl) ?_ ?_)
  .rintro i env hi ⟨a,rfl⟩;rw[aI]at hi;rw[bf];let hi:i< -ds:=!0
   lk;let e:=bx (xs:=ds) (j:=i) (K8 hi);show(_,e,_,e,_,rfl,LN.mp o _ (cE hi),Pq,rfl,_,rfl)
  .rintro env ⟨a,rfl⟩;lk;show q
theorem gm{f:aG}{fd:kx}(F:Fun K "_law_alike" "_law_alike" cg f fd)(B:Bn mg)(m:mg "_law_alike" = Po (.ref f)):∀n,aY P w K mg base CX0 (n+2) f fd ["_law_found","_law_due_here"] (spD K (iT n))
 | 0=>kH F B 0 _ ((JQ F m (gw F)).mono (Ln _)) λY z=>(nomatch z)
 |n+1=>kH F B (n+1) (iT n) (HZ F m (gw F) (gm F B m n)) λY z=>by cases z;rfl
structure OkN(x:ck):Prop where
 len:x.length<=100
 asc:∀c∈cpl x,c<128
structure Nms(ns:Pi):Prop where
 len:ns.length=5
 ok : ∀x∈ns,OkN x
theorem Kz(j:Nat)(h:j<26):(dD "abcdefghijklmnopqrstuvwxyz").cps.toList[j]?=Po (97+j):=(by decide:∀j<26,(dD "abcdefghijklmnopqrstuvwxyz").cps.toList[j]?=Po (97+j)) j h
theorem GJ(i:Int):atI (dD "abcdefghijklmnopqrstuvwxyz").cps.toList (i % 26)=Po (97+(i % 26).toNat):=by let h0:=LV i (show(26:Int)≠0 by decide);let h1:=LO i (show(0:Int)<26 by decide);let(j,hj):=Int.eq_ofNat_of_zero_le h0;rw[hj];show bx (Kz j (!0))
abbrev ltr(i:Int):ck:=⟨#[97+(i % 26).toNat]⟩
theorem xb(i:Int):97+(i % 26).toNat<128:=by let h1:=LO i (show(0:Int)<26 by decide);lia
theorem sR:∀ys:O7,(p8 (dD "") (ys.map ltr)).length<=-ys/\∀c∈cpl (p8 (dD "") (ys.map ltr)),c<128
 |[]=>(Ln _,λc h=>by cases h)
 |[i]=>(Lf _,λc h=>by rcases K7.mp h with rfl;show xb i)
 |i :: j::r=>by
  let(h1,h2):=sR (j::r);let e:p8 (dD "") ((i::j::r).map ltr)=ltr i++dD "" ++ p8 (dD "") ((j::r).map ltr):=rfl;rw[e];show(?_,λc h=>?_);rw[oL,oL];show 1+0+_<=_;simp only[Lu]at h1 ⊢;lia;let h:c∈cpl (ltr i)++cpl (dD "")++cpl (p8 (dD "") ((j::r).map ltr)):=by
   let q:cpl (ltr i++dD "" ++ p8 (dD "") ((j::r).map ltr))=cpl (ltr i)++cpl (dD "")++cpl (p8 (dD "") ((j::r).map ltr))  := by rw[qG,qG]
   rwa [q]at h
  rcases K2.mp h with h|h;rcases K2.mp h with h|h;rcases K7.mp h with rfl;show xb i;cases h;show h2 c h
theorem GG(n:Int)(b:ck)(hl:-b<=10)(a:∀c∈cpl b,c<128):Nms ((dm 5).map λk:Nat=>ltr ((k:Int)*5+n)++b):=by
 let d:∀i,(ltr i++b).cps.toList=(97+(i % 26).toNat)::cpl b:=λi=>by show cpl (ltr i++b)=_;rw[qG];rfl
 show(!1,λx hx=>?_);let(k,_,rfl):=Lo.mp hx;show(by rw[oL];show 1+_<=100;lia,λc hc=>?_);let hc:c∈(ltr ((k:Int)*5+n)++b).cps.toList:=hc;rw[d]at hc;rcases K9.mp hc with rfl|hc;show xb _;show a c hc
abbrev cf:Stmt:=top 28
theorem dJ:ax ["_law_draw","_law_letters","_law_base"] ["_law_draw"] (af cf):={}
inductive o6:DSp
 |mk {ss R} (n:Int):ss=[.fr (.int n)]->0<=n->n<2147483587->(∀ns,Nms ns->R (.ow (ns.map .str)) [.un])->o6 ss R
theorem lF{f:aG}{fd:kx}(F:Fun K "_law_names" "_law_names" cf f fd)(B:Bn mg):aY P w K mg base CX0 2 f fd ["_law_draw"] (spD K o6):=by
 show okD (k:=1) F dJ (λss R h=>?_) (!2) (λcdv A outer s H E l=>(_,(eQ (aT 1 dJ.nd gL)
   (eQ (aT 2 dJ.nd (F3 (K:=K) rfl gL (sf (NN:=_::_) (sc0:=af cf) (N':=["_law_j","_law_draw","_law_letters"]) (ix:=[Pp,Po 0,Po 1]) (eR rfl B.range (aa (bJ bu mIC (qv 0) ap) ag)) (λY Y Y Y=>(a8 0 (!4))) (λY Y Y Y=>(HJ BA Kb (qv 2) (bJ bu mIC (bJ bY mI (bJ dU mIC (qv 1) ap) (bJ hZ mIC (qv 0) (qv 0))) ap))))))
   (al (aR (sf (NN:=_::_) (sc0:=af cf) (N':=["_law_k","_law_draw","_law_letters","_law_base"]) (ix:=[Pp,Po 0,Po 1,Po 2]) (eR rfl B.range (aa ap ag)) (λY Y Y Y=>(a8 0 (!4))) (λY Y Y Y=>(bJ uv IX (HJ BA Kb (qv 2) (bJ bu mIC (bJ bY mI (bJ hZ mIC (qv 0) ap) (qv 1)) ap)) (qv 3)))))))),λss R h=>?_))
 let(n,rfl,_):=h;rfl;let(n,rfl,h0,hn,q):=h;lk;let d:=LO n (show(0:Int)<11 by decide);let g:=LV n (show(11:Int)≠0 by decide);show(!2,!0,!0,iu (λj=>.str (ltr (n / 150+(j:Int)*(j:Int)))) (by rw[aI];lia) (λj hj Q a=>?_) ?_)
 .rw[aI]at hj;rw[bf];lk;show((!2,!2),kE (by omega +splitDisjunctions) (by omega +splitDisjunctions),!2,!2,_,GJ _,a)
 rw[aI];let e:(dm (n % 11).toNat).map (λj:Nat=>fx (ltr (n / 150+(j:Int)*(j:Int))))=(((dm (n % 11).toNat).map λj:Nat=>n / 150+(j:Int)*(j:Int)).map ltr).map .str:=by rw[LA,LA];rfl
 rw[e];let hl:((dm (n % 11).toNat).map λj:Nat=>n / 150+(j:Int)*(j:Int)).length<=10:=by rw[K4,LH];lia
 generalize (dm (n % 11).toNat).map (λj:Nat=>n / 150+(j:Int)*(j:Int))=ys at *;let(i,j2):=sR ys;lk;show(ys.map ltr,rfl,?_,?_);rw[LA];let:(ys.map ((λx:ck=>-x) ∘ ltr)).sum=-ys:=by
  clear hl i j2 e
  induction ys with
  |nil=>rfl
  |cons y ys ih=>rw[Le,rj,ih,Lu];show 1+_=_;lia
 rw[this];show -ys+_*0<=_;lia;generalize p8 (dD "") (ys.map ltr)=b at *;let c:(fF 0 (Int.toNat 5)).length=5:=aI 0 5;show(!2,!2,iu (λk=>.str (ltr ((k:Int)*5+n)++b)) (by rw[c];decide) (λk hk Q a=>?_) ?_)
 .rw[c]at hk;rw[bf];lk;show(kE (by omega +splitDisjunctions) (by omega +splitDisjunctions),!2,!2,_,GJ _,?_);show(by show 1+_<=_;lia,a)
 rw[c];let e5:(dm 5).map (λk:Nat=>fx (ltr ((k:Int)*5+n)++b))=((dm 5).map λk:Nat=>ltr ((k:Int)*5+n)++b).map .str:=by rw[LA];rfl
 rw[e5];lk;show q _ (GG n b (!0) j2)
def plN(n:Nat)(d:av):Bool:=ku d ||plD n d
theorem lM:∀{ds:Pe},(∀d∈ds,noF d=Pq)->iC ds=Pq
 |[],_=>rfl
 |d::ds,h=>by
  show(noF d&&iC ds)=Pq;rw[h d K3,lM λx hx=>h x (K5 _ hx)];rfl
theorem Da(n:Nat):∀d:av,plD n d=Pq->noF d=Pq:=by
 induction n with
 |zero =>
  intro d h;cases d <;> first|rfl|cases h
 |succ n ih =>
  intro d h;cases d with
  |int i=>rfl
  |list ds=>show lM λx hx=>ih x (LN.mp (LK.mp (show(decide (-ds<=100000)&&ds.all (plD n))=Pq from h)).2 x hx)
  |tuple ds=>show lM λx hx=>ih x (LN.mp (LK.mp (show(decide (-ds<=100000)&&ds.all (plD n))=Pq from h)).2 x hx)
  |_=>cases h
theorem C9{n:Nat}{d:av}(h:plN n d=Pq):noF d=Pq:=by
 rcases v6.mp h with h|h;cases d <;> first|rfl|cases h
 show Da n d h
def o5(K:cp)(n:Nat):Sp:=λvs H Q Y=>∃(v:V) (d:av) (S:Pg) (N:aG->Prop),vs=[v]/\OT K N H v d S/\S.Nodup/\plN n d=Pq/\∀G,(∀b o,b ∉ S->H b=Po o->G b=Po o)->Q .non G
theorem rG{J:It}{n:Nat}{xs:Pl}{ds:Pe}{S:Pg}{N:aG->Prop}{H:Hp}{σ:St}{D:oW}(q:OTs K N H xs ds S)(nd:S.Nodup)(hN:∀b∈S,N b)(v:ds.all (plD n)=true)(h1:1<σ.length)
  (go:∀G,(∀b o,b ∉ S->H b=some o->G b=some o)->∀i,i<xs.length->J.go i G) (A:∀G,(∀b o,b ∉ S->H b=some o->G b=some o)->∀i x g,J.yld i G x g->g=G/\xs[i]?=some x) (st:∀G,(∀b o,b ∉ S->H b=some o->G b=some o)->J.stop xs.length G)
  (B:∀σ' G,σ'[0]?=σ[0]?->(∀b o,b ∉ S->H b=some o->G b=some o)->D.nx σ' G) :
  ∃W:Nat->Nat->St->Hp->Prop,(∃m,W 0 m σ H)/\∀i m σ H,W i m σ H->(J.stop i H/\D.nx σ H)\/(J.go i H/\∃N:St->Hp->Prop,(∀σ' H',N σ' H'->∃s,s<m/\W (i+1) s σ' H')/\∀x H',J.yld i H x H'->jo 1 x σ H' λc H2=>ub (jH (o5 K n) [] E0 (bv (d5 1) iQ)) { D with nx:=N,ct:=N,bk:=D.nx } c H2):=by
 let(T,t1,t2):=q.chunks nd;let len:=q.len;let off:∀{G:Hp}{i:Nat},i<=-xs->(∀b o,(∀j,j<i->b ∉ T j)->H b=Po o->G b=Po o)->∀b o,b ∉ S->H b=Po o->G b=Po o:=λhi k b o f e=>k b o (λj hj z=>f ((t1 j (!0)).2.1 b z)) e;show(λi m σ' G=>m=-xs-i/\i<=-xs/\σ'[0]?=σ[0]?/\1< -σ'/\∀b o,(∀j,j<i->b ∉ T j)->H b=Po o->G b=Po o,(_,rfl,Ln _,rfl,h1,λY Y Y e=>e),?_);rintro i m σ' G ⟨rfl,hi,t,h,k⟩;let kS:=off hi k;by_cases d:i< -xs;show .inr (go G kS i d,λc G2=>c[0]?=σ[0]?/\1< -c/\∀b o,(∀j,j<i+1->b ∉ T j)->H b=Po o->G2 b=Po o,λc G2 z=>(-xs-(i+1),!0,rfl,d,z),λx g y=>?_);let(rfl,ex):=A G kS i x g y;let(l,sub,p):=t1 i d;let r:xs.getD i .non=x:=by rw[Lb,ex];rfl
 rw[r]at l;let hd:i< -ds:=!0
 let C:ds.getD i .none=ds[i]:=by simp[Lb,hd]
 rw[C]at l;let E:OT K N g x ds[i] (T i):=l.keep (λb o f e=>kS b o (λz=>f (hN b z)) e) λa u=>by
  let(o,z):=l.lives a u;rw[z,k a o (λj hj w=>t2 j i (!0) d (!0) a w u) z]
 show(x,by rw[Lp h],x,ds[i],T i,N,rfl,E,p,by rw[plN,LN.mp v _ (cE hd),Mv],λG2 k2=>(by rw[Lj (!2)];show t,by rw[LL];show h,λb o f e=>k2 b o (f i (LR i)) (k b o (λj hj=>f j (L5 hj)) e)));obtain rfl:i=-xs:=!0
 show .inl (st G kS,B σ' G t kS)
abbrev bB:Stmt:=top 33
theorem cJ:ax ["_law_found","_law_one"] ["_law_found"] (af bB):={}
theorem fg{f:aG}{fd:kx}(F:Fun K "_law_spoiled" "_law_spoiled" bB f fd):bE K fd ["_law_found"] []:=F.binds (ps:=["_law_found"]) λY Y Y Y Y Y us hl=>us1 (Q:=λus=>Qh _ (us,[])=pure (p7 _ us)) hl λY=>rfl
theorem rF{f:aG}{fd:kx}(F:Fun K "_law_spoiled" "_law_spoiled" bB f fd)(B:Bn mg)(n:Nat)(sp:Sp)(G:Cal P w K mg base "_law_spoiled" (n+1) sp)(j:∀m,n=m+1->sp=o5 K m):aY P w K mg base CX0 (n+2) f fd ["_law_found"] (o5 K n):=by
 show F.ok (k:=n+1) cJ (λvs H Q E h=>?_) λcdv A outer s H vs Q E u h=>(_,a9 (i5 (sh (cY (mi rfl) rfl B.isinstance h7 (ak (ah (i:=0) rfl cA) (ak (lz (v:=.ty "list") rfl B.list ls rfl (!2) (!2)) aH rfl) rfl) (!2) (!2) rfl rfl))
   (a9 (si PassesOwn.never rfl (gM (ah (i:=0) rfl cA)) (fO (i:=1) cJ.nd rfl cA) (aW (bO (dj G (u.mono (Lf _)) rfl (ak (ah (i:=1) rfl cA) aH)))))
    (aW (bO (zu ef h5 hY dw (ah (i:=0) rfl cA) (ak ci aH))))) cZ)
  (aW (i5 (sh (cY (mi rfl) rfl B.isinstance h7 (ak (ah (i:=0) rfl cA) (ak (lz (v:=.ty "tuple") rfl B.tuple pE rfl (!2) (!2)) aH rfl) rfl) (!2) (!2) rfl rfl))
   (aW (si PassesOwn.never rfl (Gm (ah (i:=0) rfl cA)) (fO (i:=1) cJ.nd rfl cA) (aW (bO (dj G (u.mono (Lf _)) rfl (ak (ah (i:=1) rfl cA) aH)))))) cZ)),?_)
 let(v,d,S,N,rfl,_):=h;rfl
 .let(v,d,S,N,rfl,ot,nd,c,l):=h;let D:(1000000:Nat)<sizeLine:=!2
  let I:=C9 c;let ot:OT K (·∈S) H v d S:=ot.noFto (λb us r z=>(ot.lst1 b z us r).elim) I;obtain rfl|⟨i,rfl⟩|⟨m,ds,rfl,hz,C,rfl|rfl⟩:d=.none\/(∃i,d=.int i)\/∃m ds,n=m+1/\ds.length<=100000/\ds.all (plD m)=Pq/\(d=.list ds\/d=.tuple ds):=by
   rcases v6.mp c with c|c;cases d <;> first|show .inl rfl|cases c
   cases d with
   |int i=>show .inr (.inl (i,rfl))
   |list ds =>
    cases n with
    |zero=>cases c
    |succ m=>let(h1,h2):=LK.mp (show(decide (-ds<=100000)&&ds.all (plD m))=Pq from c);show .inr (.inr (m,ds,rfl,of_decide_eq_true h1,h2,.inl rfl))
   |tuple ds =>
    cases n with
    |zero=>cases c
    |succ m=>let(h1,h2):=LK.mp (show(decide (-ds<=100000)&&ds.all (plD m))=Pq from c);show .inr (.inr (m,ds,rfl,of_decide_eq_true h1,h2,.inr rfl))
   |_=>cases n <;> cases c
  cases ot;show(.non,rfl,.non, "NoneType","list",Pr,rfl,.non,dW .none,Pr,rfl,?_);show(.non,rfl,.non, "NoneType","tuple",Pr,rfl,.non,fb .none,Pr,rfl,?_);show l H λY Y Y e=>e;cases ot;show(.int i,rfl,.int i, "int","list",Pr,rfl,.int i,dW (.int i),Pr,rfl,?_);show(.int i,rfl,.int i, "int","tuple",Pr,rfl,.int i,fb (.int i),Pr,rfl,?_);show l H λY Y Y e=>e
  .cbv;obtain rfl:=j m rfl;let(a,xs,S',rfl,rfl,hl,q):=ot.listI;let(J,L):=Ll.mp nd
   w_up;let M:-xs=-ds:=q.len;let g:∀G:Hp,(∀b o,b ∉ S'->H b=Po o->G b=Po o)->G a=Po (.lst xs):=λG k=>k a _ J hl;show(.ref a,rfl,.ref a, "list","list",Pq,rfl,.lst (SqL.of hl),dW (.list []),Pq,rfl,?_);show(.ref a,rfl,a,rfl,(xs,SqL.of hl),rG q L (λb t=>K5 _ t) C (show 1<2 by decide) (λG k i hi=>(xs,xs[i],SqL.of (g G k),K8 hi)) (λG k i x O y=>(y.1,y.2 xs (SqL.of (g G k)))) (λG k=>(xs,SqL.of (g G k),Lf _)) λσ' G e k=>?_);let ga:=g G k;show(.ref a,e,.inl (rfl,_,SqL.of ga),a,xs,.int 0,rfl,rfl,ga,!0,?_);show(.ref a,e,.ref a, "list","tuple",Pr,rfl,.lst (SqL.of (xs:=xs++[.int 0]) aq),fb (.list []),Pr,rfl,?_);show l _ λb o p e=>?_;rw[ao λz=>p (by rw[z];show K3)];show k b o (λz=>p (K5 _ z)) e
  obtain rfl:=j m rfl;let(a,xs,rfl,hs,q):=ot.tupI2;let g:∀G:Hp,(∀b o,b ∉ S->H b=Po o->G b=Po o)->SqT K G a xs:=λG k=>(hs.keep λb o p e=>k b o p e).sq;show(.ref a,rfl,.ref a, "tuple","list",Pr,rfl,.tup hs.sq,dW (.tuple []),Pr,rfl,?_);show(.ref a,rfl,.ref a, "tuple","tuple",Pq,rfl,.tup hs.sq,fb (.tuple []),Pq,rfl,?_);show(.ref a,rfl,a,rfl,(xs,hs.sq),rG q nd (λb t=>t) C (show 1<2 by decide) (λG k i hi=>(xs,xs[i],g G k,K8 hi)) (λG k i x O y=>(y.1,y.2 xs (g G k))) (λG k=>(xs,g G k,Lf _)) λσ' G e k=>l G k)
theorem eV{f:aG}{fd:kx}(F:Fun K "_law_spoiled" "_law_spoiled" bB f fd)(B:Bn mg)(m:mg "_law_spoiled" = Po (.ref f)):∀n,aY P w K mg base CX0 (n+2) f fd ["_law_found"] (o5 K n)
 | 0=>rF F B 0 _ ((JQ F m (fg F)).mono (Ln _)) λY z=>(nomatch z)
 |n+1=>rF F B (n+1) (o5 K n) (Cal.mk F m (fg F) (eV F B m n)) λY z=>by cases z;rfl
def Tw(s o:O7):Prop:=s∈eG/\(o∈fP\/o=[0])/\(-s=2->o≠[1,0])
theorem Tw.few{s o:O7}(t:Tw s o):1<=-s/\s.length<=2/\(∀x∈s,1<=x/\x<=3)/\1<=-o/\o.length<=2/\∀x∈o,0<=x/\x<=2:=by let(a,b,_):=t;let h1:=(by decide:∀s∈eG,1<=-s/\s.length<=2/\∀x∈s,1<=x/\x<=3) s a;let h2:=(by decide:∀o∈[0]::fP,1<=-o/\o.length<=2/\∀x∈o,0<=x/\x<=2) o (b.elim (K5 _) λe=>by rw[e];show K3);show(h1.1,h1.2.1,h1.2.2,h2)
theorem Tw.tbl{s o:O7}(t:Tw s o):TbL s o:=by
 let(h1,h2,b,c,f,d):=t.few;let e:mnd s 0=[s]:=by let(a,_):=t;show(by decide:∀s∈eG,mnd s 0=[s]) s a
 show lO (n:=0) h1 (!0) (λx hx=>((b x hx).1,by let:=(b x hx).2;lia)) (!0) c (!0) (λx hx=>(d x hx).1) (by rw[e];show K3)
theorem Tw.lm{s o:O7}{R:Sl->Pf->Prop}(tw:Tw s o)(hz:o.sum≠0)(q:∀d,uS s o d->∀S,R (.tr S d) [.un]):FA [.fr (.tuple [.list (li s),.list (li o)])] R:=by
 cbv;let(h1,h2,e,f,i,g):=tw.few;let(a,b,c):=tw;let b:=b.resolve_right λz=>hz (by rw[z];rfl);let(k,hk,t,h,hv):=ng a b c
 w_up;show(s,o,k,t,rfl,h1,!0,λx hx=>((e x hx).1,by let:=(e x hx).2;lia),f,!0,λx hx=>(g x hx).1,hz,hk,h,hv,λn t p ps e1 e2 e3=>q _ (n,t,p,ps,rfl,e1,e2,e3))
def oN(t:Int)(s o:O7)(d:av):Prop:=(t=3/\d=tnD s o)\/(t=4/\uR s o d)\/(t=5/\((d=.none/\∃A B,oO s o A B)\/∃lost,oQ s o lost/\d=.list (E9 (Dp s o lost))))\/t=6/\uS s o d
inductive fZ (C:aG) (t:Int):DSp
 |mk {ss R} (kvs:OW) (nm:ck) (s o:O7):ss=[.fr (bU C kvs),.fr (.str nm)]->atS kvs nm=some (tnD s o)->Tw s o->(t=6->o.sum≠0)->(∀d,oN t s o d->∀S,R (.tr S d) [.un,.un])->fZ C t ss R
abbrev pd:Stmt:=db (top 24) 4
theorem y6:ax ["self"] ["self"] (af pd):={}
abbrev rR:Stmt:=db (top 24) 5
theorem vF:ax ["self","name"] ["self","name"] (af rR):={}
abbrev rS:Stmt:=db (top 24) 6
theorem vG:ax ["self","name"] ["self","name"] (af rS):={}
abbrev kZ:Stmt:=db (top 24) 7
theorem rQ:ax ["self","name"] ["self","name"] (af kZ):={}
abbrev mO:Stmt:=db (top 24) 8
theorem o9:ax ["self","name"] ["self","name"] (af mO):={}
section
variable{f C:aG}{fd:kx}
inductive kQ (C:aG):DSp
 |mk {ss R} (kvs:OW):ss=[.fr (bU C kvs)]->kvs.length<64->R (.ow ((yW (kvs.map (·.1))).map .str)) [.un]->kQ C ss R
theorem zG(F:Fun K "names" "Desk.names" pd f fd)(B:Bn mg)(c:Cls K C)(na:cP K C "towns"):aY P w K mg base CX0 1 f fd ["self"] (spD K (kQ C)):=by show okD (k:=0) F y6 (λss R h=>?_) (!2) (λcdv A outer s H E a=>(_,al (aR (v7 rfl rfl B.sorted (aa (C1 rfl c na (qv 0)) ag))),λss R h=>?_));let(kvs,rfl,_):=h;rfl;let(kvs,rfl,h1,q):=h;lk;show(kvs,rfl,kvs,rfl,h1,q)
theorem zC(F:Fun K "town" "Desk.town" rR f fd)(B:Bn mg)(b:mj P w K mg base C "look_up" 1 (yY C))(a:Cal P w K mg base "copied" 1 (spD K dF)):aY P w K mg base CX0 2 f fd ["self","name"] (spD K (fZ C 3)):=by show okD (k:=1) F vF (λss R h=>?_) (!2) (λcdv A outer s H E d=>(_,al (aR (pz (aQ a (aa (FY b rfl (d.mono (!2)) (qv 0) (qf 1)) ag)))),λss R h=>?_));let(kvs,nm,s,o,rfl,_):=h;rfl;let(kvs,nm,s,o,rfl,c,tw,_,q):=h;lk;show((_,rfl),_,rfl,_,c,?_);let(_,h2,_,_,e,_):=tw.few;show .mk s o rfl (!0) (!0) λS=>(_,rfl,λS'=>(_,rfl,q _ (.inl (rfl,rfl)) S'))
theorem zE(F:Fun K "plan" "Desk.plan" rS f fd)(B:Bn mg)(b:mj P w K mg base C "look_up" 1 (yY C))(a:Cal P w K mg base "plan_of" 10 (spD K dE)):aY P w K mg base CX0 11 f fd ["self","name"] (spD K (fZ C 4)):=by show okD (k:=10) F vG (λss R h=>?_) (!2) (λcdv A outer s H E d=>(_,al (aR (pz (aQ a (aa (FY b rfl (d.mono (!2)) (qv 0) (qf 1)) ag)))),λss R h=>?_));let(kvs,nm,s,o,rfl,_):=h;rfl;let(kvs,nm,s,o,rfl,c,tw,_,q):=h;lk;show((_,rfl),_,rfl,_,c,?_);show(s,o,rfl,tw.tbl,λv hv S=>(_,rfl,λS'=>(_,rfl,q v (.inr (.inl (rfl,hv))) S')))
theorem wN(F:Fun K "paper" "Desk.paper" kZ f fd)(B:Bn mg)(b:mj P w K mg base C "look_up" 1 (yY C))(a:Cal P w K mg base "paper_of" 10 (spD K gG)):aY P w K mg base CX0 11 f fd ["self","name"] (spD K (fZ C 5)):=by show okD (k:=10) F rQ (λss R h=>?_) (!2) (λcdv A outer s H E d=>(_,al (aR (pz (aQ a (aa (FY b rfl (d.mono (!2)) (qv 0) (qf 1)) ag)))),λss R h=>?_));let(kvs,nm,s,o,rfl,_):=h;rfl;let(kvs,nm,s,o,rfl,c,tw,_,q):=h;lk;show((_,rfl),_,rfl,_,c,?_);show(s,o,rfl,tw.tbl,λe=>(_,rfl,λS'=>(_,rfl,q _ (.inr (.inr (.inl (rfl,.inl (rfl,e))))) S')),λlost hl=>(_,OG (jd _),λS'=>(_,rfl,q _ (.inr (.inr (.inl (rfl,.inr (lost,hl,rfl))))) S')))
theorem zH(F:Fun K "mend" "Desk.mend" mO f fd)(B:Bn mg)(b:mj P w K mg base C "look_up" 1 (yY C))(a:Cal P w K mg base "least_mend" 12 (spD K FA)):aY P w K mg base CX0 13 f fd ["self","name"] (spD K (fZ C 6)):=by show okD (k:=12) F o9 (λss R h=>?_) (!2) (λcdv A outer s H E e=>(_,al (aR (pz (aQ a (aa (FY b rfl (e.mono (!2)) (qv 0) (qf 1)) ag)))),λss R h=>?_));let(kvs,nm,s,o,rfl,_):=h;rfl;let(kvs,nm,s,o,rfl,c,tw,hz,q):=h;lk;show((_,rfl),_,rfl,_,c,?_);show tw.lm (hz rfl) λd hd S=>(_,rfl,λS'=>(_,rfl,q _ (.inr (.inr (.inr (rfl,hd)))) S'))
end
theorem sr(n:Nat)(i:Int):plD n (.int i)=Pq:=by cases n <;> rfl
theorem HL{n:Nat}{ds:Pe}(h:-ds<=100000)(k:∀d∈ds,plD n d=Pq):plD (n+1) (.list ds)=Pq:=LK.mpr (decide_eq_true h,LN.mpr k)
theorem E8{n:Nat}{ds:Pe}(h:-ds<=100000)(k:∀d∈ds,plD n d=Pq):plD (n+1) (.tuple ds)=Pq:=LK.mpr (decide_eq_true h,LN.mpr k)
theorem Bj{n:Nat}{s:O7}:∀d∈li s,plD n d=Pq:=λd hd=>by
 let(i,_,rfl):=Lo.mp hd;show sr n i
theorem wz{n:Nat}{s:O7}(h:-s<=100000):plD (n+1) (.list (li s))=Pq:=HL (by rw[K4];show h) Bj
theorem C7{n:Nat}{s o:O7}(h:-s<=100000)(h':-o<=100000):plD (n+2) (tnD s o)=Pq:=E8 (!1) λd hd=>by
 simp only[K9,Lv,or_false]at hd;rcases hd with rfl|rfl;show wz h;show wz h'
theorem wx{n:Nat}{A:OQ}(h:-A<=100000)(k:∀r∈A,-r<=6):plD (n+2) (.list (lr A))=Pq:=HL (by rw[K4];show h) λd hd=>by
 let(r,a,rfl):=Lo.mp hd;show wz (Ld (k r a) (!2))
theorem wy{n:Nat}{s o:O7}{d:av}(h:fh s o d)(f:(uQ s o).length<100000):plD (n+3) d=Pq:=by let(A,B,rfl,_,hl,a):=h;show E8 (!1) λd hd=>?_;simp only[K9,Lv,or_false]at hd;rcases hd with rfl|rfl;show wx (!0) λr h=>a r (K1 _ h);show wx (!0) λr h=>a r (K0 _ h)
theorem so{n:Nat}{s o:O7}{d:av}(h:gdP s o d)(t:TbL s o):plD (n+3) d=Pq:=by let(lost,hl,rfl):=h;let f:=t.2.2.2.2.2;let b:=hl.few;show HL (by rw[K4];show(Dp s o lost).length<=_;rw[Dp,K4];lia) λd hd=>?_;let(e,a,rfl):=Lo.mp hd;let(x,hx,rfl):=Lo.mp a;show E8 (!1) λd hd=>?_;simp only[K9,Lv,or_false]at hd;rcases hd with rfl|rfl|rfl;show sr _ _;show E8 (by rw[K4];let:=(hl.is x hx).2.1;let:=t.1;lia) Bj;show sr _ _
theorem yP{rows:OQ}{ps:Pe}{d:av}(h:d∈prD rows ps)(hl:-ps=-rows):∃(j:Nat) (u:O7),rows[j]?=Po u/\d=.tuple [.list (li u),ps.getD j .none]:=by let(j,hj,e):=LC h;rw[NM]at hj;rw[List.getElem_zipWith]at e;show(j,rows[j]'(!0),K8 (!0),?_);rw[<-e];simp[Lb,show j< -ps by lia]
theorem C8{n:Nat}{s o:O7}{d:av}(tw:Tw s o)(hz:o.sum≠0)(h:uS s o d):plD (n+6) d=Pq:=by
 cbv;let(h1,h2,q,r,D,v):=tw.few;let(a,b,c):=tw;let b:=b.resolve_right λz=>hz (by rw[z];rfl);let(k,hk,w,f,v0,g):=ng a b c;let(m,t,p,ps,rfl,((i,y,A,_),l),hl,B):=h
 w_up;let C:m<=4:=by rcases Nr k m with z|z;show(fw (l k z w f) g).elim;lia
 let tbl:∀j,j<=4->∀u∈mnd s j,TbL u o:=λj hj u e=>lO h1 (!0) (λx hx=>((q x hx).1,by let:=(q x hx).2;lia)) hj r (!0) (λx hx=>(v x hx).1) e;let few:∀j,j<=4->(mnd s j).length<=125:=λj hj=>Ld (je s j) (HU (!0) hj);let tt:=tbl m C t (LF y);let hL:(lss s m).length<=125/\∀u∈lss s m,TbL u o:=by
  cases m with
  |zero=>show(Ln _,λt h=>by cases h)
  |succ m=>show(few m (!0),tbl m (!0))
 show E8 (!1) λd hd=>?_;simp only[K9,Lv,or_false]at hd;rcases hd with rfl|rfl|rfl|rfl;show sr _ _;show wz (by let:=tt.1;lia);show wy A tt.2.2.2.2.2;show HL (by rw[NM];lia) λd hd=>?_;let(j,u,hj,rfl):=yP hd hl;let e:=hL.2 u (LF hj);show E8 (!1) λd hd=>?_;simp only[K9,Lv,or_false]at hd;rcases hd with rfl|rfl;show wz (by let:=e.1;lia);show so (B j u hj) e
theorem oN.pl{t:Int}{s o:O7}{d:av}(tw:Tw s o)(hz:t=6->o.sum≠0)(h:oN t s o d):plN 6 d=Pq:=by
 let(_,h2,_,_,a,_):=tw.few;rcases h with⟨_,rfl⟩|⟨_,h|⟨rfl,_⟩⟩|⟨_,⟨rfl,_⟩|⟨lost,h,rfl⟩⟩|⟨e,h⟩
 rw[plN,C7 (n:=4) (!0) (!0),Mv];rw[plN,wy (n:=3) h tw.tbl.2.2.2.2.2,Mv];rfl;rfl;rw[plN,so (n:=3) (lost,h,rfl) tw.tbl,Mv];rw[plN,C8 (n:=0) tw (hz e) h,Mv]
theorem oN.one{t:Int}{s o:O7}{d d':av}(h:oN t s o d)(h':oN t s o d'):d=d':=by
 rcases h with⟨e,rfl⟩|⟨e,h⟩|⟨e,h⟩|⟨e,h⟩ <;> rcases h' with⟨e',rfl⟩|⟨e',h'⟩|⟨e',h'⟩|⟨e',h'⟩ <;> first|(exfalso;lia)|skip
 rfl;show h.one h';rcases h with⟨rfl,A,B,h⟩|⟨l,h,rfl⟩ <;> rcases h' with⟨rfl,A',B',h'⟩|⟨l',h',rfl⟩
 rfl;show(dh h h'.rch).elim;show(dh h' h.rch).elim;rw[sD h.rch h'.rch];show h.one h'
abbrev gK:Stmt:=top 32
theorem pc:ax ["_law_town","_law_turn"] ["_law_town","_law_turn"] (af gK):={}
inductive Cu:DSp
 |mk {ss R} (s o:O7) (t:Int):ss=[.fr (.tuple [.list (li s),.list (li o)]),.fr (.int t)]->3<=t->t<=6->Tw s o->(t=6->o.sum≠0)->(∀d,oN t s o d->∀S,R (.tr S d) [.un,.un])->Cu ss R
theorem pU{f:aG}{fd:kx}(F:Fun K "_law_due" "_law_due" gK f fd)(B:Bn mg)(c:Cal P w K mg base "plan_of" 10 (spD K dE))(b:Cal P w K mg base "paper_of" 10 (spD K gG))(a:Cal P w K mg base "least_mend" 12 (spD K FA)):aY P w K mg base CX0 13 f fd ["_law_town","_law_turn"] (spD K Cu):=by
 show okD (k:=12) F pc (λss R h=>?_) (!2) (λcdv A outer s H E g=>(_,(aj (cQ (aC bM gQ (qv 1) ap) (al (aR (j4 (aa (fj (K:=K) rfl rfl B.list (aa (qx (qv 0) ap) ag)) (aa (fj (K:=K) rfl rfl B.list (aa (qx (qv 0) ap) ag)) ag))))) aF)
   (aj (cQ (aC bM gQ (qv 1) ap) (al (aR (pz (aQ c (aa (qf 0) ag))))) aF)
   (aj (cQ (aC bM gQ (qv 1) ap) (al (aR (pz (aQ b (aa (qf 0) ag))))) aF)
   (al (aR (pz (aQ a (aa (qf 0) ag)))))))),λss R h=>?_))
 let(s,o,t,rfl,_):=h;rfl;let(s,o,t,rfl,i,j,tw,hz,q):=h;let(h1,h2,l,m,n,p):=tw.few;obtain rfl|rfl|rfl|rfl:t=3\/t=4\/t=5\/t=6:=!0
 all_goals
  lk
  repeat (rw[OH (!2)];lk)
  try rw[OG rfl]
  try lk
 show(Ld (!2) ar,q _ (.inl (rfl,rfl)));show(s,o,rfl,tw.tbl,λv hv S=>(_,rfl,λS'=>(_,rfl,q v (.inr (.inl (rfl,hv))) S')));show(s,o,rfl,tw.tbl,λe=>(_,rfl,λS'=>(_,rfl,q _ (.inr (.inr (.inl (rfl,.inl (rfl,e))))) S')),λlost hl=>(_,OG (jd _),λS'=>(_,rfl,q _ (.inr (.inr (.inl (rfl,.inr (lost,hl,rfl))))) S')));show tw.lm (hz rfl) λd hd S=>(_,rfl,λS'=>(_,rfl,q _ (.inr (.inr (.inr (rfl,hd)))) S'))
abbrev cL:Stmt:=top 30
theorem eJ:ax ["_law_desk","_law_turn","_law_name","_law_town"] ["_law_desk","_law_turn","_law_name","_law_town"] (af cL):={}
inductive o7 (C:aG):DSp
 |mk {ss R} (kvs:OW) (t:Int) (nm:ck) (s o:O7):ss=[.fr (bU C kvs),.fr (.int t),.fr (.str nm),.fr .none]->3<=t->t<=6->atS kvs nm=some (tnD s o)->Tw s o->(t=6->o.sum≠0)->(∀d,oN t s o d->∀S,R (.tr S d) [.un,.un,.un,.un])->o7 C ss R
theorem zK{f C:aG}{fd:kx}(F:Fun K "_law_done" "_law_done" cL f fd)(B:Bn mg)(b:mj P w K mg base C "town" 2 (spD K (fZ C 3)))(c:mj P w K mg base C "plan" 11 (spD K (fZ C 4)))(a:mj P w K mg base C "paper" 11 (spD K (fZ C 5)))(e:mj P w K mg base C "mend" 13 (spD K (fZ C 6))):aY P w K mg base CX0 14 f fd ["_law_desk","_law_turn","_law_name","_law_town"] (spD K (o7 C)):=by
 show okD (k:=13) F eJ (λss R h=>?_) (!2) (λcdv A outer s H E g=>(_,(aj (cQ (aC bM gQ (qv 1) ap) (al i4) aF)
   (aj (cQ (aC bM gQ (qv 1) ap) (al i4) aF)
   (aj (cQ (aC bM gQ (qv 1) ap) (al i4) aF)
   (aj (cQ (aC bM gQ (qv 1) ap) (al (aR (sd b rfl (g.mono (!2)) (qv 0) (aa (qf 2) ag)))) aF)
   (aj (cQ (aC bM gQ (qv 1) ap) (al (aR (sd c rfl (g.mono (!2)) (qv 0) (aa (qf 2) ag)))) aF)
   (aj (cQ (aC bM gQ (qv 1) ap) (al (aR (sd a rfl (g.mono (!2)) (qv 0) (aa (qf 2) ag)))) aF)
   (al (aR (sd e rfl (g.mono (!2)) (qv 0) (aa (qf 2) ag)))))))))),λss R h=>?_))
 let(kvs,t,nm,s,o,rfl,_):=h;rfl;let(kvs,t,nm,s,o,rfl,j,l,i,tw,hz,q):=h;obtain rfl|rfl|rfl|rfl:t=3\/t=4\/t=5\/t=6:=!0
 all_goals
  lk
  repeat (rw[OH (!2)];lk)
  try rw[OG rfl]
  try lk
  show((_,rfl),.mk kvs nm s o rfl i tw hz λd hd S=>(_,rfl,q d hd S))
theorem vS{X:Cx}{Hs:Hp}{l:O6}:PSs X l (upL K Hs λY Y=>False):=λY Y Y Y Y Y h=>by
 let(_,_,_,_,_,_,_,_,_,_,h,_):=h;show h.elim
theorem aY.orR{k:Nat}{f:aG}{fd:kx}{ps:Pi}{e g:RSp}(F:aY P w K mg base (CXE P w) k f fd ps (spR K e))(G:aY P w K mg base (CXE P w) k f fd ps (spR K g)):aY P w K mg base (CXE P w) k f fd ps (spR K λds c=>e ds c\/g ds c):=by
 let key:∀{vs:Pl}{H:Hp}{Q:VK}{E:XK},spR K (λds c=>e ds c\/g ds c) vs H Q E->spR K e vs H Q E\/spR K g vs H Q E:=λ⟨ds,c,a,b,d⟩=>b.imp (λb=>(ds,c,a,b,d)) λb=>(ds,c,a,b,d)
 show(λvs H Q E h=>(key h).elim (F.len vs H Q E) (G.len vs H Q E),λA outer s H args us vs Q E i j l r h=>(key h).elim (F.run A outer s H args us vs Q E i j l r) (G.run A outer s H args us vs Q E i j l r))
section
variable{f C cT cK cH:aG}{fd:kx}
def mP(C cT:aG):RSp:=λds c=>∃kvs nm,ds=[bU C kvs,.str nm]/\OkN nm/\atS kvs nm=Pp/\c=cT
def FF(C cK:aG):RSp:=λds c=>∃kvs nm tv,ds=[bU C kvs,.str nm,tv]/\OkN nm/\(atS kvs nm).isSome=Pq/\c=cK
def FG(C cT:aG):RSp:=λds c=>∃kvs nm tv,ds=[bU C kvs,.str nm,tv]/\OkN nm/\atS kvs nm=Pp/\c=cT
def J4(cH:aG):RSp:=λds c=>∃s o:O7,ds=[.tuple [.list (li s),.list (li o)]]/\o.sum=0/\c=cH
def J3(C cH:aG):RSp:=λds c=>∃kvs nm s o,ds=[bU C kvs,.str nm]/\atS kvs nm=Po (tnD s o)/\o.sum=0/\c=cH
theorem GA(F:Fun K "look_up" "Desk.look_up" f9 f fd)(c:Cls K C)(na:cP K C "towns")(cl:jF K mg "NoTown" cT):aY P w K mg base (CXE P w) 2 f fd ["self","name"] (spR K (mP C cT)):=by show okR (k:=1) F jY (λds c h=>?_) (!2) (λcdv A outer s H E RX b d=>(_,bG (lj (pp (qf 1) (C1 rfl c na (qv 0))) (bI (pw d cl b rfl (aa (F7 (qf 1)) ag))) dP) vS,λds c h hx=>?_));let(kvs,nm,rfl,_):=h;rfl;let(kvs,nm,rfl,hn,a,rfl):=h;lk;show(kvs,rfl,kvs,rfl,?_);rw[OG (by rw[a];rfl)];show(by let:=hn.len;lia,hn.asc,λY=>hx)
theorem Dt(F:Fun K "put" "Desk.put" y8 f fd)(c:Cls K C)(na:cP K C "towns")(cl:jF K mg "Taken" cK):aY P w K mg base (CXE P w) 2 f fd ["self","name","town"] (spR K (FF C cK)):=by show okR (k:=1) F Ba (λds c h=>?_) (!2) (λcdv A outer s H E RX b d=>(_,bG (lj (Bd (qf 1) (C1 rfl c na (qv 0))) (bI (pw d cl b rfl (aa (F7 (qf 1)) ag))) dP) vS,λds c h hx=>?_));let(kvs,nm,tv,rfl,_):=h;rfl;let(kvs,nm,tv,rfl,hn,a,rfl):=h;lk;show(kvs,rfl,kvs,rfl,?_);rw[OG a];show(by let:=hn.len;lia,hn.asc,λY=>hx)
theorem uy(F:Fun K "change" "Desk.change" iJ f fd)(a:fV P w K mg base C "look_up" 2 (mP C cT)):aY P w K mg base (CXE P w) 3 f fd ["self","name","town"] (spR K (FG C cT)):=by show okR (k:=2) F mN (λds c h=>?_) (!2) (λcdv A outer s H E RX d e=>(_,bG (wl (df gj e a rfl d (qv 0) (aa (qf 1) ag))) vS,λds c h hx=>?_));let(kvs,nm,tv,rfl,_):=h;rfl;let(kvs,nm,tv,rfl,hn,b,rfl):=h;lk;show((_,rfl),_,(kvs,nm,rfl,hn,b,rfl),hx)
theorem zO(F:Fun K "away" "Desk.away" rT f fd)(a:fV P w K mg base C "look_up" 2 (mP C cT)):aY P w K mg base (CXE P w) 3 f fd ["self","name"] (spR K (mP C cT)):=by show okR (k:=2) F vI (λds c h=>?_) (!2) (λcdv A outer s H E RX d e=>(_,bG (wl (df gj e a rfl d (qv 0) (aa (qf 1) ag))) vS,λds c h hx=>?_));let(kvs,nm,rfl,_):=h;rfl;let(kvs,nm,rfl,hn,b,rfl):=h;lk;show((_,rfl),_,(kvs,nm,rfl,hn,b,rfl),hx)
theorem zD(F:Fun K "town" "Desk.town" rR f fd)(b:fV P w K mg base C "look_up" 2 (mP C cT))(a:Cal P w K mg base "copied" 1 (spD K dF)):aY P w K mg base (CXE P w) 3 f fd ["self","name"] (spR K (mP C cT)):=by show okR (k:=2) F vF (λds c h=>?_) (!2) (λcdv A outer s H E RX e g=>(_,bI (d4 (zb a (e.mono (!2)) rfl (df gj g b rfl e (qv 0) (aa (qf 1) ag)))),λds c h hx=>?_));let(kvs,nm,rfl,_):=h;rfl;let(kvs,nm,rfl,hn,d,rfl):=h;lk;show((_,rfl),_,(kvs,nm,rfl,hn,d,rfl),hx)
theorem Gz{f:aG}{fd:kx}(F:Fun K "least_mend" "least_mend" ce f fd)(B:Bn mg)(cl:jF K mg "NoHands" cH):aY P w K mg base (CXE P w) 2 f fd ["town"] (spR K (J4 cH)):=by show okR (k:=1) F aE (λds c h=>?_) (!2) (λcdv A outer s H E RX a b=>(_,bG (IZ (aT 1 aE.nd (qx (qv 0) ap))) (bG (lj (aC bM gQ (HK (jx (K:=K) rfl rfl) IV rfl B.sum p9 (aa (qv 1) ag)) ap) (bI (pw b cl a rfl (aa gL ag))) dP) vS),λds c h hx=>?_));let(s,o,rfl,_):=h;rfl;let(s,o,rfl,hs,rfl):=h;lk;rw[OG hs];show hx
theorem zF(F:Fun K "plan" "Desk.plan" rS f fd)(a:fV P w K mg base C "look_up" 2 (mP C cT))(G:Cal P w K mg base "plan_of" 10 (spD K dE)):aY P w K mg base (CXE P w) 11 f fd ["self","name"] (spR K (mP C cT)):=by show okR (k:=10) F vG (λds c h=>?_) (!2) (λcdv A outer s H E RX d e=>(_,bI (d4 (zb G (d.mono (!2)) rfl (df gj e a rfl (d.mono (!2)) (qv 0) (aa (qf 1) ag)))),λds c h hx=>?_));let(kvs,nm,rfl,_):=h;rfl;let(kvs,nm,rfl,hn,b,rfl):=h;lk;show((_,rfl),_,(kvs,nm,rfl,hn,b,rfl),hx)
theorem wO(F:Fun K "paper" "Desk.paper" kZ f fd)(a:fV P w K mg base C "look_up" 2 (mP C cT))(G:Cal P w K mg base "paper_of" 10 (spD K gG)):aY P w K mg base (CXE P w) 11 f fd ["self","name"] (spR K (mP C cT)):=by show okR (k:=10) F rQ (λds c h=>?_) (!2) (λcdv A outer s H E RX d e=>(_,bI (d4 (zb G (d.mono (!2)) rfl (df gj e a rfl (d.mono (!2)) (qv 0) (aa (qf 1) ag)))),λds c h hx=>?_));let(kvs,nm,rfl,_):=h;rfl;let(kvs,nm,rfl,hn,b,rfl):=h;lk;show((_,rfl),_,(kvs,nm,rfl,hn,b,rfl),hx)
theorem zI(F:Fun K "mend" "Desk.mend" mO f fd)(a:fV P w K mg base C "look_up" 2 (mP C cT))(G:Cal P w K mg base "least_mend" 12 (spD K FA)):aY P w K mg base (CXE P w) 13 f fd ["self","name"] (spR K (mP C cT)):=by show okR (k:=12) F o9 (λds c h=>?_) (!2) (λcdv A outer s H E RX d e=>(_,bI (d4 (zb G (d.mono (!2)) rfl (df gj e a rfl (d.mono (!2)) (qv 0) (aa (qf 1) ag)))),λds c h hx=>?_));let(kvs,nm,rfl,_):=h;rfl;let(kvs,nm,rfl,hn,b,rfl):=h;lk;show((_,rfl),_,(kvs,nm,rfl,hn,b,rfl),hx)
theorem zJ(F:Fun K "mend" "Desk.mend" mO f fd)(a:mj P w K mg base C "look_up" 1 (yY C))(G:HF P w K mg base "least_mend" 2 (J4 cH)):aY P w K mg base (CXE P w) 13 f fd ["self","name"] (spR K (J3 C cH)):=by show okR (k:=12) F o9 (λds c h=>?_) (!2) (λcdv A outer s H E RX d e=>(_,bI (d4 (FH gj e G (d.mono (!2)) rfl rfl (aa (FY a rfl (d.mono (!2)) (qv 0) (qf 1)) ag))),λds c h hx=>?_));let(kvs,nm,s,o,rfl,_):=h;rfl;let(kvs,nm,s,o,rfl,b,hs,rfl):=h;lk;show((_,rfl),kvs,rfl,_,b,_,(s,o,rfl,hs,rfl),hx)
def rV(C cT cK cH:aG):RSp:=λds c=>∃kvs t nm tv,ds=[bU C kvs,.int t,.str nm,tv]/\OkN nm/\((t=0/\(atS kvs nm).isSome=Pq/\c=cK)\/(1<=t/\t<=6/\atS kvs nm=Pp/\c=cT)\/∃s o,t=6/\atS kvs nm=Po (tnD s o)/\o.sum=0/\c=cH)
theorem zL(F:Fun K "_law_done" "_law_done" cL f fd)(B:Bn mg)(l:fV P w K mg base C "put" 2 (FF C cK))(b:fV P w K mg base C "change" 3 (FG C cT))(e:fV P w K mg base C "away" 3 (mP C cT))(g:fV P w K mg base C "town" 3 (mP C cT))(i:fV P w K mg base C "plan" 11 (mP C cT))(d:fV P w K mg base C "paper" 11 (mP C cT))
  (j:fV P w K mg base C "mend" 13 λds c=>mP C cT ds c\/J3 C cH ds c):aY P w K mg base (CXE P w) 14 f fd ["_law_desk","_law_turn","_law_name","_law_town"] (spR K (rV C cT cK cH)):=by
 show okR (k:=13) F eJ (λds c h=>?_) (!2) (λcdv A outer s H E RX m n=>(_,(bG (lj (aC bM gQ (qv 1) ap) (bI (d4 (df gj n l rfl (m.mono (!2)) (qv 0) (aa (qf 2) (aa (qf 3) ag))))) dP)
   (bG (lj (aC bM gQ (qv 1) ap) (bI (d4 (df gj n b rfl (m.mono (!2)) (qv 0) (aa (qf 2) (aa (qf 3) ag))))) dP)
   (bG (lj (aC bM gQ (qv 1) ap) (bI (d4 (df gj n e rfl (m.mono (!2)) (qv 0) (aa (qf 2) ag)))) dP)
   (bG (lj (aC bM gQ (qv 1) ap) (bI (d4 (df gj n g rfl (m.mono (!2)) (qv 0) (aa (qf 2) ag)))) dP)
   (bG (lj (aC bM gQ (qv 1) ap) (bI (d4 (df gj n i rfl (m.mono (!2)) (qv 0) (aa (qf 2) ag)))) dP)
   (bG (lj (aC bM gQ (qv 1) ap) (bI (d4 (df gj n d rfl (m.mono (!2)) (qv 0) (aa (qf 2) ag)))) dP)
   (bI (d4 (df gj n j rfl (m.mono (!2)) (qv 0) (aa (qf 2) ag)))))))))),λds c h hx=>?_))
 let(kvs,t,nm,tv,rfl,_):=h;rfl;let(kvs,t,nm,tv,rfl,hn,h):=h;lk;rcases h with⟨rfl,a,rfl⟩|⟨h1,p,a,rfl⟩|⟨s,o,rfl,a,hs,rfl⟩
 rw[OG rfl];show((_,rfl),_,(kvs,nm,tv,rfl,hn,a,rfl),hx)
 .obtain rfl|rfl|rfl|rfl|rfl|rfl:t=1\/t=2\/t=3\/t=4\/t=5\/t=6:=!0
  all_goals
   repeat rw[OH (!2)]
   try rw[OG rfl]
   first
    |show⟨⟨_,rfl⟩,_,⟨kvs,nm,tv,rfl,hn,a,rfl⟩,hx⟩
    |show⟨⟨_,rfl⟩,_,⟨kvs,nm,rfl,hn,a,rfl⟩,hx⟩
    |show⟨⟨_,rfl⟩,_,.inl ⟨kvs,nm,rfl,hn,a,rfl⟩,hx⟩
 .repeat rw[OH (!2)]
  show((_,rfl),_,.inr (kvs,nm,s,o,rfl,a,hs,rfl),hx)
end
abbrev cb:Stmt:=top 31
theorem aJ:ax ["_law_desk","_law_turn","_law_name","_law_town","_law_caught","_law_found","e"] ["_law_desk","_law_turn","_law_name","_law_town"] (af cb):={}
section
variable{f C cT cK cH cD cX:aG}{fd:kx}
theorem zM(F:Fun K "_law_done" "_law_done" cL f fd)(B:Bn mg)(g:mj P w K mg base C "put" 2 (rJ K C 0))(d:mj P w K mg base C "change" 2 (rJ K C 1))(e:mj P w K mg base C "away" 2 (vz K C)):aY P w K mg base CX0 3 f fd ["_law_desk","_law_turn","_law_name","_law_town"] (vy K C):=by
 cbv;let(c,I,m,n,o,p,q):=g;let(_,J,r,t,u,b1,m1):=d;let(_,L,v,y,D,b2,m2):=e
 w_up;show F.ok (k:=2) eJ (λvs H Q E h=>?_) λcdv A outer s H vs Q E j h=>(_,a9 (i5 (cm bM (ah (i:=1) rfl cA) ci (ia _)) (aW (gg (eU (ah (i:=0) rfl cA) c q o j p .nil ja (ak (ah (i:=2) rfl cA) (ak (ah (i:=3) rfl cA) aH))))) cZ)
  (a9 (i5 (cm bM (ah (i:=1) rfl cA) ci (ia _)) (aW (gg (eU (ah (i:=0) rfl cA) c m1 u j b1 .nil ja (ak (ah (i:=2) rfl cA) (ak (ah (i:=3) rfl cA) aH))))) cZ)
  (a9 (i5 (cm bM (ah (i:=1) rfl cA) ci (ia _)) (aW (gg (eU (ah (i:=0) rfl cA) c m2 D j b2 .nil ja (ak (ah (i:=2) rfl cA) aH)))) cZ) IM)),?_)
 let(x,dx,b,es,a,nm,tv,rfl,_):=h;rfl;let(x,dx,b,es,a,nm,tv,rfl,hx,l,h):=h;let G:a=0\/a=1\/a=2:=by
  rcases h with⟨z,_⟩|⟨⟨z,_⟩|⟨z,_⟩,_⟩
  show .inr (.inr z);show .inl z;show .inr (.inl z)
 rcases G with rfl|rfl|rfl;show(.int 0,rfl,rfl,Pq,rfl,.ref x,rfl,x,dx,_,rfl,hx,rfl,.str nm,rfl,tv,rfl,x,dx,b,es,nm,tv,rfl,hx,l,!2,h);show(.int 1,rfl,rfl,Pr,rfl,.int 1,rfl,rfl,Pq,rfl,.ref x,rfl,x,dx,_,rfl,hx,rfl,.str nm,rfl,tv,rfl,x,dx,b,es,nm,tv,rfl,hx,l,!2,h);show(.int 2,rfl,rfl,Pr,rfl,.int 2,rfl,rfl,Pr,rfl,.int 2,rfl,rfl,Pq,rfl,.ref x,rfl,x,dx,_,rfl,hx,rfl,.str nm,rfl,x,dx,b,es,nm,rfl,hx,l,?_);rcases h with h|⟨⟨z,_⟩|⟨z,_⟩,_⟩
 show .inl h;cases z;cases z
theorem Dq(F:Fun K "_law_refused" "_law_refused" cb f fd)(B:Bn mg)(d:Cal P w K mg base "_law_done" 3 (vy K C))(e:Cal P w K mg base "_law_kind" 2 (spD K (mK K cT cK cH cD cX)))(l:qR K cT cK cH cD cX .none Pr Pr Pr):aY P w K mg base CX0 4 f fd ["_law_desk","_law_turn","_law_name","_law_town"] (vq K C):=by
 show F.ok (k:=3) aJ (λvs H Q E h=>?_) λcdv A outer s H vs Q E g h=>(_,a9 (mR (i:=4) aJ.nd rfl cA j7) (a9 (mR (i:=5) aJ.nd rfl cA j7)
  (a9 (zl (λY Y z=>z) (aW (mR (i:=5) aJ.nd rfl cA (dj d (g.mono (!2)) rfl (ak (ah (i:=0) rfl cA) (ak (ah (i:=1) rfl cA) (ak (ah (i:=2) rfl cA) (ak (ah (i:=3) rfl cA) aH))))))))
  (a9 (i5 (PW.pt (Bi (cm zA (ah (i:=1) rfl cA) ci (ia _)) (wn (cm gN (ah (i:=5) rfl cA) j7 (ia _))))) (aW ln) cZ)
  (aW (gg (dj e (g.mono (!2)) rfl (ak (ah (i:=4) rfl cA) aH))))))),?_)
 let(x,dx,b,es,c,nm,tv,rfl,_):=h;rfl
 .let(x,dx,b,es,c,nm,tv,rfl,hx,m,h):=h;show(.ref x,rfl,.int c,rfl,.str nm,rfl,tv,rfl,x,dx,b,es,c,nm,tv,rfl,hx,m,h.mono λH1 n=>?_);let fin:spD K (mK K cT cK cH cD cX) [.non] H1 Q E0:=by
   show(N0,[.fr .none],λr Y=>r=.ow [],rfl,kG (ds:=[_]) (.cons .non .nil) (λY z=>z.elim),.mk .none Pr Pr Pr rfl l rfl,λr o v H2 p Y j=>?_)
   cbv;subst p;let(a,us,t,u,q,h0):=j.ow (Po v) [] K3;cases t;cases q
   w_up;show n a H2 (j.keep.mono (M:=N0) λa z=>by
    let z:a∈oas (tmp ([V.non].zip ([Ou].map Sl.fr))):=z;rw[h8]at z;cases z).none h0 u
  show(.int c,rfl,c,3,rfl,rfl,decide (c<3),rfl,?_);generalize decide (c<3)=k;cases k;show(.non,rfl,fin);show(.non,rfl,rfl,Pr,rfl,.non,rfl,fin)
inductive rH (K:cp) (C cT cK cH cD cX:aG):DSp
 |mk {ss R} (kvs:OW) (t:Int) (nm:ck) (tv:av) (c:aG) (bT bK bH:Bool):ss=[.fr (bU C kvs),.fr (.int t),.fr (.str nm),.fr tv]->rV C cT cK cH [bU C kvs,.int t,.str nm,tv] c->qR K cT cK cH cD cX (jq c 0) bT bK bH->R (.ow (jN bT bK bH)) [.un,.un,.un,.un]->rH K C cT cK cH cD cX ss R
theorem Ds(F:Fun K "_law_refused" "_law_refused" cb f fd)(B:Bn mg)(a:HF P w K mg base "_law_done" 14 (rV C cT cK cH))(b:Cal P w K mg base "_law_kind" 2 (spD K (mK K cT cK cH cD cX)))(cl:∀ds c,rV C cT cK cH ds c->∃d,fT K c d/\mg "TownError" = Po (.ref d)):aY P w K mg base CX0 15 f fd ["_law_desk","_law_turn","_law_name","_law_town"] (spD K (rH K C cT cK cH cD cX)):=by
 show okD (k:=14) F aJ (λss R h=>?_) (!2) (λcdv A outer s H E e=>(_,(aj (aT 4 aJ.nd fN)
   (aj (aT 5 aJ.nd fN)
   (aj (FR (K:=K) (i:=6) rfl rfl rfl cl a (e.mono (!2)) rfl rfl (aa (qf 0) (aa (qf 1) (aa (qf 2) (aa (qf 3) ag)))) (λY=>(al (aT 4 aJ.nd (qf 6)))) aJ.nd rfl rfl)
   (aj (cQ (PW.pt (gY (aC zA mB (qv 1) ap) (eO (aC gN z6 (qv 5) fN)))) (al i4) aF)
   (al (aR (aQ b (aa (qf 4) ag)))))))),λss R h=>?_))
 let(kvs,t,nm,tv,c,bT,bK,bH,rfl,_):=h;rfl;let(kvs,t,nm,tv,c,bT,bK,bH,rfl,hz,hk,q):=h;lk;show(c,hz,?_);lk;show yI (λY=>?_) λY=>?_
 all_goals
  lk;show .mk (jq c 0) bT bK bH rfl hk (_,rfl,q)
end
section
variable{X:Cx}{st:Stmt}
def KQ(n i:Nat):DS:=λDD env=>∃S d,env[i]?=Po (.tr S d)/\plN n d=Pq/\DD.nx (env.set i .un)
theorem IG{n i:Nat}(h:PS X st (ub (jH (o5 K n) [] E0 (bv (d5 i) iQ)))):PS X st (upS K (KQ n i)):=h.imp λD σ H h=>by
 let(M,P,H0,σ0,env,ts,DD,nv,a,(S,d,b,c,e),ok):=h;let(v,ev,ot,nd,_):=a.treeI b;show(v,ev,v,d,S,_,rfl,ot,nd,c,λG k=>ok.nx _ _ _ e (a.spoil b k))
end
def Jk(d:av):Prop:=∃s o,d=tnD s o/\Tw s o
theorem yu{α:Type}{k:ck}{x:α}:∀{l:List (ck×α)},atS l k=Po x->(k,x)∈l
 |[],h=>by cases h
 |p :: l,h=>by
  by_cases e:p.1=k;rw[atS,OG e]at h;cases h;rw[<-e];show K3;rw[atS,OH e]at h;show K5 _ (yu h)
theorem D1{c A Z:Prop} [Decidable c](h:Z)(k:c->Z->A):if c then A else Z:=by by_cases e:c;rw[OG e];show k e h;rw[OH e];show h
abbrev eM:Stmt:=top 34
theorem cy:ax ["_law_desk","_law_towns","_law_name","_law_turn","_law_k","_law_due_here","_law_found"] ["_law_desk","_law_towns","_law_name","_law_turn"] (af eM):={}
section
variable{f C cT cK cH cD cX:aG}{fd:kx}
structure qS(K:cp)(cT cK cH cD cX:aG):Prop where
 n : qR K cT cK cH cD cX .none false false false
 T : qR K cT cK cH cD cX (jq cT 0) true false false
 K' : qR K cT cK cH cD cX (jq cK 0) false true false
 H : qR K cT cK cH cD cX (jq cH 0) false false true
inductive o8 (C:aG):DSp
 |mk {ss R} (kvs:OW) (nm:ck) (t:Int):ss=[.fr (bU C kvs),.fr (cR kvs),.fr (.str nm),.fr (.int t)]->OkN nm->3<=t->t<=6->(∀p∈kvs,Jk p.2)->R (.fr (.bool true)) [.un,.un,.un,.un]->o8 C ss R
theorem lI(F:Fun K "_law_asked" "_law_asked" eM f fd)(B:Bn mg)(j:Cal P w K mg base "_law_refused" 15 (spD K (rH K C cT cK cH cD cX)))(n:Cal P w K mg base "_law_due" 13 (spD K Cu))(m:Cal P w K mg base "_law_done" 14 (spD K (o7 C)))(l:Cal P w K mg base "_law_alike" 8 (spD K (iT 6)))(p:Cal P w K mg base "_law_spoiled" 8 (o5 K 6))(G:qS K cT cK cH cD cX):aY P w K mg base CX0 16 f fd ["_law_desk","_law_towns","_law_name","_law_turn"] (spD K (o8 C)):=by
 show okD (k:=15) F cy (λss R h=>?_) (!2) (λcdv A outer s H E x=>(_,(aj (cQ (pp (qf 2) (qf 1)) (al (aR (wm (Bz (K:=K) rfl x.units) mEq (aQ j (aa (qf 0) (aa (qf 3) (aa (qf 2) (aa fN ag))))) (dR (aa gL ag))))) aF)
   (aj (cQ (PW.pt (gY (aC bM gQ (qv 3) ap) (eO (aC bM gQ (HK (jx (K:=K) rfl rfl) IV rfl B.sum p9 (aa (qx (F4 (qv 1) (qv 2)) ap) ag)) ap)))) (al (aR (wm (Bz (K:=K) rfl x.units) mEq (aQ j (aa (qf 0) (aa (qf 3) (aa (qf 2) (aa fN ag))))) (dR (aa gL ag))))) aF)
   (aj (jJ PassesOwn.never rfl (eR rfl B.range (aa ap ag)) (a8 4 cy.nd) (aj (aT 5 cy.nd (se (aQ n (aa (F4 (qv 1) (qv 2)) (aa (qf 3) ag)))))
   (aj (aT 6 cy.nd (aQ m (aa (qf 0) (aa (qf 3) (aa (qf 2) (aa fN ag))))))
   (aj (cQ (aC wL IW (qv 5) fN) (al (cQ (cB (aC gN z6 (qv 6) fN)) (al (aR sg)) aF)) (al (cQ (fG (cB (cw (aQ l (aa (qf 6) (aa (qf 5) ag)))))) (al (aR sg)) aF)))
   (al (IG (i:=6) (bO (dj p (x.mono (!2)) rfl (ak (ah rfl cA) aH)))))))))
   (al (aR sg))))),λss R h=>?_))
 let(kvs,nm,t,rfl,_):=h;rfl;let(kvs,nm,t,rfl,hn,I,y,D,q):=h;let J:∀a b c,shp (eg (jN a b c)):=!3
 let L:shp (eg [fx (dD "no town")]):=!3
 let M:shp (eg [fx (dD "hands")]):=!3
 let N:fI (.list (jN Pq Pr Pr)) (.list [fx (dD "no town")])=Pq:=!3
 let O:fI (.list (jN Pr Pr Pq)) (.list [fx (dD "hands")])=Pq:=!3
 let r:1<=sizeLine:=Ld (!2) ar;lk;show(kvs,rfl,yI (λh0=>?_) (λh0=>?_));let g:atS kvs nm=Pp:=by
  cases e:atS kvs nm with
  |none=>rfl
  |some _=>rw[e]at h0;cases h0
 show .mk kvs t nm .none cT Pq Pr Pr rfl (kvs,t,nm,.none,rfl,hn,.inr (.inl (!0,y,g,rfl))) G.T (_,rfl,r,_,_,rfl,rfl,J _ _ _,L,_,rfl,?_);rw[N];show q;obtain⟨d,g⟩:∃d,atS kvs nm=Po d:=by
  cases e:atS kvs nm with
  |none=>rw[e]at h0;show absurd rfl h0
  |some d=>show(d,rfl)
 let(s,o,rfl,tw):=D _ (yu g);lk;by_cases hz:t=6/\o.sum=0;let(e6,hs):=hz;rw[OG e6];show(nm,kvs,rfl,rfl,_,g,_,rfl,_,rfl,_,rfl,o,bt o,?_);rw[OG hs];show .mk kvs t nm .none cH Pr Pr Pq rfl (kvs,t,nm,.none,rfl,hn,.inr (.inr (s,o,e6,g,hs,rfl))) G.H (_,rfl,r,_,_,rfl,rfl,J _ _ _,M,_,rfl,?_);rw[O];show q;show D1 ?_ λe6 z=>(nm,kvs,rfl,rfl,_,g,_,rfl,_,rfl,_,rfl,o,bt o,by rw[OH λhs=>hz (e6,hs)];show z)
 let hz:t=6->o.sum≠0:=λe hs=>hz (e,hs);lk;show(!2,!2,bR (λY env=>∃a b,env=[.fr (bU C kvs),.fr (cR kvs),.fr (.str nm),.fr (.int t),a,b,.un]) (_,_,rfl) ?_ ?_)
 .rintro i env hi ⟨a,b,rfl⟩;rw[bf];lk;show(nm,kvs,rfl,rfl,_,g,.mk s o t rfl I y tw hz λd hd S=>?_);lk;show .mk kvs t nm s o rfl I y g tw hz λd' u S'=>?_;obtain rfl:=u.one hd;let v:=u.pl tw hz;lk;cases hN:ku d';rw[OH (!2)];rw[plN,hN,Oz]at v;show(d',rfl,v,Pq,rfl,?_);rw[OH (!2)];unfold dNx;show(S',d',rfl,by rw[plN,v,Mv],_,_,rfl);rw[OG rfl,OH (!2)];unfold dNx;show(S',d',rfl,v,_,_,rfl)
 .rintro env ⟨a,b,rfl⟩;lk;show q
end
abbrev dM:Stmt:=top 36
theorem fE:ax ["_law_desk","_law_towns","_law_found"] ["_law_desk","_law_towns"] (af dM):={}
section
variable{f C:aG}{fd:kx}
theorem sL:∀l:Pi,(∀x∈l,OkN x)->lc (l.map .str)=Pq
 |[],_=>rfl
 |x :: l,h=>by
  let a:=h x K3;let e:eN (.str x)=Pq:=by
   show x.cps.all (·<0x110000)=Pq;rw[Array.all_eq_true_iff_forall_mem]
   exactλc hc=>decide_eq_true (Iv (a.asc c (NF.mpr hc)) (!2))
  show(eN (.str x)&&lc (l.map .str))=Pq;rw[e,sL l λy b=>h y (K5 _ b)];rfl
theorem tM:∀l:Pi,MK (l.map .str)=0
 |[]=>rfl
 |x::l=>by simp[MK,su,tM l]
theorem y3(l:Pi)(h:∀x∈l,OkN x):shp (.list (l.map .str)):=by simp[shp,pB,eN,su,sL l h,tM]
theorem l3:∀l:Pi,fI (.list (l.map .str)) (.list (l.map .str))=Pq
 |[]=>rfl
 |x::l=>by
  let:=l3 l;simp only[fI]at this;simp[fI,ny,this]
inductive kR (C:aG):DSp
 |mk {ss R} (kvs:OW):ss=[.fr (bU C kvs),.fr (cR kvs)]->kvs.length<64->(∀p∈kvs,OkN p.1)->R (.fr (.bool true)) [.un,.un]->kR C ss R
theorem jL(F:Fun K "_law_listed" "_law_listed" dM f fd)(B:Bn mg)(a:mj P w K mg base C "names" 1 (spD K (kQ C))):aY P w K mg base CX0 6 f fd ["_law_desk","_law_towns"] (spD K (kR C)):=by
 show okD (k:=5) F fE (λss R h=>?_) (!2) (λcdv A outer s H E c=>(_,(aj (aT 2 fE.nd (wb a rfl (c.mono (!2)) (qv 0)))
   (aj (cQ (PW.pt (FO (fG (cw (lh (K:=K) rfl dW rfl B.isinstance rfl B.list ls (qv 2)))) (Bc (aC (Je (K:=K) rfl c.units) mNe (qv 2) (v7 rfl rfl B.sorted (aa (qv 1) ag)))))) (al (aR sg)) aF)
   (aj (cW (jK 2 (K:=K) rfl rfl gL))
   (al (aR (wm (Bz (K:=K) rfl c.units) mEq (wb a rfl (c.mono (!2)) (qv 0)) (v7 rfl rfl B.sorted (aa (qv 1) ag)))))))),λss R h=>?_))
 let(kvs,rfl,_):=h;rfl;let(kvs,rfl,b,hn,q):=h;lk;let pm:=mH (kvs.map (·.1));let ok:shp (.list ((yW (kvs.map (·.1))).map .str)):=y3 _ λx hx=>by
  let(p,e,rfl):=Lo.mp (pm.mem_iff.mp hx);show hn p e
 let lk:(yW (kvs.map (·.1))).length<64:=by rw[pm.length_eq,K4];show b
 let d:=ar;show((_,rfl),.mk kvs rfl b (_,!2,rfl,?_));lk;show(kvs,rfl,b,ok,ok,?_);rw[l3,OH (!2)];lk;show(by rw[K4];show Lg (!0) d,?_);lk;show((_,rfl),.mk kvs rfl b ?_);lk;show(kvs,rfl,b,ok,ok,by rw[l3];show q)
end
set_option maxHeartbeats 1000000
noncomputable def dO7:OQ:=[[1],[2],[0],[2,0],[0,2],[1,1],[1,0]]
def va(n:Int):O7:=dO7.getD (n / 12 % 7).toNat []
noncomputable def twS(n:Int):O7:=if n / 84 % 2=0 then [1+n / 4 % 3,1+n / 168 % 3] else [1+n / 4 % 3]
def twO(n:Int):O7:=if n / 84 % 2=0/\va n=[1,0] then [1] else va n
def twB:Bool:=(dm 3).all λa=>(dm 3).all λb=>(dm 7).all λc=>(dm 2).all λd=>decide ((if ((d:Nat):Int)=0 then [1+((a:Nat):Int),1+((b:Nat):Int)] else [1+((a:Nat):Int)])∈eG /\
  ((if ((d:Nat):Int)=0/\dO7.getD (((c:Nat):Int)).toNat []=[1,0] then [1] else dO7.getD (((c:Nat):Int)).toNat [])∈fP\/(if ((d:Nat):Int)=0/\dO7.getD (((c:Nat):Int)).toNat []=[1,0] then [1] else dO7.getD (((c:Nat):Int)).toNat [])=[0]) /\
  ((if ((d:Nat):Int)=0 then [1+((a:Nat):Int),1+((b:Nat):Int)] else [1+((a:Nat):Int)]).length=2->(if ((d:Nat):Int)=0/\dO7.getD (((c:Nat):Int)).toNat []=[1,0] then [1] else dO7.getD (((c:Nat):Int)).toNat [])≠[1,0]))
theorem Fs(n:Int):Tw (twS n) (twO n):=by
 let fin:∀k:Int,0<k->∀x:Int,∃m:Nat,m<k.toNat/\x % k=m:=λk hk x=>((x % k).toNat,by let:=LO x hk;let:=LV x (show k≠0 by lia);lia,by let:=LV x (show k≠0 by lia);lia)
 unfold Tw twS twO va
 cbv;let(a,e,f):=fin 3 (!2) (n / 4);let(b,g,h):=fin 3 (!2) (n / 168);let(c,hc,i):=fin 7 (!2) (n / 12);let(d,hd,j):=fin 2 (!2) (n / 84)
 w_up;rw[f,h,i,j];let q:twB=Pq:=!3
 unfold twB at q;simp only[LN,LP,decide_eq_true_eq]at q;show q a e b g c hc d hd
def xR(kvs:KD)(nm:ck)(n:Int):KD :=
 if (atS kvs nm).isSome=Pq then (if n % 4 % 3=1 then putS kvs nm (tnD (twS n) (twO n)) else if n % 4 % 3=2 then dropS kvs nm else kvs)
 else if n % 4 % 3=0 then putS kvs nm (tnD (twS n) (twO n)) else kvs
structure HD(kvs:KD)(nm:ck)(n:Int):Prop where
 nm : OkN nm
 n0 : 0<=n
 tw : ∀p∈kvs,Jk p.2
 nd : (kvs.map (·.1)).Nodup
 len:kvs.length<1000000
theorem Jj{c A:Prop} [Decidable c]{Z:Pf->Prop}{env:Pf}(P:Pf->Prop)(h:∀env,P env->Z env)(a:¬c->P env)(k:c->(∀env,P env->Z env)->A):if c then A else Z env:=by by_cases e:c;rw[OG e];show k e h;rw[OH e];show h _ (a e)
theorem Ji{c d A e1 e2 e3:Prop} [Decidable c] [Decidable d]{Z:Pf->Prop}{env:Pf}(P:Pf->Prop)(h:∀env,P env->Z env)(x:e1)(y:e2)(w:e3)(a:¬(c/\d)->P env)(k:c->d->(∀env,P env->Z env)->A):if c then e1/\e2/\e3/\(if d then A else Z env) else Z env:=by by_cases e:c;rw[OG e];show(x,y,w,?_);by_cases f:d;rw[OG f];show k e f h;rw[OH f];show h _ (a λz=>f z.2);rw[OH e];show h _ (a λz=>e z.1)
theorem GD:∀o∈dO7,-o<=2/\shp (eg (li o))/\(fI (.list (li o)) (.list [.int 1,.int 0])=Pq↔o=[1,0]):=!3
theorem u9(n:Int):((li (twS n)).length:Int)=2↔n / 84 % 2=0:=by unfold twS;by_cases h:n / 84 % 2=0;rw[OG h];show(λY=>h,λY=>rfl);rw[OH h];show(λz=>by revert z;show((1:Nat):Int)=2->_;lia,λz=>(h z).elim)
theorem yQ(n:Int):va n∈dO7:=by
 let e7:=LV (n / 12) (show(7:Int)≠0 by decide);let a:=LO (n / 12) (show(0:Int)<7 by decide);let hl:(n / 12 % 7).toNat< -dO7:=by show _<7;lia
 unfold va;rw[Lb,K8 hl];show cE hl
abbrev fM:Stmt:=top 35
theorem bw:ax ["_law_desk","_law_towns","_law_name","_law_number","_law_turn","_law_town","_law_due_here","_law_handed"] ["_law_desk","_law_towns","_law_name","_law_number"] (af fM):={}
section
variable{f C cT cK cH cD cX:aG}{fd:kx}
theorem mX(F:Fun K "_law_deed" "_law_deed" fM f fd)(B:Bn mg)(x:Cal P w K mg base "_law_refused" 15 (spD K (rH K C cT cK cH cD cX)))(y:Cal P w K mg base "_law_refused" 4 (vq K C))(Q:qS K cT cK cH cD cX):aY P w K mg base CX0 16 f fd ["_law_desk","_law_towns","_law_name","_law_number"] (spM K (rK C HD xR)):=by
 show Ku (k:=15) F bw (λss R h=>?_) (λcdv A outer s H E I=>(_,(aj (aT 4 bw.nd (bJ bu mIC (bJ bu mIC (qv 3) ap) ap))
   (aj (aT 5 bw.nd (CS (K:=K) dO7 rfl (by rfl) (!2) (!2) (bJ bY mI ap (bJ bu mIC (bJ dU mIC (qv 3) ap) ap)) (bJ bu mIC (bJ dU mIC (qv 3) ap) ap) (λ_ _=>rfl)))
   (aj (cQ (aC bM gQ (bJ bu mIC (bJ dU mIC (qv 3) ap) ap) ap) (al (pq (i:=5) (c:=0) (bO (kBm (K:=K) rfl ef h5 hY dw (gi (ff (K:=K) rfl) (ah (i:=5) rfl cA) ci (λ_ _=>rfl)) (ak (bJ bY mI ap (bJ bu mIC (bJ dU mIC (qv 3) ap) ap)) aH))))) aF)
   (aj (cQ (cB (PW.pt (gY (aC bM gQ (uo B.len (qx (qv 5) ap)) ap) (eO (aC (Bz (K:=K) rfl I.units) mEq (qx (qv 5) ap) (dR (aa ap (aa ap ag)))))))) (al (CM (i:=5) (c:=1) (bO (Jh (K:=K) rfl ef oG oy wX (gi (ff (K:=K) rfl) (ah (i:=5) rfl cA) ci (λ_ _=>rfl)))))) aF)
   (aj (aT 6 bw.nd (dR ag))
   (aj (cQ (cB (PW.pt (gY (aC bM gQ (qv 4) ap) (eO (Bd (qf 2) (qf 1)))))) (al (aT 6 bw.nd (dR (aa gL ag)))) aF)
   (aj (cQ (cB (PW.pt (gY (aC IQ mB (qv 4) ap) (eO (pp (qf 2) (qf 1)))))) (al (aT 6 bw.nd (dR (aa gL ag)))) aF)
   (aj (aT 7 bw.nd (CZ (j4 (aa (fj (K:=K) rfl rfl B.list (aa (qx (qv 5) ap) ag)) (aa (fj (K:=K) rfl rfl B.list (aa (qx (qv 5) ap) ag)) ag)))))
   (aj (cQ (FP (cB (aC (Je (K:=K) rfl I.units) mNe (aQ x (aa (qf 0) (aa (qf 4) (aa (qf 2) (aa (qf 7) ag))))) (qv 6))) (CK (i:=0) (it:=4) (ik:=2) (ih:=7) (iz:=6) (cm (Je (K:=K) rfl I.units) (dj y (I.mono (!2)) rfl (ak (ah (i:=0) rfl cA) (ak (ah (i:=4) rfl cA) (ak (ah (i:=2) rfl cA) (ak (ah (i:=7) rfl cA) aH))))) (ah (i:=6) rfl cA) (ia _)))) (al (aR sg)) aF)
   (aj (pq (i:=7) (c:=0) (bO (kBm (K:=K) rfl ef h5 hY dw (gi (ff (K:=K) rfl) (ah (i:=7) rfl cA) ci (λ_ _=>rfl)) (ak (ap (K:=K)) aH))))
   (aj (pq (i:=7) (c:=1) (bO (kBm (K:=K) rfl ef h5 hY dw (gi (ff (K:=K) rfl) (ah (i:=7) rfl cA) ci (λ_ _=>rfl)) (ak (ap (K:=K)) aH))))
   (aj (cQ (PW.pt (gY (aC (Bz (K:=K) rfl I.units) mEq (qv 6) (dR ag)) (eO (aC zA mB (qv 4) ap)))) (al (CN (i:=1) (k:=2) (j:=5) (mS (ah (i:=5) rfl cA) (mT (ah (i:=1) rfl cA) (ah (i:=2) rfl cA) Cy)))) aF)
   (aj (cQ (PW.pt (gY (aC (Bz (K:=K) rfl I.units) mEq (qv 6) (dR ag)) (eO (aC bM gQ (qv 4) ap)))) (al (CO (i:=1) (k:=2) (bO (zu M1 sj Ng wW (ah (i:=1) rfl cA) (ak (ah (i:=2) rfl cA) aH))))) aF)
   (al (aR sg))))))))))))))),λss R h=>?_))
 let(S1,S2,kvs,nm,n,rfl,_):=h;rfl;let(S1,S2,kvs,nm,n,rfl,Z,q):=h;let(hn,n0,S,M,hl):=Z;lk;show(!2,!2,?_);lk;let m:1<=sizeLine/\2<=sizeLine:=(Ld (!2) ar,Ld (!2) ar)
 let cd:∀k:Int,0<k->k<=1000->JX n k:=λk hk a0=>by unfold JX;lia
 let e7:=LV (n / 12) (show(7:Int)≠0 by decide);let l7:=LO (n / 12) (show(0:Int)<7 by decide);let U:(fB dO7)[(n / 12 % 7).toNat]?=Po (.list (li (va n))):=by
  let hl:(n / 12 % 7).toNat< -dO7:=by show _<7;lia
  rw[k8 (r:=va n)];unfold va;rw[Lb,K8 hl];rfl
 show(cd 4 (!2) (!2),!2,m.1,λ_=>(cd 12 (!2) (!2),!2,(n / 12 % 7).toNat,!0,_,U,λ_=>(m.2,λv=>?_)));lk;show(cd 84 (!2) (!2),!2,Jj (λenv=>∃v,env=[.tr S1 (bU C kvs),.tr S2 (cR kvs),.fr (.str nm),.fr (.int n),.fr (.int (n % 4 % 3)),.tr v (tnD (twS n) (va n)),.un,.un]) ?_ (λhc=>(v,?_)) (λhc z=>([[1+n / 4 % 3],va n],rfl,_,rfl,(by show 1<=1000000;decide),cd 168 (!2) (!2),!2,z _ (v,?_))))
 rotate_left
 rw[twS,OH hc];rfl;rw[twS,OG hc];rfl;rintro env ⟨v,rfl⟩;lk;let(ol,os,V):=GD _ (yQ n);show Ji (λenv=>∃v,env=[.tr S1 (bU C kvs),.tr S2 (cR kvs),.fr (.str nm),.fr (.int n),.fr (.int (n % 4 % 3)),.tr v (tnD (twS n) (twO n)),.un,.un]) ?_ m.2 os (!3) (λhc=>(v,?_)) (λh1 h2 z=>([twS n,va n],rfl,[1],0,?_,z _ (v,?_)))
 rotate_left
 rw[twO,OH λw=>hc ((u9 n).mpr w.1,V.mpr w.2)];rw[V.mp h2];rfl;rw[twO,OG ((u9 n).mp h1,V.mp h2)];rfl;clear v;rintro env ⟨v,rfl⟩;let tw:=Fs n;let ht:n % 4 % 3=0\/n % 4 % 3=1\/n % 4 % 3=2:=!0
 unfold xR at q
 cbv;generalize twS n=s at *;generalize twO n=o at *;generalize n % 4 % 3=t at *
 w_up;lk;show(Ln _,?_);let u:∀p∈kvs,noF p.2=Pq:=λp hp=>by
  let(s,o,e,_):=S p hp;rw[e];show mZ s o
 let D:-s<=1000000:=(by decide:∀s∈eG,-s<=1000000) s tw.1;let lo:-o<=1000000:=tw.2.1.elim ((by decide:∀o∈fP,-o<=1000000) o) λz=>by rw[z];decide
 let N:(atS kvs nm).isSome=Pr->atS kvs nm=Pp:=λz=>by
  cases e:atS kvs nm with
  |none=>rfl
  |some _=>rw[e]at z;cases z
 let W:∀a b c,shp (eg (jN a b c)):=!3
 let J:shp (eg [fx (dD "no town")]):=!3
 let X:shp (eg [fx (dD "taken")]):=!3
 let Y:fI (.list (jN Pq Pr Pr)) (.list [fx (dD "no town")])=Pq:=!3
 let eK:fI (.list (jN Pr Pq Pr)) (.list [fx (dD "taken")])=Pq:=!3
 cases hs:(atS kvs nm).isSome
 all_goals
  rw[hs]at q;rcases ht with rfl|rfl|rfl
 all_goals
  lk
  first|rw[OH (!2)]|(try rw[OG (!2)]);show(kvs,rfl,?_);rw[hs];first|rw[OH (!2)]|(rw[OG (!2)];show(m.1,?_))
  lk
  first|rw[OH (!2)]|(try rw[OG (!2)]);show(kvs,rfl,?_);rw[hs];first|rw[OH (!2)]|(rw[OG (!2)];show(m.1,?_))
  lk;show(m.2,λ_=>(by rw[bC,bC];rfl,λS7=>?_));lk
 all_goals let d:shp (eg []):=!3
 all_goals let L:fI (.list []) (.list [])=Pq:=!3
 all_goals let G:¬fI (.list [fx (dD "no town")]) (.list [])=Pq:=!3
 all_goals let O:¬fI (.list [fx (dD "taken")]) (.list [])=Pq:=!3
 .show .inr (kvs,rfl,s,rfl,o,rfl,u,M,hl,D,lo,.inr (.inl (rfl,hs),λS1' g=>?_));lk;show([s,o],rfl,s,rfl,D,?_);lk;show([s++[1],o],rfl,o,rfl,lo,?_);lk;show(Ln _,d,d,?_);rw[OG L,OG (!2)];show(!2,kvs,rfl,u,by rw[bC,bC];rfl,M,hl,λS2' l=>?_);lk;show(Ln _,d,d,?_);rw[OG L,OH (!2)];lk
  first|show q _ _ _ rfl g rfl l|show(rfl,q _ _ _ rfl g rfl l)
 .show .inl (.mk kvs 1 nm (tnD s o) cT Pq Pr Pr rfl (kvs,1,nm,tnD s o,rfl,hn,.inr (.inl (!2,!2,N hs,rfl))) Q.T (_,rfl,_,_,rfl,rfl,W _ _ _,J,Pr,by rw[Y];rfl,?_));rw[OH (!2)];lk;show([s,o],rfl,s,rfl,D,?_);lk;show([s++[1],o],rfl,o,rfl,lo,?_);lk;show(Ln _,J,d,?_);rw[OH G];lk;show(Ln _,J,d,?_);rw[OH G];lk
  first|show q _ _ _ rfl rfl rfl rfl|show(rfl,q _ _ _ rfl rfl rfl rfl)
 .show .inl (.mk kvs 2 nm (tnD s o) cT Pq Pr Pr rfl (kvs,2,nm,tnD s o,rfl,hn,.inr (.inl (!2,!2,N hs,rfl))) Q.T (_,rfl,_,_,rfl,rfl,W _ _ _,J,Pr,by rw[Y];rfl,?_));rw[OH (!2)];lk;show([s,o],rfl,s,rfl,D,?_);lk;show([s++[1],o],rfl,o,rfl,lo,?_);lk;show(Ln _,J,d,?_);rw[OH G];lk;show(Ln _,J,d,?_);rw[OH G];lk
  first|show q _ _ _ rfl rfl rfl rfl|show(rfl,q _ _ _ rfl rfl rfl rfl)
 .show .inl (.mk kvs 0 nm (tnD s o) cK Pr Pq Pr rfl (kvs,0,nm,tnD s o,rfl,hn,.inl (rfl,hs,rfl)) Q.K' (_,rfl,_,_,rfl,rfl,W _ _ _,X,Pr,by rw[eK];rfl,?_));rw[OH (!2)];lk;show([s,o],rfl,s,rfl,D,?_);lk;show([s++[1],o],rfl,o,rfl,lo,?_);lk;show(Ln _,X,d,?_);rw[OH O];lk;show(Ln _,X,d,?_);rw[OH O];lk
  first|show q _ _ _ rfl rfl rfl rfl|show(rfl,q _ _ _ rfl rfl rfl rfl)
 .show .inr (kvs,rfl,s,rfl,o,rfl,u,M,hl,D,lo,.inr (.inr (rfl,hs),λS1' g=>?_));lk;show([s,o],rfl,s,rfl,D,?_);lk;show([s++[1],o],rfl,o,rfl,lo,?_);lk;show(Ln _,d,d,?_);rw[OG L,OG (!2)];show(!2,kvs,rfl,u,by rw[bC,bC];rfl,M,hl,λS2' l=>?_);lk;show(Ln _,d,d,?_);rw[OG L,OH (!2)];lk
  first|show q _ _ _ rfl g rfl l|show(rfl,q _ _ _ rfl g rfl l)
 .show .inr (kvs,rfl,s,rfl,o,rfl,u,M,hl,D,lo,.inl (rfl,hs,λS1' g=>?_));lk;show([s,o],rfl,s,rfl,D,?_);lk;show([s++[1],o],rfl,o,rfl,lo,?_);lk;show(Ln _,d,d,?_);rw[OG L,OH (!2)];lk;show(Ln _,d,d,?_);rw[OG L]
  try rw[OG (!2)]
  show(kvs,rfl,u,hs,λS2' l=>?_);lk
  first|show q _ _ _ rfl g rfl l|show(rfl,q _ _ _ rfl g rfl l)
end
abbrev cV:Stmt:=top 26
theorem aP:ax ["_law_script","_law_turn","_law_many","_law_cells","_law_found","_law_left","_law_k","_law_at","_law_place","_law_number"] ["_law_script","_law_turn","_law_many"] (af cV):={}
def Dr(m:Nat)(l:O7):Prop:=-l=m/\∀x∈l,0<=x/\x<2147483587
theorem Dr.app{m:Nat}{l:O7}{x:Int}(h:Dr m l)(h0:0<=x)(h1:x<2147483587):Dr (m+1) (l++[x]):=by show(by simp[h.1],λy a=>?_);rcases K2.mp a with a|a;show h.2 y a;rw[K7.mp a];show(h0,h1)
def vx:DSp:=λss R=>∃(ns:O7) (t m:Nat),ss=[.fr (.list (li ns)),.fr (.int t),.fr (.int m)]/\ns.length<=63/\t<=5000/\m<=5000/\∀l,Dr m l->R (.ow (li l)) [.un,.un,.un]
theorem JL(ns:O7)(h:-ns<=63):B0 (li ns) Pp (Po 63)=li ns:=by unfold B0;let e:HT.sIx (li ns).length (li ns).length (Po 63)=min 63 (li ns).length:=HT.sIx_nat _ _ 63;rw[e,HT.sIx_none,K4,M3,Nat.sub_zero,MT h];show LY (!1)
theorem lG{f:aG}{fd:kx}(F:Fun K "_law_draws" "_law_draws" cV f fd)(B:Bn mg):aY P w K mg base CX0 2 f fd ["_law_script","_law_turn","_law_many"] (spD K vx):=by
 show okD (k:=1) F aP (λss R h=>?_) (!2) (λcdv A outer s H E z=>(_,(aj (aT 3 aP.nd (CW (lB (K:=K) rfl) IY (FV (K:=K) rfl (qv 0) vU (vT ap)) (dR (aa (qf 1) ag))))
   (aj (aT 4 aP.nd (dR ag))
   (aj (cQ (aC bM gQ (bJ bu mIC (bJ dU mIC (qx (qv 3) ap) ap) ap) ap) (aj (iZ 5 aP.nd (NN:=_::_) (sc0:=af cV) (N':=["_law_cell"]) (ix:=[Pp]) (dQ (qf 3)) (λY Y Y Y=>(a8 0 (!4))) (λY Y Y Y=>(bJ dU mIC (qv 0) ap)))
   (aj (jJ PassesOwn.never rfl (eR rfl B.range (aa (bJ bY mI (qv 1) (qv 2)) ag)) (a8 6 aP.nd) (aj (aT 7 aP.nd (bJ bu mIC (qv 6) (uo B.len (qv 5))))
   (iY (cQ (aC IR mB (qv 6) (qv 1)) (al (cW (jK 4 (K:=K) rfl rfl (bJ bu mIC (qx (qv 5) (qv 7)) ap)))) aF)
   (al (CU 5 rfl (qv 7) (bJ zB mIC (qx (qv 5) (qv 7)) ap))))))
   (al (aR (qv 4))))) aF)
   (aj (jJ PassesOwn.never rfl (eR rfl B.range (aa (qv 2) ag)) (a8 6 aP.nd) (aj (aT 8 aP.nd (bJ bY mI (bJ hZ mIC (bJ hZ mIC (bJ bY mI (qv 6) (qv 1)) (bJ bY mI (qv 6) (qv 1))) ap) ap))
   (aj (aT 9 aP.nd (bJ bu mIC (bJ hZ mIC (bJ bY mI (bJ bu mIC (qx (qv 3) (bJ bu mIC (qv 6) (uo B.len (qv 3)))) ap) (qv 8)) ap) ap))
   (aj (aT 9 aP.nd (bJ bu mIC (bJ bY mI (bJ hZ mIC (qv 9) (qv 9)) (bJ hZ mIC ap (qv 6))) ap))
   (al (cW (jK 4 (K:=K) rfl rfl (bJ bu mIC (bJ hZ mIC (qv 9) (qv 9)) ap))))))))
   (al (aR (qv 4))))))),λss R h=>?_))
 let(ns,t,m,rfl,_):=h;rfl;let(ns,t,m,rfl,n,C,D,q):=h;lk;rw[JL ns n];let u:li ns++[fy (t:Int)]=li (ns++[(t:Int)]):=!1
 rw[u];obtain⟨cs,l⟩:∃cs:O7,cs=ns++[(t:Int)]:=(_,rfl)
 let r:-cs=-ns+1:=by rw[l];simp
 rw[<-l];show(!2,?_,?_);rw[K4];show Ld (!0) ar;lk;show(!2,?_);lk;show(_,iw (k:=0) (!0),?_);lk;show((!2,!2),!2,yI (λY=>?_) (λY=>?_))
 .show iu (λi=>.int (cs.getD i 0 / 100000)) (by rw[K4];lia) (λi hi Q v=>?_) ?_
  .rw[sF];lk;show((!2,!2),v)
  lk;let y:(dm (li cs).length).map (λi=>fy (cs.getD i 0 / 100000))=li ((dm (-cs)).map λi=>cs.getD i 0 / 100000):=by rw[K4];show _=i1 _ (i1 _ _);rw[LA];rfl
  rw[y];show(!0,!0,bR (λi env=>∃(fs d:O7) (kv o:Sl),env=[.fr (.list (li ns)),.fr (.int t),.fr (.int m),.fr (.list (li cs)),.ow (li fs),.ow (li d),kv,o,.un,.un]/\d.length=-cs/\Dr (i-t) fs) ([],_,_,_,rfl,!1,(!1,λx hx=>by cases hx)) ?_ ?_)
  .rintro i env hi ⟨fs,d,kv,o,rfl,hl,g⟩;rw[aI]at hi;rw[bf];let e:i % (-d)< -d:=N5 _ (!0);let hk:i-t<=5000:=!0
   lk;rw[K4];let ei:((i:Nat):Int) % ((-d:Nat):Int)=((i % (-d):Nat):Int):=rfl;show(!0,nx ?_);show(λenv'=>∃j:O7,env'=[.fr (.list (li ns)),.fr (.int t),.fr (.int m),.fr (.list (li cs)),.ow (li j),.ow (li d),.fr (.int i),.fr (.int ((i % (-d):Nat):Int)),.un,.un]/\Dr (i+1-t) j,?_,?_)
   .rw[ei];lk;show yI (λc=>?_) (λc=>?_)
    .show(_,iw e,?_);lk;show(!2,by rw[K4,g.1];show Lg (!0) ar,fs++[d.getD (i % (-d)) 0 % 2147483587],!1,?_);let:=g.app (LV (d.getD (i % (-d)) 0) (by decide:(2147483587:Int)≠0)) (LO _ (!2));rwa [show i+1-t=i-t+1 by lia]
    show(fs,rfl,?_);rwa [show i+1-t=i-t by lia]
   .rintro env' ⟨j,rfl,p⟩;lk;show(_,iw e,?_);lk;show((!2,Bg.of (!2) (!2)),_,by rw[K4];show DZ e,j,rfl,d.set (i % (-d)) (d.getD (i % (-d)) 0 / 2147483587),GI _ _ _,by rw[LL];show hl,p)
  .rintro env ⟨fs,d,kv,o,rfl,hl,g⟩;rw[aI]at g;lk;show q fs (by rwa [show((t:Int)+(m:Int)).toNat-t=m by lia]at g)
 .lk;show(!0,!0,bR (λi env=>∃(fs:O7) (kv pv nv:Sl),env=[.fr (.list (li ns)),.fr (.int t),.fr (.int m),.ow (li cs),.ow (li fs),.un,kv,.un,pv,nv]/\Dr i fs) ([],_,_,_,rfl,rfl,λx hx=>by cases hx) ?_ ?_)
  .rintro i env hi ⟨fs,kv,pv,nv,rfl,g⟩;rw[aI]at hi;rw[bf];let hi:i<m:=!0
   let e:i % (-cs)< -cs:=N5 _ (!0);lk;show(kE (!0) (!0),B1 (!2) (!2),?_);lk;rw[K4];let ei:((i:Nat):Int) % ((-cs:Nat):Int)=((i % (-cs):Nat):Int):=rfl;rw[ei];show(!0,_,iw e,?_);lk;generalize (cs.getD (i % (-cs)) 0 % 2147483647+(((i:Int)+t)*(i+t)*7919+104729))*48271=a;let G:=LV a (by decide:(2147483647:Int)≠0);let a1:=LO a (by decide:(0:Int)<2147483647);generalize a % 2147483647=a at *;show(!2,B1 (!2) (!2),!2,?_);lk;let I:=LV (a*a+69621*i) (by decide:(2147483629:Int)≠0);let b1:=LO (a*a+69621*i) (by decide:(0:Int)<2147483629);generalize (a*a+69621*i) % 2147483629=b at *;show(kE (!0) (!0),kE (!2) (!2),!2,?_);lk;show(kE (!0) (!0),!2,by rw[K4,g.1];show Lg (!0) ar,fs++[b*b % 2147483587],!1,g.app (LV _ (!2)) (LO _ (!2)))
  .rintro env ⟨fs,kv,pv,nv,rfl,g⟩;rw[aI]at g;lk;show q fs (by simpa using g)
structure KI(nms:Pi)(i:Nat)(kvs:KD):Prop where
 k : ∀p∈kvs,p.1∈nms
 t : ∀p∈kvs,Jk p.2
 nd : (kvs.map (·.1)).Nodup
 len:kvs.length<=i
theorem KI.keys_put{kvs:KD}{nm:ck}{d:av}(h:(kvs.map (·.1)).Nodup):((putS kvs nm d).map (·.1)).Nodup:=by
 unfold putS;split;rw[LA,L6 (g:=(·.1)) λp Y=>by
  by_cases e:p.1=nm <;> simp[e]]
 show h;rename_i c;rw[Lw];show K6.mpr (h,!1,λa i b f z=>c ?_);rw[qM,MP];let(p,j,e):=Lo.mp i;let f:b=nm:=by simpa using f
 show(p,j,decide_eq_true (by rw[e,z,f]))
theorem zh{kvs:KD}{nm:ck}{d:av}{p:ck×av}(h:p∈putS kvs nm d):(∃q∈kvs,q.1=p.1)\/p.1=nm:=by
 unfold putS at h;split at h;let(q,a,e):=Lo.mp h;show .inl (q,a,?_);rw[<-e];split <;> rfl
 rcases K2.mp h with h|h;show .inl (p,h,rfl);rw[K7.mp h];show .inr rfl
theorem KI.step{nms:Pi}{i:Nat}{kvs:KD}{nm:ck}{n:Int}(h:KI nms i kvs)(c:nm∈nms):KI nms (i+1) (xR kvs nm n):=by
 let b:KI nms (i+1) (putS kvs nm (tnD (twS n) (twO n))):=(λp a=>(zh a).elim (λz=>by let(q,d,e):=z;rw[<-e];show h.k q d) (λz=>by rw[z];show c),λp a=>(ll a).elim (h.t p) λz=>(_,_,z,Fs n),KI.keys_put h.nd,by let:=sI kvs nm (tnD (twS n) (twO n));let:=h.len;lia)
 let st:KI nms (i+1) kvs:=(h.k,h.t,h.nd,by let:=h.len;lia)
 let f:KI nms (i+1) (dropS kvs nm):=(λp a=>h.k p (gv a),λp a=>h.t p (gv a),h.nd.sublist (List.filter_sublist.map _),by let:=ni kvs nm;let:=h.len;lia)
 unfold xR;split;split;show b;split;show f;show st;split;show b;show st
abbrev CB:Stmt:=top 37
theorem fD:ax ["_law_script","_law_draws_here","_law_names_here","_law_desk","_law_beside","_law_towns","_law_k","_law_name","_law_turn"] ["_law_script"] (af CB):={}
section
variable{f C:aG}{fd:kx}
inductive kT:DSp
 |mk {ss R} (ns:O7):ss=[.fr (.list (li ns))]->ns.length<=63->R (.fr (.bool true)) [.un]->kT ss R
theorem GC(F:Fun K "law" "law" CB f fd)(B:Bn mg)(d:Cal P w K mg base "_law_draws" 2 (spD K vx))(g:Cal P w K mg base "_law_names" 2 (spD K o6))(u:JV P w K mg base C "Desk" 1 (Ct C))
  (y:Cal P w K mg base "_law_deed" 16 (spM K (rK C HD xR))) (r:Cal P w K mg base "_law_asked" 16 (spD K (o8 C))) (m:Cal P w K mg base "_law_listed" 6 (spD K (kR C))):aY P w K mg base CX0 18 f fd ["_law_script"] (spD K kT):=by
 show okD (k:=17) F fD (λss R h=>?_) (!2) (λcdv A outer s H E O=>(_,(aj (aT 1 fD.nd (aQ d (aa (qf 0) (aa ap (aa ap ag)))))
   (aj (aT 2 fD.nd (aQ g (aa (qx (qv 1) ap) ag)))
   (aj (aT 3 fD.nd (Bh (Bk u (O.mono (!2)) rfl)))
   (aj (aT 4 fD.nd (Bh (Bk u (O.mono (!2)) rfl)))
   (aj (aT 5 fD.nd (IK pK))
   (aj (jJ PassesOwn.never rfl (eR rfl B.range (aa (bJ bu mIC (qx (qv 1) ap) ap) ag)) (a8 6 fD.nd) (aj (aT 7 fD.nd (qx (qv 2) (bJ bu mIC (qx (qv 1) (qv 6)) ap)))
   (aj (cQ (fG (CL (i:=3) (j:=5) (k:=7) (sh (dj y (O.mono (!2)) rfl (ak (ah (i:=3) rfl cA) (ak (ah (i:=5) rfl cA) (ak (ah (i:=7) rfl cA) (ak (bJ dU mIC (qx (qv 1) (qv 6)) ap) aH)))))))) (al (aR sg)) aF)
   (al (cQ (fG (cB (cw (aQ r (aa (qf 3) (aa (qf 5) (aa (qx (qv 2) (bJ bu mIC (qx (qv 1) (bJ bY mI ap (bJ bu mIC (qv 6) ap))) ap)) (aa (bJ bY mI ap (bJ bu mIC (bJ dU mIC (qx (qv 1) (bJ bY mI ap (bJ bu mIC (qv 6) ap))) ap) ap)) ag)))))))) (al (aR sg)) aF)))))
   (aj (jJ PassesOwn.never rfl (dQ (qf 2)) (a8 7 fD.nd) (al (jJ PassesOwn.never rfl (CQ rfl B.range (aa ap (aa ap ag))) (a8 8 fD.nd) (al (cQ (fG (cB (cw (aQ r (aa (qf 3) (aa (qf 5) (aa (qf 7) (aa (qf 8) ag)))))))) (al (aR sg)) aF)))))
   (al (aR (wd (zf (aQ m (aa (qf 3) (aa (qf 5) ag))) (CY (aQ m (aa (qf 4) (aa (Ga pK) ag))))))))))))))),λss R h=>?_))
 let(ns,rfl,_):=h;rfl;let(ns,rfl,hl,q):=h;lk;show(ns,2,41,rfl,hl,!2,!2,λl hD=>(_,!2,rfl,?_));lk;let v:∀k:Int,0<=k->k<41->∃x,atI (li l) k=Po (.int x)/\0<=x/\x<2147483587:=λk h0 h1=>by
  let hk:k.toNat< -l:=by rw[hD.1];lia
  let q:atI (li l) ((k.toNat:Nat):Int)=Po (.int l[k.toNat]):=bx (by rw[LD,K8 hk];rfl);rw[show((k.toNat:Nat):Int)=k by lia]at q;show(l[k.toNat],q,hD.2 _ (cE hk))
 let(Q,S,T,U):=v 40 (!2) (!2);let(V,W,a5,a6):=v 39 (!2) (!2);show(_,S,.mk Q rfl T U λnms hN=>(_,!2,rfl,?_));let G:∀x:Int,0<=x->∃nm,atI (nms.map fx) (x % 5)=Po (.str nm)/\nm∈nms:=λx h0=>by
  let e:=LV x (show(5:Int)≠0 by decide);let e':=LO x (show(0:Int)<5 by decide);let hk:(x % 5).toNat< -nms:=by rw[hN.len];lia
  let q:atI (nms.map fx) (((x % 5).toNat:Nat):Int)=Po (.str nms[(x % 5).toNat]):=bx (by rw[LD,K8 hk];rfl);rw[show(((x % 5).toNat:Nat):Int)=x % 5 by lia]at q;show(nms[(x % 5).toNat],q,cE hk)
 lk;intro I;lk;intro X;lk;intro z;lk;show(_,W,V,rfl,!2,!0,!0,bR (λi env=>∃I z kvs a b,env=[.fr (.list (li ns)),.ow (li l),.ow (nms.map .str),.tr I (bU C kvs),.tr X (bU C []),.tr z (cR kvs),a,b,.un]/\KI nms i kvs) (I,z,[],_,_,rfl,(λp D=>(Lv D).elim,λp D=>(Lv D).elim,LI,Lf _)) ?_ ?_)
 .clear I z;rintro i env hi ⟨I,z,kvs,a,b,rfl,J⟩;rw[bf];let hi:i<20:=by rw[aI]at hi;lia
  lk;let(M,ai,pi,qi):=v i (!0) (!0);let(nm,an,N):=G M pi;show(_,ai,M,rfl,!2,_,an,?_);lk;let L:=J.step (n:=M / 5) N;show(!2,z,kvs,rfl,rfl,rfl,_,ai,M,rfl,(!2,!2),(hN.ok _ N,!0,J.t,J.nd,by let:=J.len;lia),λp D=>by let(s,o,e,_):=L.t p D;rw[e];show mZ s o,λS1' S2'=>?_);let(Y,a2,p2,q2):=v (20+(i:Int) % 19) (!0) (!0);let(Z,a0,a3):=G Y p2;lk;show(!2,_,a2,Y,rfl,!2,_,a0,!2,_,a2,Y,rfl,(!2,!2),!2,.mk _ Z _ rfl (hN.ok _ a3) (!0) (!0) L.t (Pq,rfl,?_));rw[OH (!2)];show(S1',S2',_,_,_,rfl,L)
 .rintro env ⟨I,z,kvs,a,b,rfl,J⟩;lk;show bR (λ_ env=>∃b c,env=[.fr (.list (li ns)),.ow (li l),.fr (.list (nms.map .str)),.tr I (bU C kvs),.tr X (bU C []),.tr z (cR kvs),a,b,c]) (_,_,rfl) ?_ ?_
  .rintro i env hi ⟨b,c,rfl⟩;let hj:i< -nms:=by rw[K4]at hi;show hi
   rw[show(nms.map fx)[i]=.str nms[i] from Mb ..];let N:nms[i]∈nms:=cE hj;generalize nms[i]=nm at *;lk;show(!2,!2,!2,!2,bR (λ_ env=>∃c,env=[.fr (.list (li ns)),.ow (li l),.fr (.list (nms.map .str)),.tr I (bU C kvs),.tr X (bU C []),.tr z (cR kvs),a,.fr (.str nm),c]) (_,rfl) ?_ ?_)
   .rintro j env hj ⟨c,rfl⟩;rw[bf];rw[aI]at hj;lk;let hj:j<4:=hj;show .mk kvs nm _ rfl (hN.ok _ N) (!0) (!0) J.t (Pq,rfl,?_);rw[OH (!2)];show(_,rfl)
   rintro env ⟨c,rfl⟩;show(_,_,rfl)
  .rintro env ⟨b,c,rfl⟩;lk;let a4:=J.len;rw[aI]at a4;show .mk kvs rfl (!0) (λp D=>hN.ok _ (J.k p D)) (Pq,rfl,?_);rw[OG rfl];show(_,rfl,.mk [] rfl (!2) (λp D=>(Lv D).elim) (_,rfl,rfl,_,rfl,q))
end
end
structure YcI(K:cp)(C:aG):Prop where
 lk : ∃o,K.lookup C=some o/\o.cls=.type "type"
 hd : hI K C=true
 ki : hG K (.type "NoneType") (.ref C)=some false
structure XcI(K:cp)(C D:aG):Prop where
 y : YcI K C
 c : fT K C D
 mro:yF K C D
 lo : qV K C
section
variable{K:cp}{C D:aG}
theorem ycI{o:Obj}(l:K.lookup C=Po o)(t:o.cls=.type "type")(h:hI K C=Pq)(k:hG K (.type "NoneType") (.ref C)=Po Pr):YcI K C:=((_,l,t),h,k)
theorem xcI{N m:aG}{nm q c n:ck}{bs d sub a:Ph}{sn e:Pi}{f ab g:Bool}{col b:Option Bool}{dd j:O4}{k0 k1 k2 k3 k5 p r j2 s u:O3}{nw:String}
  (o : K.lookup C=Po (z5 nm q C N bs (.ref D::bmV) Pq sn sub ab col dd k0 k1 k2 k3 k5 "ValueError.__new__")) (t:PySem.W.tailIn K bmV (.ref D::bmV)=Pq) (l:K.lookup D=Po (z5 c n D m d bmV f e a g b j p r j2 s u nw))
  (i : ed K (.ref C) "__init__" = Po (Po (.builtin "ValueError.__init__"))) (kp:eE K (.ref C)=Pq) (h:hI K C=Pq) (k:hG K (.type "NoneType") (.ref C)=Po Pr)
  (ga:ed K (.ref C) "__getattribute__" = Po (Po (.builtin "BaseException.__getattribute__"))) (gn:ed K (.ref C) "__getattr__" = Po Pp) (cl:ed K (.ref C) "__class__" = Po (Po (.builtin "object.__class__"))):XcI K C D :=
 (((_,o,rfl),h,k),((_,_,_,_,_,_,_,_,_,_,_,_,_,_,o,t),(_,_,_,_,_,_,_,_,_,_,_,_,_,_,_,_,l),i,kp),(_,_,_,_,_,_,_,_,_,_,_,_,_,_,o),(ga,gn,h,cl))
theorem YcI.no(y:YcI K C):IsC K (.ref C) .none Pr:=.inl (rfl,rfl,_,rfl,y.ki)
theorem XcI.is(x:XcI K C D):IsC K (.ref C) (jq C 0) Pq:=.inr (C,D,rfl,x.mro,x.lo,.own)
theorem XcI.isV(x:XcI K C D):IsC K (.ty "ValueError") (jq C 0) Pq:=.inr (C,D,rfl,x.mro,x.lo,.ty rfl)
theorem XcI.not{B:aG}(x:XcI K C D)(y:YcI K B)(n:B≠C)(m:B≠D):IsC K (.ref B) (jq C 0) Pr:=by
 let(o,l,t):=y.lk;let e:(di D::bmV).contains (.ref B)=Pr:=by rw[MG,show(di B==di D)=Pr from beq_false_of_ne λz=>m (by cases z;rfl)];rfl
 let f:Fj K C D (.ref B) _:=.ref n l t y.hd;rw[e]at f;show .inr (C,D,rfl,x.mro,x.lo,f)
theorem Af{cT cK cH cD cX:aG}(T:XcI K cT D)(K':XcI K cK D)(H:XcI K cH D)(d:YcI K cD)(x:YcI K cX)(n:[cT,cK,cH,cD,cX,D].Nodup):qS K cT cK cH cD cX:=by
 simp only[Ll,K9,not_or,Lv,not_false_eq_true,and_true]at n;let((tk,th,h,i,c),(e,kd,j,f),(hd,hx,g),(dx,a),b,_):=n;show((T.y.no,K'.y.no,H.y.no,d.no,x.no,.inl rfl),
  (T.is,T.not K'.y (Ne.symm tk) f,T.not H.y (Ne.symm th) g,T.not d (Ne.symm h) a,T.not x (Ne.symm i) b,.inr (rfl,T.isV)),
  (K'.not T.y tk c,K'.is,K'.not H.y (Ne.symm e) g,K'.not d (Ne.symm kd) a,K'.not x (Ne.symm j) b,.inr (rfl,K'.isV)),
  (H.not T.y th c,H.not K'.y e f,H.is,H.not d (Ne.symm hd) a,H.not x (Ne.symm hx) b,.inr (rfl,H.isV)))
theorem uX{P:ky}{w:kD}{mg:ck->O3}{base h:cc}{x:ck}{st:Stmt}{k:Nat}{ps:Pi}{sp:Sp}(X:K.In h)(G:h.Ns kw mg)(g:FnI K x st)(b:∀{f:aG}{fd:kx},Fun K x x st f fd->bE K fd ps [])(ok:∀{f:aG}{fd:kx},Fun K x x st f fd->mg x=Po (.ref f)->aY P w K mg base CX0 k f fd ps sp):Cal P w K mg base x k sp:=by let(f,fd,a,F):=g;show Cal.mk F (gt X G a) (b F) (ok F (gt X G a))
end
theorem HB{l:ry}{w:kD}{K:cp}{h:cc}{mg:ck->O3}{fa CD:aG}{cT cK cH cD cX Q:aG}(X:K.In h)(G:h.Ns kw mg)(c8:mg "law" = Po (.ref fa))
  (g0:FnI K "hands_on" gJ)
  (g1:FnI K "behind" iK)
  (g2:FnI K "begun" pe)
  (g3:FnL K "choices" gb)
  (g4:FnL K "full_rows" dL)
  (g5:FnI K "looked_through" bF)
  (g6:FnI K "plan_of" iW)
  (g7:FnI K "paper_of" cF)
  (g8:FnI K "mends_of" b8)
  (g9:FnI K "first_kept" eL)
  (c6:FnI K "least_mend" ce)
  (c9:FnI K "copied" k7)
  (d0:FnI K "_law_kind" fL)
  (d6:FnI K "_law_alike" cg)
  (e0:FnI K "_law_names" cf)
  (e9:FnI K "_law_spoiled" bB)
  (f0:FnI K "_law_due" gK)
  (a6:FnI K "_law_done" cL)
  (c7:FnI K "_law_refused" cb)
  (f1:FnI K "_law_asked" eM)
  (f2:FnI K "_law_listed" dM)
  (f3:FnI K "_law_deed" fM)
  (f4:FnI K "_law_draws" cV)
  (f5:FnI K "law" CB)
  (aD:cv K kw "Desk" = Po (Po (.ref CD))) (pg:o0 K CD vr=Pq) (hd:hI K CD=Pq) (po:xi K CD=Pq) (sa:ed K (.ref CD) "__setattr__" = Po (Po (.builtin "object.__setattr__"))) (mk:rr K CD=Pq) (kc:eE K (.ref CD)=Pq) (na:ed K (.ref CD) "towns" = Po Pp)
  (m0:MtI K CD "__init__" "Desk.__init__" vJ)
  (m1:MtI K CD "look_up" "Desk.look_up" f9)
  (m2:MtI K CD "put" "Desk.put" y8)
  (m3:MtI K CD "change" "Desk.change" iJ)
  (m4:MtI K CD "away" "Desk.away" rT)
  (m5:MtI K CD "names" "Desk.names" pd)
  (m6:MtI K CD "town" "Desk.town" rR)
  (m7:MtI K CD "plan" "Desk.plan" rS)
  (m8:MtI K CD "paper" "Desk.paper" kZ)
  (m9:MtI K CD "mend" "Desk.mend" mO)
  (aTT:cv K kw "NoTown" = Po (Po (.ref cT)))
  (aKK:cv K kw "Taken" = Po (Po (.ref cK)))
  (aHH:cv K kw "NoHands" = Po (Po (.ref cH)))
  (aDD:cv K kw "NoDay" = Po (Po (.ref cD)))
  (aXX:cv K kw "NoText" = Po (Po (.ref cX)))
  (aEE:cv K kw "TownError" = Po (Po (.ref Q)))
  (aVE:cv K kw "ValueError" = Po Pp) (xT:XcI K cT Q) (xK:XcI K cK Q) (xH:XcI K cH Q) (yD:YcI K cD) (yX:YcI K cX) (nE:[cT,cK,cH,cD,cX,Q].Nodup)
  (z : BnI K)
  : ∃fd:kx,(∀(s:bb) (v:ba),Zl s fd ([v],[]) [("_law_script",v)])/\∀base:cc,K.In base->base.Ns kw mg->aY l.prog w K mg base CX0 18 fa fd ["_law_script"] (spD K kT):=by
 let B:Bn mg:=z.bn X G;show KB X G c8 f5 (λF s v=>?_) λ{fd base} a7 Xb=>?_;let(_,_,_,_,_,_,_,_,_,rfl,_,_):=F.ex;show .of_eq rfl;let c:Cls K CD:=(pg,hd,po,sa)
 let mE:=gt X G aEE;let eT:=gt X G aTT;let eK:=gt X G aKK;let eH:=gt X G aHH;let eD:=gt X G aDD;let eX:=gt X G aXX;let c5:Kl K mg cT cK cH cD cX:=(eT,eK,eH,eD,eX,Np X G aVE)
 let ka:=Af xT xK xH yD yX nE;let lT:jF K mg "NoTown" cT:=(Q,xT.c,eT,mE)
 let lK:jF K mg "Taken" cK:=(Q,xK.c,eK,mE)
 let lH:jF K mg "NoHands" cH:=(Q,xH.c,eH,mE)
 let p:=yp X G g0 (λF=>bd2 F) λF=>pT (P:=l.prog) (w:=w) (base:=base) F B;let k:=yp X G g1 (λF=>bd3 F) λF=>wQ (P:=l.prog) (w:=w) (base:=base) F B;let q:=yp X G g2 (λF=>bd1 F) λF=>zN (P:=l.prog) (w:=w) (base:=base) F B;let t:=Kh X G Xb g3 (λF=>bd2 F) λF L=>ux (P:=l.prog) (w:=w) F B L p;let g:=Kh X G Xb g4 (λF=>bd2 F) λF L=>mV (P:=l.prog) (w:=w) F B L t;let a:=yp X G g5 (λF=>bd2 F) λF=>gO (P:=l.prog) (w:=w) (base:=base) F B g k;let e:=yp X G g6 (λF=>bd1 F) λF=>uw (P:=l.prog) (w:=w) (base:=base) F B a q;let b:=yp X G g7 (λF=>bd1 F) λF=>pR (P:=l.prog) (w:=w) (base:=base) F B a q g k;let r:=uX X G g8 (λF=>bd2 F) λF m=>pS (P:=l.prog) (w:=w) (base:=base) F B m;let j:=uX X G g9 (λF=>bd2 F) λF m=>lE (P:=l.prog) (w:=w) (base:=base) F B e;let d:=yp X G c6 (λF=>bd1 F) λF=>lD (P:=l.prog) (w:=w) (base:=base) F B r j b;let b0:=HA X G c6 (λF=>bd1 F) λF=>Gz (P:=l.prog) (w:=w) (base:=base) F B lH;let f:=yp X G c9 (λF=>bd1 F) λF=>wP (P:=l.prog) (w:=w) (base:=base) F B;let u:=uX X G d0 (λF=>bd1 F) λF m=>mW (P:=l.prog) (w:=w) (base:=base) F B c5;let A:=uX X G d6 (λF=>bd2 F) λF m=>gm (P:=l.prog) (w:=w) (base:=base) F B m 6;let C:=yp X G e0 (λF=>bd1 F) λF=>lF (P:=l.prog) (w:=w) (base:=base) F B;let b3:=uX X G e9 (λF=>bd1 F) λF m=>eV (P:=l.prog) (w:=w) (base:=base) F B m 6;let b4:=yp X G f0 (λF=>bd2 F) λF=>pU (P:=l.prog) (w:=w) (base:=base) F B e b d;let D:=yp X G f4 (λF=>bd3 F) λF=>lG (P:=l.prog) (w:=w) (base:=base) F B;let R:=KS (P:=l.prog) (w:=w) (base:=base) m0 (gt X G aD) mk kc (λF=>bd1 F) λF=>Dv F c na;let i:=AN (P:=l.prog) (w:=w) (mg:=mg) (base:=base) m1 c (λF=>bd2 F) λF=>IT F c na;let b5:=AN (P:=l.prog) (w:=w) (mg:=mg) (base:=base) m2 c (λF=>bd3 F) λF=>Du F c na f;let b6:=AN (P:=l.prog) (w:=w) (mg:=mg) (base:=base) m3 c (λF=>bd3 F) λF=>uz F c na f i;let S:=AN (P:=l.prog) (w:=w) (mg:=mg) (base:=base) m4 c (λF=>bd2 F) λF=>zP F c na i;let E:=AN (P:=l.prog) (w:=w) (mg:=mg) (base:=base) m5 c (λF=>bd1 F) λF=>zG F B c na;let T:=AN (P:=l.prog) (w:=w) (mg:=mg) (base:=base) m6 c (λF=>bd2 F) λF=>zC F B i f;let U:=AN (P:=l.prog) (w:=w) (mg:=mg) (base:=base) m7 c (λF=>bd2 F) λF=>zE F B i e;let H:=AN (P:=l.prog) (w:=w) (mg:=mg) (base:=base) m8 c (λF=>bd2 F) λF=>wN F B i b;let V:=AN (P:=l.prog) (w:=w) (mg:=mg) (base:=base) m9 c (λF=>bd2 F) λF=>zH F B i d;let o:=oF (P:=l.prog) (w:=w) (mg:=mg) (base:=base) m1 c (λF=>bd2 F) λF=>GA F c na lT;let c3:=oF (P:=l.prog) (w:=w) (mg:=mg) (base:=base) m2 c (λF=>bd3 F) λF=>Dt F c na lK;let c4:=oF (P:=l.prog) (w:=w) (mg:=mg) (base:=base) m3 c (λF=>bd3 F) λF=>uy F o;let Y:=oF (P:=l.prog) (w:=w) (mg:=mg) (base:=base) m4 c (λF=>bd2 F) λF=>zO F o;let Z:=oF (P:=l.prog) (w:=w) (mg:=mg) (base:=base) m6 c (λF=>bd2 F) λF=>zD F o f;let a0:=oF (P:=l.prog) (w:=w) (mg:=mg) (base:=base) m7 c (λF=>bd2 F) λF=>zF F o e;let I:=oF (P:=l.prog) (w:=w) (mg:=mg) (base:=base) m8 c (λF=>bd2 F) λF=>wO F o b;let a3:=oF (P:=l.prog) (w:=w) (mg:=mg) (base:=base) m9 c (λF=>bd2 F) λF=>aY.orR (zI F o d) (zJ F i b0);let J:=uX X G a6 (λF=>bd4 F) λF m=>zK (P:=l.prog) (w:=w) (base:=base) F B T U H V;let M:=uX X G a6 (λF=>bd4 F) λF m=>zM (P:=l.prog) (w:=w) (base:=base) F B b5 b6 S;let N:=HA X G a6 (λF=>bd4 F) λF=>zL (P:=l.prog) (w:=w) (base:=base) F B c3 c4 Y Z a0 I a3;let a4:=uX X G c7 (λF=>bd4 F) λF m=>Dq (P:=l.prog) (w:=w) (base:=base) F B M u ka.n;let x:=uX X G c7 (λF=>bd4 F) λF m=>Ds (P:=l.prog) (w:=w) (base:=base) F B N u λW c z=>(Q,by obtain⟨_,_,_,_,_,_,⟨_,_,rfl⟩|⟨_,_,_,rfl⟩|⟨_,_,_,_,_,rfl⟩⟩:=z <;> first|show xK.c|show xT.c|show xH.c,mE)
 let O:=uX X G f1 (λF=>bd4 F) λF m=>lI (P:=l.prog) (w:=w) (base:=base) F B x b4 J A b3 ka;let y:=uX X G f2 (λF=>bd2 F) λF m=>jL (P:=l.prog) (w:=w) (base:=base) F B E;let a5:=uX X G f3 (λF=>bd4 F) λF m=>mX (P:=l.prog) (w:=w) (base:=base) F B x a4 ka;show GC a7 B D C R a5 O y
end _W
end
namespace PySem.Challenge.cw_windround_k37_desks_holds
def tw18253267869755010895:0=0:=rfl
def tw7524175425210122123:0=0:=rfl
def tw5162191475841596778:0=0:=rfl
def tw17770012279191681209:0=0:=rfl
def tw7438860961675234379:0=0:=rfl
def tw1152300362947002730:0=0:=rfl
def tw8867469275639745792:0=0:=rfl
def tw3444047374476033875:0=0:=rfl
def tw15682924133175217227:0=0:=rfl
def tw14185600932475919066:0=0:=rfl
def tw1884811965065449346:0=0:=rfl
def tw8821876545043758901:0=0:=rfl
def tw7242205540438815754:0=0:=rfl
def tw11520189767555366686:0=0:=rfl
def tw15799134801483612241:0=0:=rfl
def tw16637463062659207733:0=0:=rfl
def tw3467049052742746185:0=0:=rfl
def tw14226873100330023616:0=0:=rfl
def tw13538869211240069668:0=0:=rfl
def tw13676430591355376430:0=0:=rfl
def tw11536836870634635799:0=0:=rfl
def tw18160541371865326150:0=0:=rfl
def tw5728223265668191677:0=0:=rfl
def tw8744196649989625455:0=0:=rfl
def tw4294184934949287802:0=0:=rfl
def tw2384960603684186892:0=0:=rfl
def tw11488014564998364127:0=0:=rfl
def tw15139845796128584000:0=0:=rfl
def tw2055816776889582107:0=0:=rfl
def tw12148309289439305594:0=0:=rfl
def tw15419274224598601096:0=0:=rfl
def tw1676966210940538426:0=0:=rfl
def tw6369961898348831901:0=0:=rfl
def tw3198157496523295688:0=0:=rfl
def tw14025399563453606355:0=0:=rfl
def tw8893039669473908808:0=0:=rfl
def tw13185221162975087543:0=0:=rfl
def tw16069362584424686871:0=0:=rfl
def tw5978248735587056861:0=0:=rfl
def tw1776167320863665437:0=0:=rfl
def tw4980269233994139187:0=0:=rfl
def tw15515655337459811347:0=0:=rfl
def tw2418384842921057489:0=0:=rfl
def tw9215092362767912043:0=0:=rfl
def tw4666415014983329315:0=0:=rfl
def tw2503232789576701569:0=0:=rfl
def tw1427727462287831995:0=0:=rfl
def tw14083366981722327927:0=0:=rfl
def tw185180601152170483:0=0:=rfl
def tw11559420398962854575:0=0:=rfl
def tw4684745467443372385:0=0:=rfl
def tw12268382833669801286:0=0:=rfl
def tw14394372694839622269:0=0:=rfl
def tw15540121397617803581:0=0:=rfl
def tw11084585909542150461:0=0:=rfl
def tw12668740024735894951:0=0:=rfl
def tw14187346161034563540:0=0:=rfl
def tw11311166054998751551:0=0:=rfl
def tw16593535702298504629:0=0:=rfl
def tw11623274244452280401:0=0:=rfl
def tw15044926771847165527:0=0:=rfl
def tw1357661897824029664:0=0:=rfl
def tw356642422695674488:0=0:=rfl
def tw12592462719143710107:0=0:=rfl
def tw9717116796684801182:0=0:=rfl
def tw11038795968939204649:0=0:=rfl
def tw7864260962496424231:0=0:=rfl
def tw1304574856368888616:0=0:=rfl
def tw7642737606587832321:0=0:=rfl
def tw15654282428606689016:0=0:=rfl
def tw12454409411410670096:0=0:=rfl
def tw1608240189879439812:0=0:=rfl
def tw6855186863729081940:0=0:=rfl
def tw14284323387915560540:0=0:=rfl
def tw15702126158172124600:0=0:=rfl
def tw12432757638567705551:0=0:=rfl
def tw11397482412231739639:0=0:=rfl
def tw1414431137013047589:0=0:=rfl
def tw8672008638397038640:0=0:=rfl
def tw8281918014747853223:0=0:=rfl
def tw7781485335715756571:0=0:=rfl
def tw10297239300626229160:0=0:=rfl
def tw3363943357902746903:0=0:=rfl
def tw16090832482005038505:0=0:=rfl
def tw13070204792317867035:0=0:=rfl
def tw10351957178009380109:0=0:=rfl
def tw17362604297505471696:0=0:=rfl
def tw134791663299563142:0=0:=rfl
def tw8574407370760657732:0=0:=rfl
def tw16862136616060248925:0=0:=rfl
def tw11377460099748188442:0=0:=rfl
def tw12328876850341542050:0=0:=rfl
def tw11401970224106772018:0=0:=rfl
def tw4425715767473457960:0=0:=rfl
def tw12244219928712914610:0=0:=rfl
def tw16889606094480395752:0=0:=rfl
def tw854737702745349673:0=0:=rfl
def tw13706353477014591974:0=0:=rfl
def tw3645293890417274451:0=0:=rfl
def tw10984515859094254448:0=0:=rfl
def tw8684727231205761935:0=0:=rfl
def tw7617552128602058337:0=0:=rfl
def tw13671096965453678628:0=0:=rfl
def tw10720721400088761748:0=0:=rfl
def tw18118453364603983926:0=0:=rfl
def tw342835010954453255:0=0:=rfl
def tw2727253547954962973:0=0:=rfl
def tw17995094369472797775:0=0:=rfl
def tw6105834558079062799:0=0:=rfl
def tw13330122551956099800:0=0:=rfl
def tw2736165979248731286:0=0:=rfl
def tw18034664826751196299:0=0:=rfl
def tw5344532963870730136:0=0:=rfl
def tw16461565561845305603:0=0:=rfl
def tw17056514301806713933:0=0:=rfl
def tw15387295148380636443:0=0:=rfl
def tw2096701414892495608:0=0:=rfl
def tw2305771583223886393:0=0:=rfl
def tw13593020341546079034:0=0:=rfl
def tw8702039780618752417:0=0:=rfl
def tw1079661971372452060:0=0:=rfl
def tw14934628389743317619:0=0:=rfl
def tw13186454610275230585:0=0:=rfl
def tw14619577230356420057:0=0:=rfl
def tw549543622892849681:0=0:=rfl
def tw13164109947239753401:0=0:=rfl
def tw7168730767633274678:0=0:=rfl
def tw12903608567423051251:0=0:=rfl
def tw16924351793058042798:0=0:=rfl
def tw5789465524092008400:0=0:=rfl
def tw10250244036580357473:0=0:=rfl
def tw5744471000229644549:0=0:=rfl
def tw15173506967896163126:0=0:=rfl
def tw16675863144269090961:0=0:=rfl
def tw541849933021683544:0=0:=rfl
def tw14107112944472594689:0=0:=rfl
def tw2131455690974546744:0=0:=rfl
def tw8765419886137217545:0=0:=rfl
def tw5304598468098908636:0=0:=rfl
def tw3874976024445829402:0=0:=rfl
def tw10199409998280618537:0=0:=rfl
def tw4567478613784869084:0=0:=rfl
def tw4342271803293314582:0=0:=rfl
def tw7266149379812679186:0=0:=rfl
def tw15106993468474519340:0=0:=rfl
def tw10413696692859081717:0=0:=rfl
def tw705077975043382246:0=0:=rfl
def tw16755572079347547504:0=0:=rfl
def tw75065637044772712:0=0:=rfl
def tw4057055992715797261:0=0:=rfl
def tw16687103957525574844:0=0:=rfl
def tw2304648306321216963:0=0:=rfl
def tw15950950176569232092:0=0:=rfl
def tw13946819257031172542:0=0:=rfl
def tw5573463655383812682:0=0:=rfl
def tw614056482241420125:0=0:=rfl
def tw14066674462057727090:0=0:=rfl
def tw634230171855358338:0=0:=rfl
def tw13438175160697303270:0=0:=rfl
def tw11713291662807767601:0=0:=rfl
def tw14004851507042117887:0=0:=rfl
def tw11217465464105838482:0=0:=rfl
def tw1398063900483218050:0=0:=rfl
def tw12629284756969794176:0=0:=rfl
def tw2806037877757131806:0=0:=rfl
def tw1720326639703013576:0=0:=rfl
def tw2311294731273893020:0=0:=rfl
def tw7817227549074656787:0=0:=rfl
def tw15902605995660608068:0=0:=rfl
def tw13777842219175548200:0=0:=rfl
def tw16005405693318831843:0=0:=rfl
def tw7260970824902997865:0=0:=rfl
def tw1002155850840492465:0=0:=rfl
def tw5867749697434266182:0=0:=rfl
def tw3107399499881540826:0=0:=rfl
def tw4303347516988726692:0=0:=rfl
def tw13330406066689651640:0=0:=rfl
def tw11279568009535568970:0=0:=rfl
def tw6281316626361081107:0=0:=rfl
def tw17328230804402289305:0=0:=rfl
def tw13848669713827398444:0=0:=rfl
def tw8973614935115460394:0=0:=rfl
def tw2494087997837767540:0=0:=rfl
def tw9443759254130031299:0=0:=rfl
def tw5573026020442089085:0=0:=rfl
def tw642136745419201192:0=0:=rfl
def tw3717189068293962159:0=0:=rfl
def tw2008041724579579025:0=0:=rfl
def tw9324784639735060569:0=0:=rfl
def tw13033421331885072444:0=0:=rfl
def tw6147547884734411751:0=0:=rfl
def tw11873482201737971702:0=0:=rfl
def tw8105797013306137228:0=0:=rfl
def tw13037709574904949406:0=0:=rfl
def tw13252049171232061504:0=0:=rfl
def tw6754802247850171640:0=0:=rfl
def tw9828803452131747628:0=0:=rfl
def tw14310090146822210980:0=0:=rfl
def tw4387195809068887938:0=0:=rfl
def tw2178281199701920388:0=0:=rfl
def tw4548204479910178473:0=0:=rfl
def tw11382014259765055941:0=0:=rfl
def tw11142238953895953601:0=0:=rfl
def tw9203731111110808510:0=0:=rfl
def tw12129827179949654873:0=0:=rfl
def tw14913559168492260763:0=0:=rfl
def tw2283913354398476831:0=0:=rfl
def tw8506036994698947425:0=0:=rfl
def tw15504249246573591063:0=0:=rfl
def tw16890612040610416330:0=0:=rfl
def tw10267210808475607453:0=0:=rfl
def tw131869919089061176:0=0:=rfl
def tw2415899524271206373:0=0:=rfl
def tw2027875369167419795:0=0:=rfl
def tw13969334659154454891:0=0:=rfl
def tw10059675035601874215:0=0:=rfl
def tw4017836512117074351:0=0:=rfl
def tw16165988676041522879:0=0:=rfl
def tw16367329626096006450:0=0:=rfl
def tw6214073132741147558:0=0:=rfl
def tw12993357727105997365:0=0:=rfl
def tw12519401637263340482:0=0:=rfl
def tw4111955807882739963:0=0:=rfl
def tw14437497875174246930:0=0:=rfl
def tw1304542397398536554:0=0:=rfl
def tw4262809993260756969:0=0:=rfl
def tw15248865591048752144:0=0:=rfl
def tw12358531887770078193:0=0:=rfl
def tw10214718557885700680:0=0:=rfl
def tw18191878859680390142:0=0:=rfl
def tw13565594274464618556:0=0:=rfl
def tw5895037668251561293:0=0:=rfl
def tw11698441224384396386:0=0:=rfl
def tw1609127345541569468:0=0:=rfl
def tw917322367681101094:0=0:=rfl
def tw8784224019071646702:0=0:=rfl
def tw8569508801426189888:0=0:=rfl
def tw17662280090637508855:0=0:=rfl
def tw13593136000776634650:0=0:=rfl
def tw18264791504606927431:0=0:=rfl
def tw13657048291892132601:0=0:=rfl
def tw14094666424264778124:0=0:=rfl
def tw13337168937432131536:0=0:=rfl
def tw8362544183068742001:0=0:=rfl
def tw14868472535923573104:0=0:=rfl
def tw10852629003826426425:0=0:=rfl
def tw1572185806121038061:0=0:=rfl
def tw6660889337295632949:0=0:=rfl
def tw3387087072438259249:0=0:=rfl
def tw1824838481446112268:0=0:=rfl
def tw6714593788524863637:0=0:=rfl
def tw13675025464693478326:0=0:=rfl
def tw8346499336927212321:0=0:=rfl
def tw12369938479736923763:0=0:=rfl
def tw12520607064145014769:0=0:=rfl
def tw420017936597191788:0=0:=rfl
def tw7594165134533064715:0=0:=rfl
def tw11581856026961192530:0=0:=rfl
def tw1113924333643148969:0=0:=rfl
def tw18074206287458693924:0=0:=rfl
def tw2599937022756967245:0=0:=rfl
def tw8218596729907104051:0=0:=rfl
def tw15833791642470628732:0=0:=rfl
def tw16297151896988590319:0=0:=rfl
def tw11639663456203778221:0=0:=rfl
def tw16578750555909100481:0=0:=rfl
def tw7229202932418168146:0=0:=rfl
def tw4031801181713352028:0=0:=rfl
def tw5961784768009927558:0=0:=rfl
def tw7423392346710947193:0=0:=rfl
def tw229683993146703251:0=0:=rfl
def tw780065213033377616:0=0:=rfl
def tw17995490464389518624:0=0:=rfl
def tw6497438508176486959:0=0:=rfl
def tw3963675771711861420:0=0:=rfl
def tw17235313152915446002:0=0:=rfl
def tw5794870339198444075:0=0:=rfl
def tw3164894802574937177:0=0:=rfl
def tw5483302776735177848:0=0:=rfl
def tw7232007835466205589:0=0:=rfl
def tw4936494115069664297:0=0:=rfl
def tw2678593908320520853:0=0:=rfl
def tw8056401424036383389:0=0:=rfl
def tw2224788151424329520:0=0:=rfl
def tw8900800913855455772:0=0:=rfl
def tw8032898654268103101:0=0:=rfl
def tw8917817006184354615:0=0:=rfl
def tw7229489693232190964:0=0:=rfl
def tw17728914809568793193:0=0:=rfl
def tw6006788308746008863:0=0:=rfl
def tw9055516395535960448:0=0:=rfl
def tw16237622029491011861:0=0:=rfl
def tw15811628261955589982:0=0:=rfl
def tw8124136418029343839:0=0:=rfl
def tw11829404074759999143:0=0:=rfl
def tw18107607855623633917:0=0:=rfl
def tw9998853871143025795:0=0:=rfl
def tw9063296117197900501:0=0:=rfl
def tw3782778110590368968:0=0:=rfl
def tw14170491841264725996:0=0:=rfl
def tw8369179538100729534:0=0:=rfl
def tw11547259673812136657:0=0:=rfl
def tw17918581269275872895:0=0:=rfl
def tw14716296322145764288:0=0:=rfl
def tw15549703109135222166:0=0:=rfl
def tw8554262204522940693:0=0:=rfl
def tw4783459219180331339:0=0:=rfl
def tw6743048015904765442:0=0:=rfl
def tw4192776012368499210:0=0:=rfl
def tw4898737047549228523:0=0:=rfl
def tw2735384249063481009:0=0:=rfl
def tw15341791462839620021:0=0:=rfl
def tw15969921039010076236:0=0:=rfl
def tw13419231935644890173:0=0:=rfl
def tw4041939836683599037:0=0:=rfl
end PySem.Challenge.cw_windround_k37_desks_holds
open PySem PySem.W PyProof.Rows
set_option maxRecDepth 100000 in
set_option maxHeartbeats 0 in
set_option Elab.async true in
theorem PySem.Challenge.cw_windround_k37_desks_holds : PySem.Challenge.rw_windround_k37_desks.Holds := by
 w_on;o_law;k_head;(case hw=>w_witness2)
 k_fill
 refine _L.Ic (l:=PySem.Challenge.rw_windround_k37_desks) (sp:=_W.kT) (k:=18) (by decide) rfl rfl (λns h=>.mk ns rfl h rfl) ?TB (λw h Y=>PySem.W.km_in_of Y) ?F
 case TB =>
  intro w s₀ mg mb h G a
  refine' _L.Cm _ (_L.sM (x := "choices") (_L.sO G a rfl ?a1 ?l1 ?c1 ?lc1 ?hT1 ?hn1) (_L.sM (x := "full_rows") (_L.sO G a rfl ?a2 ?l2 ?c2 ?lc2 ?hT2 ?hn2) _L.DP)) ?nd (_L.DQ (.inl ?y0) (.inl ?y1) (.inr ?z2) (.inr ?z3))
  (case a1=>k_is);(case l1=>k_is);(case c1=>exact rfl);(case lc1=>k_is);(case hT1=>exact⟨rfl,rfl,⟨_,_,rfl⟩,⟨_,_,rfl⟩,⟨_,rfl⟩,⟨_,_,rfl⟩,by decide⟩);(case hn1=>kernel_rfl)
  (case a2=>k_is);(case l2=>k_is);(case c2=>exact rfl);(case lc2=>k_is);(case hT2=>exact⟨rfl,rfl,⟨_,_,rfl⟩,⟨_,_,rfl⟩,⟨_,rfl⟩,⟨_,_,rfl⟩,by decide⟩);(case hn2=>kernel_rfl)
  (case nd=>decide);(case y0=>simp);(case y1=>simp);(case z2=>k_is);(case z3=>k_is)
 case F =>
  intro w mg fa h a G b
  refine' _W.HB a G b ?fn0 ?fn1 ?fn2 ?fn3 ?fn4 ?fn5 ?fn6 ?fn7 ?fn8 ?fn9 ?fn10 ?fn11 ?fn12 ?fn13 ?fn14 ?fn15 ?fn16 ?fn17 ?fn18 ?fn19 ?fn20 ?fn21 ?fn22 ?fn23 ?aD ?pg ?hd ?po ?sa ?mk ?kc ?na ?mt0 ?mt1 ?mt2 ?mt3 ?mt4 ?mt5 ?mt6 ?mt7 ?mt8 ?mt9 ?aTT ?aKK ?aHH ?aDD ?aXX ?aEE ?aVE ?xT ?xK ?xH ?yD ?yX ?nE ?fz
  case fn0|fn1|fn2|fn5|fn6|fn7|fn8|fn9|fn10|fn11|fn12|fn13|fn14|fn15|fn16|fn17|fn18|fn19|fn20|fn21|fn22|fn23=>(refine' _L.fnI ?fa ?fl ?fc ?fk;(case fa=>k_is);(case fl=>k_is);(case fc=>k_is);(case fk=>k_is))
  case fn3|fn4=>(refine' _L.fnL (by decide) ?fa ?fl ?fc ?fk ?fhc ?flc ?fhT;(case fa=>k_is);(case fl=>k_is);(case fc=>k_is);(case fk=>k_is);(case fhc=>exact rfl);(case flc=>k_is);(case fhT=>exact⟨rfl,rfl,⟨_,_,rfl⟩,⟨_,_,rfl⟩,⟨_,rfl⟩,⟨_,_,rfl⟩,by decide⟩))
  case aD|pg|hd|po|sa|mk|kc|na|aTT|aKK|aHH|aDD|aXX|aEE|aVE=>k_is
  case mt0|mt1|mt2|mt3|mt4|mt5|mt6|mt7|mt8|mt9=>(refine' _L.mtI ?fa ?fi ?fl ?fc ?fk;(case fa=>k_is);(case fi=>k_is);(case fl=>k_is);(case fc=>k_is);(case fk=>k_is))
  case xT|xK|xH=>(refine' _W.xcI ?o ?t ?l ?i ?kp ?h ?k ?ga ?gn ?cl;(case o=>k_is);(case t=>kernel_rfl);(case l=>k_is);(case i=>k_is);(case kp=>k_is);(case h=>k_is);(case k=>kit_is);(case ga=>k_is);(case gn=>k_is);(case cl=>k_is))
  case yD|yX=>(refine' _W.ycI ?l ?t ?h ?k;(case l=>k_is);(case t=>exact rfl);(case h=>k_is);(case k=>kit_is))
  case nE=>decide
  case fz=>refine'⟨?_,?_,?_,?_,?_,?_,?_,?_,?_,?_,?_,?_,?_,?_,?_,?_,?_,?_,?_⟩ <;> k_is
