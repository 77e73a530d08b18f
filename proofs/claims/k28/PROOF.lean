import PyProof.Rows.All
import Wide.All
import OpenK.AllK
import Wide.FinOn
import Lean
import PyProof.EqAt
import PyProof.EqKinds
import PyProof.TupleCall
import PyProof.DictRoadsH
import PyProof.DictKinds
import PyProof.DictIter
import PyProof.DictRoads
import PyProof.DictList
import PyProof.ListMulAny
import PyProof.StrLawsTight
import KE.KIntText
import PyProof.Rows.StrItems
import PyProof.StrWalks
import KE.KSortTup
import KE.KLam
import PyProof.ExcInit
import PyProof.ExcClass3
import PyProof.InstStoreFacts
import PyProof.ExcBaseAll.ValueError
import PyProof.ExcArgsOwn
import PyProof.ExcAttrAll.ValueError
import PyProof.Rows.RuleN_isinstance
import PyProof.AutoSeq1
import KE.KRevIter
import PyProof.Rows.FactsT2
import PyProof.DictTruth
import PyProof.DictWalks
import PyProof.ListRange
import PyProof.CollectWalk
import KE.KItemsList
import PyProof.ZipIter
import KE.KDictOf
import PyProof.AttrMissHeap
import PyProof.Walks
import PySem.Challenge.RW_windround_k28_prices_looked_at
set_option compiler.extract_closed false
set_option bootstrap.genMatcherCode false
local macro_rules|`(!0)=>`(by omega)|`(!1)=>`(by simp)|`(!2)=>`(by decide)|`(!3)=>`(by decide +kernel)|`(!4)=>`(by show List.Nodup (_::_);decide +kernel)
local macro_rules|`(tactic|omega)=>`(tactic|lia)|`(tactic|lia)=>`(tactic|first|assumption|lia -verbose)
set_option Elab.async false
set_option linter.all false
set_option maxRecDepth 100000
set_option tactic.hygienic false
noncomputable section
open PySem.Value renaming ref->cu,none->du,int->eE,type->gs,bool->hU,notImplemented->MW,str->Nk,builtin->NK,isInt->NZ
open List renaming Nodup->da,range->dm,map->eC,length->eH,filter->mN,reverse_perm->oo,zip->pp,flatMap_eq_nil_iff->pr,toArray->px,dropLast_eq_take->ri,map_congr_left->ry,filter_sublist->rE,filterMap_cons->r4,mem_replicate->sn,lookup_append->so,ext_getElem?->sw,eraseIdxIfInBounds_toArray->t0,map_snd_zip->vl,length_drop->vr,cons_append->vu,lookup->xb,eq_nil_of_length_eq_zero->xn,length_set->A2,foldl_cons->B2,filter_map->Dd,count_cons->DL,perm_ext_iff_of_nodup->MB,getElem?_append_right->MC,getLastD_eq_getLast?->ME,map_take->MM,length_erase_of_mem->MN,length_eq_zero_iff->MP,sum_replicate_nat->MT,filter_eq_nil_iff->MU,length_replicate->M0,getElem?_zipWith->M1,getElem_reverse->M6,count_cons_self->M7,map_eq_nil_iff->Na,length_flatten->Nb,mem_filterMap->Nh,getElem?_take->Ni,foldl->Nj,take_sublist->Nn,foldl_append->No,filter_congr->Np,mem_flatten->Ny,map_fst_zip->Nz,countP_cons->NA,cons_ne_nil->NB,map_const'->NI,drop_zero->NL,drop_drop->NM,sum_cons->NS,map_drop->NT,all_cons->NU,zip_map->N4,map_set->N5
open PySem.PyData renaming int->db,list->dt,canLay0->dy,eqvAll->ef,eqv->eu,canLayAll0->ew,tuple->gr,depth->m3,depthAll->nn,none->NR
open Option.some renaming inj->di,injEq->ML
open PySem.Heap.SameBut renaming update->dk
open Array renaming toList_append->dw,getElem_mem->et,getElem?_eq_getElem->gf,toList_reverse->hZ,toList_extract->ip,length_toList->lu,forIn_toList->ms,getElem?_toList->nl,getD_eq_getD_getElem?->nN,toList_push->oj,getElem?_eq_none->pw,mem_toList_iff->rj,toList_inj->u2,toList_setIfInBounds->Mw,perm_iff_toList_perm->Mx,getElem_of_mem->M4,toList_zip->Nq,toList_map->Nr,size_push->NE,toList->NY
open PySem.NameKind renaming free->dV,cell->gw
open PySem.Obj renaming mapSeq->eb,data_mapDictKeys->np,data_mapFields->n6,isFreed_of_dict->sj,isFreed_of_fields->M5,cls_mapFields->Nu,data_mapDict->NF,mapFields->N2
open Or renaming inr->ee,inl->i4
open PySem.Builtin.SmallTypes renaming nextOf->eg,ownedTupleIsFree->gh
open List.Perm renaming append_left->eh,append_right->eT,refl->t7
open PySem.F renaming plainAttrs_list->ei,type_list_pop->m5,slot_list_pop->m6,plain_extend_loop->nT,type_list_append->n0,slot_list_append->n2,args_tuple_add_2->n5,plainAttrs_dict->ol,entry_tuple_add->om,slot_tuple_add->oS,type_dict_setdefault->ti,slot_dict_setdefault->tu,slot_dict_getitem->yn,entry_extend_loop->y2,type_list_index->My,slot_list_index->Mz
open PySem.Builtin.List renaming listExtendWith->eA,listTooLong->gV,listSameRef->hI,listLengthHint->nf,listItems->v2
open PySem.Builtin.Tuple renaming tupleHashOf->eS
open PyProof.Rows renaming callWith_type1->fx,boot_sum->me,boot_min->ml,boot_list->vb
open PySem renaming mem_of_lookup->fy,boot_len->m4,Builtin->nm,rule->H7,call->I1,unsupported->Nc
open PySem.Str renaming ofString->fI
open PySem.W renaming fnOf->gi,kia_one->lv,keepIn->mu,codeIn->mA,cellsFrom_some->oL,OpenLaw->o0,methodObj->sb,kitOne->wi,Ground->wr,mg_of->I7,WalkO->Nt
open PySem.Heap renaming SameBut->gk,ExtBut->yb,get?_none_of_le->M8
open PySem.SeqAt renaming canLay_of_shaped->gt,shaped->ir,EqAt->sa,depth_of_shaped->MR,eqBoolOverData->MX,list_indexAt->M9
open List.cons renaming injEq->lp
open Prod.mk renaming inj->lx,injEq->m7
open Nat renaming min_eq_right->pu,div_le_self->p7,cast->ro,gcd->rp,sub_add_cancel->su,lt_trans->tO,succ_le_succ->wy,min_eq_left->L2,dvd_trans->MO,mul_div_cancel_left->MS,lt_of_succ_lt_succ->MY,le_of_eq->MZ,mul_le_mul_left->Nf,mul_div_cancel'->Ng,mod_lt->Nm,gcd_dvd_right->Nv,dvd_mul_right->Nx,succ_ne_zero->NG,dvd_mul_left->NH,le_of_dvd->N3
open PySem.Builtin.Dict_items renaming ownsTuple->py
open Sum renaming inr->td,inl->tf
open PySem.Builtin.Dict renaming updateFrom->u1,showsAll->yl
open Int renaming mul_add->Hh,fdiv_eq_ediv_of_nonneg->MF,ofNat_inj->MQ,eq_ofNat_of_zero_le->MV,zero_add->M2,le_ediv_iff_mul_le->M3,gcd_dvd_right->NC,natCast_ediv->NJ,natCast_mul->NO,mul_nonneg->NV
open PySem.Heap.IsSliceOf renaming new->Hs
open Nat.succ renaming inj->MA
open List.Pairwise renaming nil->MD
open PySem.SeqAt.EqAt renaming str_int->MG,int_str->MH,int_int->MI
open PySem.PyData.list renaming injEq->MJ
open PySem.PyData.dict renaming injEq->MK
open Option renaming getD_none->Nd,map_some->Nl
open Bool renaming noConfusion->ND,not_false->NP,false_and->NQ,true_and->NW,or_false->NX
open PySem renaming PyData->ab,Addr->ac,Value->ao,Shared->az,Expr->ba,Heap->bb,Str->bc
open PySem.W renaming Frag->bg,nsIn->bt
open PySem renaming wpAny_bind->jj,wpAny_pure->js,starEach->j0,wpAny->j4,model->kq,mainGlobals->k0,FuncData->k3,Program->k5,World->q3,wpAny_holding->q4,sizeLine_eq->zg,compareOp->zs,backTo->z4,attributeBase->z5,cLine->KI,wpAny_mono->KX,wpAny_callSpecial?_slot->K0,wpAny_rule->Qa,wpAny_call_entry->Qb,cellsFrom->Qc,sysModules->Qd,intKind->Qf,Keyword->Qg,assignEach->Qh,sliceBounds->Qj,keywordEach->Qk,wpAny_newObj_type->Ql,foldedSetIterable->Qm,wpAny_specialOf->Qn,holding->Qo,Scope->Qq,codeAny_builtin->Qr,binaryOp->Qs,rawInt->Qt,plainId_quiet->Qu,wpAny_typeNameOfWhole_keyiter->Qv,wpAny_field->Qw,codeAny->Qx,call_meets->Qy,bootBuiltins->Qz,wpAny_passesOwn->QA,wpAny_seqItems->QB,builtinsNs->QC,backToKw->QD,wpAny_isInstance->QE,wpAny_typeNameOf_keyiter->QF,swapsWithSole->QG,swappedStores->QH,wpAny_updateSeq->QI,atKey->QJ,wpAny_truthy_bool->QK,wpAny_pyIter_list->QL,wpAny_nextOf_list_item->QM,wpAny_dictEntries->QN,valueAt->QO,bindArgs->QP,argBest->QQ,wpAny_notOrdered_dict->QR,wpAny_forIn_list->QT,wpAny_eqBool_int->QU,closureFor->QV,wpAny_attempt->QW,behindInMarks->QY,standAt->Q0,DictEntry->Q1,wpAny_Call_Name_kw->Q2,pyNext->Q3,atKey_none_of_get->Q5,wpAny_standAt->Q6,swapsWith->Q9,pushCells->Za,ZipApart->Zb,wpAny_typeOf->Zc,wpAny_Call_method_late->Zd,setItem->Ze,PlainAttrs->Zf,wpAny_execs_nil->Zh,pushCells_keeps->Zi,letOwnedTupleGo->Zj,wpAny_nextOf_list_end->Zk,isSubtype_tuple_tuple->Zl,wpAny_setField->Zn,isTrue->Zo,firstArgMember->Zp,updateSeq->Zs,codeAmong->Zu,BindsTo->Zv,Arguments->Zw,wpAny_newList->Zx,wpAny_tupleItemsOf->Zz,hashInt->ZC,concat_meets->ZD,codeAny_mono->ZE,callerA->ZF,call_meetsIn->ZH,Operator->ZI,wpAny_execs_cons->ZJ,seqIndex?->ZK,noFill_tuple_add->ZL,IsPair->ZM,subscripted->ZN,wpAny_ite_split->ZQ,wpAny_dictEpoch->ZR,storedH->ZS,release->ZT,wpAny_newTuple->ZU,wpAny_newFunctionEnv_cells->ZV,typeLookup->ZW,truthy->ZX,reduceHash->ZZ,newFunctionEnv->Z0,dictSetDefault->Z3,defaultsOf->Z4,Result->Z5,wpAny_getItem_list_slice->Z6,wpAny_comprehension_free->Z7,seq_tuple_add->Z8,evalPart_none->Z9,assignInOrder->Ya,slicePick->Yb,field->Yc,eqIsQuiet->Yd,bindL->Ye,bindC->Yf,typeOf->Yg,tupleKeyHash->Yh,richCompare_meets_room->Yj
open PyProof.Rows renaming wpS_bind->ki,wpS_pure->ky,Keyed->kI,arrOf->k6,pendingOf->qb,seqObj->Qi,wpS_modify->Qp,elem'->QS,listUpdate_at->QX,get?_update_seq->QZ,wpS_get->Q4,subscriptTail->Q7,envOfC->Q8,AllBare->Zg,wpS_lift->Zm,failedOf->Zq,SortKind->Zr,minRun'->Zt,assignInOrder_cons->ZA,seqEpoch_at->ZO,mirror_perm->ZP,setPending->ZY,mirror->Z1,keyLt'->Z2,subscriptTail_builtinR->Yi,listItems_at->Yk,IntsAre->Yl
open PySem.MeetsSeq3 renaming plain_eq_loop->Zy
open PySem.W renaming kla_obj->ZB
open List renaming length_map->Ki,mem_singleton->Kj,getElem?_eq_getElem->Kk,mem_append_right->Kl,mem_append->Km,getD_eq_getElem?_getD->Kn,mem_map->Ko,mem_append_left->Kp,mem_cons_self->Ks,mem_cons->Kt,mem_cons_of_mem->Kv,map_cons->Kw,getElem?_eq_some_iff->Kx,nodup_append->Ky,size_toArray->KA,map_append->KC,length_append->KD,getElem_map->KJ,mem_filter->cc,getElem_mem->KL,getElem?_map->KM,getElem?_set_self->KN,map_map->KQ,getElem?_set_ne->KS,replicate->KT,append_assoc->KU,nodup_cons->KY,length_filter_le->KZ,append_nil->K1,take_add_one->K3,length_cons->K4,length_singleton->K5,getElem_of_mem->K7,length_take->K8,take_length->La,drop_eq_getElem_cons->Lb,find?_cons->Lc,not_mem_nil->Ld,getElem?_eq_none->Le,lookup_cons->Lf,take_of_length_le->Lg,perm_append_comm->Li,getElem?_append_left->Lk,replicate_succ->Lm,eq_nil_or_concat->Lo,concat_eq_append->Lp,filter_cons_of_pos->Lq,filter_append->Lr,mem_of_getElem?->Lu,drop_of_length_le->Lv,reverse_cons->Lx,length_reverse->Ly,length_range->Lz,nodup_nil->LA,zip_cons_cons->LC,getElem?_zip_eq_some->LG,extract_eq_take_drop->LH,flatten_cons->LM,length_zip->LN,map_nil->LQ,filter_cons_of_neg->LR,mem_map_of_mem->LS,take_append_drop->LU,any_cons->LV,mem_of_mem_take->LX,mem_of_mem_drop->LY,mem_range->L1,forIn_nil->L4,getElem_inj->L5,getElem?_set_self'->L7,of_mem_zip->Ma,forIn_cons->Mb,range_succ->Mc,mem_iff_getElem?->Mj,getElem_take->Mk,all_eq_true->Mm,getElem_zip->Mn,ext_getElem->Mo,length_pos_iff->Mr,nil_append->Mt
open Nat renaming le_trans->Kr,lt_of_lt_of_le->Ku,le_refl->Kz,zero_le->KG,ne_of_lt->KO,ne_of_gt->Lh,lt_of_le_of_lt->Ls,le_succ->LD,lt_irrefl->LF,lt_of_not_le->LI,mul_assoc->LJ,mul_le_mul_right->LL,not_lt_zero->LO,le_of_lt->LP,lt_succ_self->ci,pow_le_pow_right->LZ,pos_of_ne_zero->L8,min_le_left->Md,lt_succ_of_lt->Mh,le_add_right->Ml,mul_comm->Mu
open Int renaming toNat_natCast->K2,emod_lt_of_pos->Lj,emod_nonneg->LB,gcd->cf,le_refl->L6,natCast_add->Me,mul_le_mul_of_nonneg_left->Mf,toNat_of_nonneg->Ms
open Option renaming isSome_iff_exists->Ln,isSome_map->Mv
open Bool renaming false_ne_true->KH,false_eq_true->KW,and_eq_true->Ll,not_true->LW,eq_iff_iff->L9
open PySem.Heap renaming get?_push_of_some->Kq,lt_size->KB,get?_push_size->KF,get?_update_other->K6,get?_update_self->K9,size_push->LK,size_update->Mq
def cb{α:Type _}{a:α}{b:Prop}:a=a\/b:=.inl rfl
def N6{c:Prop}{h:Decidable c}(hc:c){α}{t e:α}:ite c t e=t:=if_pos hc
def N7{c:Prop}{h:Decidable c}(hc:¬c){α}{t e:α}:ite c t e=e:=if_neg hc
abbrev N9:=List (List (List Int))
abbrev Oa:=Option (Option Nat)
abbrev Ob:=List (bc×PySem.NameKind)
abbrev Oc:=List (Nat×Nat×Nat)
abbrev Of:=Option (Array kI)
abbrev Og:=List (Option Nat)
abbrev Oh:=Array (Option ao)
abbrev Oj:=Option (List ab)
abbrev Ol:=List (List Int)
abbrev Op:=List (Nat×Nat)
abbrev Oq:=List (ac×PySem.Obj)
abbrev Os:=List (Int×ab)
abbrev Ov:=List (bc×ac)
abbrev Oy:=Option Int
abbrev OA:=Option Nat
abbrev OB:=Option ao
abbrev OC:=Option ac
abbrev OD:=List Int
abbrev OE:=Array kI
abbrev OF:=Array ao
abbrev OG:=List Nat
abbrev OI:=List PySem.Env
abbrev OM:=List ab
abbrev ON:=List ao
abbrev OO:=List ac
abbrev OP:=List bc
abbrev OR:=List Qg
abbrev OS:=List ba
open Prod renaming mk->Pm
local macro_rules|`(tactic|walk_at"v0")=>`(tactic|first|exact i4 rfl|exact ee cb|exact ee (ee rfl))
local macro_rules|`(tactic|walk_at"v1")=>`(tactic|first|exact .inl rfl|exact .inr rfl|assumption)
section
local macro_rules|`(($a,$b,*))=>`(⟨$a,$b,*⟩)
open Option renaming some->OV,none->OW
open Bool renaming true->OX,false->OY
open Lean in
def OZ:Nat->Syntax->Syntax
|n+1,x@(.node i k a)=>if k==`Lean.Parser.Term.hole then .node i `Lean.Parser.Tactic.rcasesPat.ignore a else .node i `Lean.Parser.Tactic.rcasesPat.tuple #[.atom i "⟨",.node i `null ((if k==`Lean.Parser.Term.tuple then #[x[1][0],.atom i ","]++x[1][2].getArgs else x[1].getArgs).map fun x=>if x.isAtom then x else .node i `Lean.Parser.Tactic.rcasesPatLo #[.node i `Lean.Parser.Tactic.rcasesPatMed #[.node i `null #[OZ n x]],.node i `null #[]]),.atom i "⟩"]
|_,x=>.node .none `Lean.Parser.Tactic.rcasesPat.one #[x]
local macro_rules|`(tactic|cbv)=>do let h:=Lean.mkIdent `hQq;`(tactic|refine Classical.byContradiction fun $h=>?_)|`(tactic|w_up)=>do let h:=Lean.mkIdent `hQq;`(tactic|(refine $h ?_;clear $h))
local macro_rules|`(tactic|let $p:term:=$t:term)=>do let r<-`(tactic|rcases $t:term with $(⟨OZ 9 p⟩):rcasesPat);`(tactic|first|(guard_target=~False;$r)|(cbv;$r<;>w_up))|`(tactic|let $d:letDecl)=>`(tactic|have $d:letDecl)
local macro_rules|`(tactic|show $t)=>`(tactic|first|refine $t|change $t)
local macro_rules|`(tactic|lk)=>`(tactic|walk_at"dx")
local macro_rules|`(-$x:ident)=>`(($x).length)|`(~~~$x:ident)=>`(($x).heap.objs.size)
namespace _L
open PySem PySem.Spec PyProof.Rows
abbrev Key:=Sum Int bc
def Fa:Key->ao->Bool
 |.inl k,v=>NZ k v
 |.inr x,v=>Value.isStrOf x v
def JZ(w:q3):Key->Int
 |.inl k=>ZC k
 |.inr x=>hashStr w x
def bO:∀{k:Key}{v:ao},Fa k v=OX->(∃i t,k=tf i/\v=eE i t)\/(∃x t,k=td x/\v=Nk x t)
 |.inl i,v,h=>by
  let(t,e):=Value.isInt_shape (k:=i) (v:=v) h;show .inl (i,t,rfl,e)
 |.inr x,v,h=>by
  let(t,e):=Value.isStrOf_shape (x:=x) (v:=v) h;show .inr (x,t,rfl,e)
def E8(a b:Int):decide ((tf a:Key)=tf b)=(a==b):=by by_cases e:a=b;subst e;simp;let h:¬(tf a:Key)=tf b:=λq=>e (Sum.inl.inj q);rw[decide_eq_false h];show(beq_eq_false_iff_ne.mpr e).symm
def EZ(a b:bc):decide ((td a:Key)=td b)=decide (a=b):=by by_cases e:a=b;subst e;simp;let h:¬(td a:Key)=td b:=λq=>e (Sum.inr.inj q);rw[decide_eq_false h,decide_eq_false e]
def E7(a:Int)(b:bc):decide ((tf a:Key)=td b)=OY:=decide_eq_false (λq=>nomatch q)
def E3(a:bc)(b:Int):decide ((td a:Key)=tf b)=OY:=decide_eq_false (λq=>nomatch q)
def pY(prog:k5)(w:q3):PySem.KeyKind prog w Key where
 is := Fa
 hash:=JZ w
 inj := λv a b d c=>by
  rcases bO d with⟨i,t,rfl,rfl⟩|⟨x,t,rfl,rfl⟩
  rcases bO c with⟨j,u,rfl,e⟩|⟨y,u,rfl,e⟩
  injection e with e1 _;rw[e1];exact nomatch e;rcases bO c with⟨j,u,rfl,e⟩|⟨y,u,rfl,e⟩
  exact nomatch e;injection e with e1 _;rw[e1]
 byValue:=λk v h=>by
  rcases bO h with⟨i,t,rfl,rfl⟩|⟨x,t,rfl,rfl⟩ <;> rfl
 pyHash:=λhv h=>by
  rcases bO hv with⟨i,t,rfl,rfl⟩|⟨x,t,rfl,rfl⟩
  exact wpAny_pyHash_int h;exact wpAny_pyHash_str h
 eqBool:=λf hv h=>by
  rcases bO f with⟨i,t,rfl,rfl⟩|⟨x,t,rfl,rfl⟩
  rcases bO hv with⟨j,u,rfl,rfl⟩|⟨y,u,rfl,rfl⟩
  rw[E8]at h;exact QU h;rw[E7]at h;exact MH i t y u _ _ _ _ h;rcases bO hv with⟨j,u,rfl,rfl⟩|⟨y,u,rfl,rfl⟩
  rw[E3]at h;exact MG x t j u _ _ _ _ h;rw[EZ]at h;exact wpAny_eqBool_str h
 «strs»:=λk x t v h=>by
  rcases bO h with⟨i,u,rfl,e⟩|⟨y,u,rfl,e⟩
  exact nomatch e;injection e with e1 _;subst e1;cases v <;> rfl
inductive V where
 |non|bl (b:Bool)|int (i:Int)|str (x:bc)|byt (b:Array UInt8)|flt (b:UInt64)|ref (a:ac)|ty (n:String)
 deriving DecidableEq
abbrev Ow:=List (Int×V)
abbrev OU:=List V
def bE:V->ao->Prop
 |.non,u=>u=du
 |.bl b,u=>u=hU b
 |.int i,u=>∃t,u=eE i t
 |.str x,u=>∃t,u=Nk x t
 |.byt b,u=>∃t,u=Value.bytes b t
 |.flt b,u=>∃t,u=Value.float b t
 |.ref a,u=>u=cu a
 |.ty n,u=>u=gs n
abbrev aS:OU->ON->Prop:=Paired bE
theorem aS.length(r:aS xs us):-xs=-us:=Paired.length r
def aS.get{xs:OU}{us:ON}{i:Nat}{x:V}(h:aS xs us)(e:xs[i]?=OV x):∃u,us[i]?=OV u/\bE x u:=by
 induction h generalizing i with
 |nil=>simp at e
 |cons r t z =>
  cases i with
  |zero=>simp at e;subst e;show(_,rfl,r)
  |succ i=>let(u,h1,h2):=z (i:=i) (by simpa using e);show(u,by simpa using h1,h2)
theorem aS.set(r:bE x u){xs:OU}{us:ON}(i:Nat)(h:aS xs us):aS (xs.set i x) (us.set i u):=by
 induction h generalizing i with
 |nil=>show .nil
 |cons q t z =>
  cases i with
  |zero=>show .cons r t
  |succ i=>show .cons q (z i)
def aS.append{xs ys:OU}{us ws:ON}(h:aS xs us)(s:aS ys ws):aS (xs++ys) (us++ws):=by
 induction h with
 |nil=>show s
 |cons r _ i=>show .cons r i
theorem aS.take{xs:OU}{us:ON}(n:Nat)(h:aS xs us):aS (xs.take n) (us.take n):=by
 induction h generalizing n with
 |nil=>cases n <;> show .nil
 |cons r t z =>
  cases n with
  |zero=>show .nil
  |succ n=>show .cons r (z n)
theorem aS.drop{xs:OU}{us:ON}(n:Nat)(h:aS xs us):aS (xs.drop n) (us.drop n):=by
 induction h generalizing n with
 |nil=>cases n <;> show .nil
 |cons r t z =>
  cases n with
  |zero=>show .cons r t
  |succ n=>show z n
def IT:Option V->OB->Prop
 |some v,OV u=>bE v u
 |none,OW=>True
 |_,_=>False
def KV{κ:Type}:List (κ×V)->List (κ×ao)->Prop:=Paired λ(p:κ×V) (q:κ×ao)=>p.1=q.1/\bE p.2 q.2
def kV:Key->V
 |.inl i=>.int i
 |.inr x=>.str x
inductive HO where
 |lst (xs:OU)
 |tup (xs:OU)
 |dK (kvs:List (Key×V))|dT (kvs:List (List Key×V))
 |set (S:Int->Bool) (n:Nat)
 |ins (C dx:ac) (fs:List (bc×V))
 |own (x:ac)
 |xd (fs:List (bc×V))
 |met (f x:ac)
 |rng (lo hi:Int)
 |frz (o:Obj) (u:HO)
 |tbl (q:bc)
 |ext (φ:bb->Prop)
abbrev Hp:=ac->Option HO
def Fix:HO->Prop
 |.tup _=>True
 |.frz _ _=>True
 |_=>False
def Dg(H:Hp)(h:bb)(a:ac)(q:bc):Prop:=∃ps:OF,h.get? a=OV { cls:=.none,data:=.fields ps }/\TriplesOk ps.toList /\
 ∀pos cv,Zu pos ps.toList=OV cv->∃c oc u vs t,cv=.ref c/\H c=OV (.frz oc u)/\oc.data=.fields vs/\vs[1]?=OV (.str q t)
def upd(H:Hp)(a:ac)(o:HO):Hp:=λb=>if b=a then OV o else H b
def aC:upd H a o a=OV o:=by unfold upd;rw[N6 rfl]
def aw(h:b≠a):upd H a o b=H b:=by unfold upd;rw[N7 h]
def aL{H:Hp}{a b:ac}{o:HO}(h:H a=OV o)(h':H b=OW):a≠b:=by intro e;subst e;rw[h]at h';cases h'
def xJ(h:bb)(a:ac)(its:OF):Prop:=∃o,h.get? a=OV o/\o.cls=.type "tuple" /\ (∃n,o.data=.seq its n)/\o.dict=OW
def xJ.is(p:xJ h a its):IsTup h a its:=let ⟨o,e,c,n,_⟩:=p;(o,e,c,n)
theorem xJ.lt(p:xJ h a its):a<h.objs.size:=p.is.lt
def xJ.new(h:bb)(items:OF):xJ (h.push { cls:=.type "tuple",data:=.seq items }) h.objs.size items:=(_,KF _ rfl,rfl,(_,rfl),rfl)
section
variable(P:k5) (w:q3)
def fL(H:Hp)(h:bb)(a:ac):HO->Prop
 |.lst xs=>-xs<=sizeLine/\∃(its:ON) (n:Nat),aS xs its/\h.get? a=OV { cls:=.type "list",data:=.seq its.toArray n }
 |.tup xs=>-xs<=sizeLine/\∃its:ON,aS xs its/\xJ h a its.toArray
 |.dK kvs=>-kvs<=sizeLine/\(a==Qd)=OY/\∃vs,KV kvs vs/\h.DictOf (pY P w) a vs
 |.dT kvs=>-kvs<=sizeLine/\(a==Qd)=OY/\∃xs:List (List Key×ac×ao),
   Paired (λ(p:List Key×V) (q:List Key×ac×ao)=>p.1=q.1/\H q.2.1=OV (.tup (p.1.map kV))/\bE p.2 q.2.2) kvs xs /\
   ∃o es ep,h.get? a=OV o/\o.ExactDict/\o.data=.dict es ep/\es.toList=xs.map (entryOfKey (tupleKind (pY P w)))/\(xs.map (·.1)).Nodup
 |.set S n=>h.SetOf (Qf P w) a S n
 |.ins C dx fs=>H dx=OV (.own a)/\fs.length<=1000/\dx≠a/\h.get? a=OV (PySem.W.instObj C dx) /\
   ∃b,h.Ns1 dx b/\(∀f,IT (fs.lookup f) (b f))/\PySem.Within b (fs.map (·.1))
 |.own _=>∃o,h.get? a=OV o
 |.xd fs=>∃b,h.Ns1 a b/\∀f,IT (fs.lookup f) (b f)
 |.rng lo hi=>∃t u v,h.get? a=OV { cls:=.type "range",data:=.fields #[.int lo t,.int hi u,.int 1 v] }
 |.frz o u=>h.get? a=OV o/\fL H h a u
 |.tbl q=>Dg H h a q
 |.met f x=>h.get? a=OV (sb (.ref f) (.ref x))
 |.ext φ=>φ h/\(∃o,h.get? a=OV o)/\∀h1 h2:bb,φ h1->(∀o,h1.get? a=OV o->h2.get? a=OV o)->φ h2
def HOk(H:Hp)(h:bb):Prop:=∀a o,H a=OV o->fL P w H h a o
end
section
variable{P:k5}{w:q3}{H H':Hp}{h h':bb}{a:ac}{o:HO}
theorem fL.lt(x:fL P w H h a o):a<h.objs.size:=by
 cases o with
 |lst xs=>let(_,_,_,_,e):=x;show KB e
 |tup xs=>let(_,_,_,p):=x;show p.lt
 |dK kvs=>let(_,_,_,_,o,_,_,e,_):=x;show KB e
 |dT kvs=>let(_,_,_,_,o,_,_,e,_):=x;show KB e
 |set S n=>let(o,_,_,_,e,_):=x;show KB e
 |ins C dx fs=>let(_,_,_,e,_):=x;show KB e
 |own y=>let(_,e):=x;show KB e
 |xd fs=>let(_,(_,_,_,e,_),_):=x;show KB e
 |rng lo hi=>let(_,_,_,e):=x;show KB e
 |frz ob u=>let(e,_):=x;show KB e
 |tbl q=>let(_,e,_):=x;show KB e
 |met f y=>show KB (show h.get? a=OV _ from x)
 |ext φ=>let(_,(_,e),_):=x;show KB e
def Paired.mapP{c:List α}{l₂:List β}(h:Paired F c l₂)(f:∀a b,F a b->G a b):Paired G c l₂:=by
 induction h with
 |nil=>show .nil
 |cons r _ i=>show .cons (f _ _ r) i
def fL.stay(x:fL P w H h a o)(k:∀b u,(b=a\/H b=OV (.own a))->h.get? b=OV u->h'.get? b=OV u)
  (ho:∀b,H b=OV (.own a)->H' b=OV (.own a)) (ht:∀b o,Fix o->H b=OV o->H' b=OV o):fL P w H' h' a o:=by
 induction o with
 |lst xs=>let(z,its,n,r,e):=x;show(z,its,n,r,k _ _ (.inl rfl) e)
 |tup xs=>let(z,its,r,ob,e,c):=x;show(z,its,r,ob,k _ _ (.inl rfl) e,c)
 |dK kvs=>let(z,y,vs,r,ob,es,ep,e,c):=x;show(z,y,vs,r,ob,es,ep,k _ _ (.inl rfl) e,c)
 |dT kvs =>
  let(z,y,xs,r,ob,es,ep,e,c):=x;show(z,y,xs,Paired.mapP r λp q z=>(z.1,ht _ _ trivial z.2.1,z.2.2),ob,es,ep,k _ _ (.inl rfl) e,c)
 |set S n=>let(ob,es,ep,t,e,c):=x;show(ob,es,ep,t,k _ _ (.inl rfl) e,c)
 |ins C dx fs =>
  let(d,z,ne,e,g,(od,es,ep,e2,c),r):=x;show(ho _ d,z,ne,k _ _ (.inl rfl) e,g,(od,es,ep,k _ _ (.inr d) e2,c),r)
 |own y=>let(ob,e):=x;show(ob,k _ _ (.inl rfl) e)
 |xd fs=>let(g,(od,es,ep,e,c),r):=x;show(g,(od,es,ep,k _ _ (.inl rfl) e,c),r)
 |rng lo hi=>let(t,u,v,e):=x;show(t,u,v,k _ _ (.inl rfl) e)
 |frz ob u j=>let(e,q):=x;show(k _ _ (.inl rfl) e,j q)
 |tbl q =>
  let(ps,e,t,c):=x;show(ps,k a _ (.inl rfl) e,t,λpos cv i=>by let(b,oc,u,vs,t,e1,e2,e3):=c pos cv i;show(b,oc,u,vs,t,e1,ht _ _ trivial e2,e3))
 |met f y =>
  let e:h.get? a=OV (sb (.ref f) (.ref y)):=x;show h'.get? a=OV (sb (.ref f) (.ref y));show k a _ (.inl rfl) e
 |ext φ=>let(p,(o,e),st):=x;show(st _ _ p λo q=>k _ _ (.inl rfl) q,(o,k _ _ (.inl rfl) e),st)
theorem HOk.lt(x:HOk P w H h)(e:H a=OV o):a<h.objs.size:=(x a o e).lt
def HOk.fresh(x:HOk P w H h)(e:h.objs.size<=a):H a=OW:=by
 cases q:H a with
 |none=>rfl
 |some u=>show absurd (Ku (x.lt q) e) (LF _)
def HOk.kept(x:HOk P w H h)(k:∀b u,h.get? b=OV u->h'.get? b=OV u):HOk P w H h':=λa o e =>
 (x a o e).stay (λb u Y q=>k b u q) (λY q=>q) λY Y Y q=>q
def HOk.laid(x:HOk P w H h)(k:∀b u,h.get? b=OV u->h'.get? b=OV u)(f:h.objs.size<=a)(new:fL P w (upd H a o) h' a o):HOk P w (upd H a o) h':=λb u e=>by
 let hn:=x.fresh f;by_cases d:b=a;subst d;rw[aC]at e;cases e;show new;rw[aw d]at e;show(x b u e).stay (λc v Y q=>k c v q) (λc q=>by rw[aw (aL q hn)];show q) λc xs Y q=>by rw[aw (aL q hn)];show q
end
def Rd(H:Hp)(a:ac)(u:HO):Prop:=H a=OV u\/∃o,H a=OV (.frz o u)
def Rd.ok(r:Rd H a u)(x:HOk P w H h):fL P w H h a u:=by
 rcases r with r|⟨o,r⟩
 show x a u r;let(_,q):=x a _ r;show q
def Mut:Option HO->Prop
 |some (.lst _)=>True
 |some (.dK _)=>True
 |some (.dT _)=>True
 |some (.set _ _)=>True
 |some (.ins _ _ _)=>True
 |some (.ext _)=>True
 |_=>False
section
def HOk.write(ok:HOk P w H h)(i:Mut (H x))(m:e=x\/H e=OV (.own x))(k:∀b u,b≠e->h.get? b=OV u->h'.get? b=OV u)(l:∃u,h'.get? e=OV u)
  (new:fL P w (upd H x o') h' x o'):HOk P w (upd H x o') h':=λb u q=>by
 let d:∀c y,H c=OV (.own y)->c≠x:=λc y r z=>by subst z;rw[r]at i;show i
 let g:∀c o,Fix o->H c=OV o->c≠x:=λc o f r z=>by subst z;rw[r]at i;cases o <;> first|show i|show f
 by_cases j:b=x;subst j;rw[aC]at q;cases q;show new
 .rw[aw j]at q;by_cases a:b=e
  .let q':H b=OV (.own x):=by
    rcases m with z|z;show absurd (a.trans z) j;rw[a];show z
   cbv;rw[q]at q';cases q';let(v,hv):=l
   w_up;show(v,by rw[a];show hv)
  show(ok b u q).stay (λc v hc r=>k c v ?_ r) (λc r=>by rw[aw (d c b r)];show r) λc xs f r=>by rw[aw (g c xs f r)];show r
  rcases hc with rfl|hc;show a;rintro rfl;rcases m with z|z;show d c b hc z;rw[hc]at z;cases z;show j rfl
end
structure Un(fs ex:OO)(H H':Hp)(h h':bb):Prop where
 keep:∀b o,h.get? b=some o->H b=none->b ∉ fs->b ∉ ex->h'.get? b=some o
 slot:∀b o,h.get? b=some o->H b=none->b∈fs->b ∉ ex->∃sl,h'.get? b=some { o with slots:=sl }
 free:∀b o,h.get? b=some o->H b=none->b ∉ ex->H' b=none
 there:∀b o,h.get? b=some o->b ∉ ex->∃o',h'.get? b=some o'
 tups:∀b xs,H b=some (.tup xs)->H' b=some (.tup xs)
 frzs:∀b o u,H b=some (.frz o u)->H' b=some (.frz o u)
 tbls:∀b q,H b=some (.tbl q)->H' b=some (.tbl q)
section
variable{fs ex:OO}{H H1:Hp}{h h1 h':bb}{a x e:ac}{o:HO}
def Un.any(u:Un fs ex H H1 h h1)(q:h.get? b=some ob)(n:H b=none)(hx:b ∉ ex):∃sl,h1.get? b=some { ob with slots:=sl }:=by by_cases a:b∈fs;show u.slot b ob q n a hx;show(ob.slots,u.keep b ob q n a hx)
def Un.kept(k:∀b u,h.get? b=OV u->h'.get? b=OV u):Un fs ex H H h h' :=
 (λb ob q Y Y Y=>k b ob q,λb ob q Y Y Y=>(ob.slots,k b ob q),λY Y Y n Y=>n,λb ob q Y=>(ob,k b ob q),λY Y q=>q,λY Y Y q=>q,λY Y q=>q)
def Un.refl:Un fs ex H H h h:=Un.kept λY Y q=>q
def Un.laid(k:∀b u,h.get? b=OV u->h'.get? b=OV u)(c:h.objs.size<=a)(hn:H a=OW):Un fs ex H (upd H a o) h h' where
 keep:=λb u q Y Y Y=>k b u q
 slot:=λb u q Y Y Y=>(u.slots,k b u q)
 free:=λb u q n Y=>by rw[aw (KO (Ku (KB q) c))];show n
 there:=λb u q Y=>(u,k b u q)
 tups:=λb xs q=>by rw[aw (aL q hn)];show q
 frzs:=λb u xs q=>by rw[aw (aL q hn)];show q
 tbls:=λb ps q=>by rw[aw (aL q hn)];show q
def Un.write(c:Mut (H x))(i:e=x\/H e=OV (.own x))(k:∀b u,b≠e->h.get? b=OV u->h'.get? b=OV u)(d:∃u,h'.get? e=OV u):Un fs ex H (upd H x o) h h':=by
 let hx:∀b,H b=OW->b≠x:=λb n z=>by subst z;rw[n]at c;show c
 let g:∀b,H b=OW->b≠e:=λb n z=>by
  subst z;rcases i with r|r;show hx b n r;rw[n]at r;cases r
 let f:∀b u,H b=OV u->¬Mut (OV u)->b≠x:=λb u q j z=>by subst z;rw[q]at c;show j c
 show(λb u q n Y Y=>k b u (g b n) q,λb u q n Y Y=>(u.slots,k b u (g b n) q),λb u q n Y=>by rw[aw (hx b n)];show n,λb u q Y=>?_,
  λb xs q=>by rw[aw (f b _ q λz=>z)];show q,λb u xs q=>by rw[aw (f b _ q λz=>z)];show q,λb ps q=>by rw[aw (f b _ q λz=>z)];show q)
 by_cases a:b=e;subst a;show d;show(u,k b u a q)
end
noncomputable def trk(h:bb)(H:Hp):OO:=(dm h.objs.size).filter λa=>(H a).isSome
def xI(h:bb)(H:Hp):bb:=PySem.W.hideAll h (trk h H)
def wA(h:bb)(H:Hp):(xI h H).objs.size=h.objs.size:=PySem.W.hideAll_size _ _
def y6(e:h.get? b=OV o)(n:H b=OW):(xI h H).get? b=OV o :=
 PySem.W.hideAll_get _ e λa=>by
  let q:(H b).isSome=OX:=(cc.mp a).2;rw[n]at q;simp at q
def B3(e:(xI h H).get? b=OV o):h.get? b=OV o/\H b=OW:=by
 let a:h.get? b=OV o:=PySem.W.of_hideAll (trk h H) e;show(a,?_);cases q:H b with
 |none=>rfl
 |some x =>
  let c:b∈trk h H:=cc.mpr (L1.mpr (KB a),by simp[q]);let z:(xI h H).get? b=OW:=PySem.W.hideAll_none (trk h H) c;rw[z]at e;cases e
noncomputable def De(g h:bb)(L:ac):Oq:=(dm h.objs.size).filterMap λa=>if a=L\/(g.get? a).isSome=OX then OW else (h.get? a).map λo=>(a,o)
def rest(g h:bb)(L d:ac):Oq:=(De g h L).filter λp=>decide (p.1≠d)
structure Mod(K:bg)(mg:bc->OB)(base:bb):Prop where
 kin:K.In base
 glob:base.Ns k0 mg
 blt:∃mb,base.Ns QC mb/\∀x:bc,x ≠ "__name__" -> mb x=Qz x
 nolimit:base.NoLimit
 bmain:∃bm ob,mg "__builtins__" = some (.ref bm)/\bm≠QC/\base.get? bm=some ob/\ob.cls=.type "module" /\ ob.dict=some QC/\ob.data=.plain
def fU:OP:=["choices","full_rows","chain_plan","least_ranks"]
def kh(K:bg)(T:ac)(q:bc):Prop:=∃x∈fU,∃f o fd c oc vs,bt K k0 x=OV (OV (.ref f))/\K.lookup f=OV o/\o.data=.func fd/\fd.code=.ref c /\
 K.lookup c=OV oc/\oc.data=.fields vs/\vs[11]?=OV (.ref T)/\q=x ++ ".<locals>.<lambda>"
def AS(K:bg)(H:Hp):Prop:=∀T q,kh K T q->H T=OV (.tbl q)
structure Cx where
 prog:k5
 w : q3
 K : bg
 mg : bc->OB
 base:bb
 A : Around
 N : OP
 s₀ : az
 H₀ : Hp
 env:Env
 outer:OI
 stack:OI
 ex : OO
 fn : bc->Bool
 calm:Bool
 pn : Oq
 xe : ao->az->Prop
def frs(l:OI):OO:=l.filterMap (·.frame)
abbrev Cx.fs(X:Cx):OO:=frs X.outer
def Vis(sc:Qq)(x:bc):Prop:=sc.names.lookup x=OV .local\/sc.names.lookup x=OV .cell\/sc.names.lookup x=OV .free
def Loc(sc:Qq)(x:bc):Prop:=sc.names.lookup x=OV .local\/sc.names.lookup x=OV .cell
def Kf(env:Env)(h:bb)(m:bc->OB)(x:bc)(u:ao):Prop :=
 (env.kindOf x=OV .local/\m x=OV u)\/((env.kindOf x=OV .cell\/env.kindOf x=OV .free)/\∃c,env.cells.lookup x=OV c/\h.IsCell c (OV u))
structure Cx.Ok(X:Cx):Prop where
 mod:Mod X.K X.mg X.base
 kind:X.env.scope.kind=.function
 glob:X.env.globals=k0
 blt:X.env.builtins=QC
 above:X.s₀.heap.objs.size<=X.env.locals
 inj:∀x y c,X.env.cells.lookup x=some c->X.env.cells.lookup y=some c->x=y
 has:∀x,(X.env.kindOf x=some .cell\/X.env.kindOf x=some .free)->∃c,X.env.cells.lookup x=some c
 cab:∀x c,X.fn x=true->X.env.cells.lookup x=some c->X.s₀.heap.objs.size<=c
 hd : X.calm=true->X.A.handled=none
 frames:X.A.frames=some X.stack
 stk:X.stack=X.outer\/(X.stack=X.env::X.outer/\X.env.frame=some X.env.locals)
 exf:∀b∈X.ex,b≠X.env.locals/\∀x c,X.env.cells.lookup x=some c->c≠b
 bs : ∀b o,X.base.get? b=some o->X.s₀.heap.get? b=some o/\X.H₀ b=none
 bsz:X.base.objs.size<=X.s₀.heap.objs.size
 noex:∀b o,X.base.get? b=some o->b ∉ X.ex
 exfs:∀b∈X.ex,b ∉ X.fs
 funs:X.s₀.heap.FunFrames X.base X.outer
 frf:∀b∈X.fs,X.H₀ b=none
 tab:AS X.K X.H₀
structure Inv(X:Cx)(pins:Oq)(σ:List (Option V))(H:Hp)(s:az):Prop where
 ok : X.Ok
 os : s.os=X.s₀.os
 bare:Zg s.gens
 base:Un X.fs X.ex X.H₀ H X.s₀.heap s.heap
 loc:∃m,s.heap.Ns X.env.locals m/\∀(i:Nat) (x:bc) (v:V),X.N[i]?=some x->σ[i]?=some (some v)->Vis X.env.scope x->∃u,bE v u/\Kf X.env s.heap m x u
 cell:∀x c,X.env.cells.lookup x=some c->∃v,s.heap.IsCell c v
 free:H X.env.locals=none
 freeC:∀x c,X.env.cells.lookup x=some c->H c=none
 pin:∀p∈X.pn++pins,s.heap.get? p.1=some p.2/\H p.1=none/\p.1≠X.env.locals/\p.1 ∉ X.fs/\∀v,p.2.data≠.cell v
 hok:HOk X.prog X.w H s.heap
 len:σ.length=X.N.length
section
variable{X:Cx}{pins:Oq}{σ:List (Option V)}{H H':Hp}{s:az}{h':bb}
def Cx.Ok.nofr(ok:X.Ok)(e:X.base.get? b=OV o):b ∉ X.fs:=λa=>by
 let:=(ok.funs.mem a).1;rw[e]at this;cases this
theorem Inv.bs(I:Inv X pins σ H s):∀b o,X.base.get? b=OV o->s.heap.get? b=OV o/\H b=OW:=λb o e =>
 (I.base.keep b o (I.ok.bs b o e).1 (I.ok.bs b o e).2 (I.ok.nofr e) (I.ok.noex b o e),I.base.free b o (I.ok.bs b o e).1 (I.ok.bs b o e).2 (I.ok.noex b o e))
def Inv.bk(I:Inv X pins σ H s):∀b o,X.base.get? b=OV o->s.heap.get? b=OV o:=λb o e=>(I.bs b o e).1
theorem Inv.mod(I:Inv X pins σ H s):Mod X.K X.mg X.base:=I.ok.mod
def Inv.kIn(I:Inv X pins σ H s):X.K.In s.heap:=I.ok.mod.kin.keeps I.bk
theorem Inv.lt(I:Inv X pins σ H s):X.env.locals<(~~~s):=let ⟨_,hn,_⟩:=I.loc;hn.lt
def Inv.sz(I:Inv X pins σ H s):X.s₀.heap.objs.size<=(~~~s):=Kr I.ok.above (LP I.lt)
def Inv.nofs(I:Inv X pins σ H s){a:ac}(h:(~~~s)<=a):a ∉ X.fs:=λb=>by
 let(_,o,ho,_):=I.ok.funs.mem b;show absurd (Ku (KB ho) (Kr I.sz h)) (LF _)
def Inv.cne(I:Inv X pins σ H s):∀x c,X.env.cells.lookup x=OV c->c≠X.env.locals:=λx c e z=>by
 let(v,o,ho,hd):=I.cell x c e;let(m,(o',es,ep,a,b,_),_):=I.loc;rw[z,a]at ho;cases ho;rw[b]at hd;cases hd
theorem Inv.funs(I:Inv X pins σ H s):s.heap.FunFrames X.base X.outer:=by
 let all:∀(l:OI),(∀b∈frs l,b∈X.fs)->X.s₀.heap.FunFrames X.base l->s.heap.FunFrames X.base l:=by
  intro l
  induction l with
  |nil=>intro _ _;trivial
  |cons env r d =>
   intro hs f;let(hk,(L,o,a,hn,ho,hd),g):=f;let hL:L∈X.fs:=hs L (by unfold frs;rw[r4,a];show Ks);let(sl,e):=I.base.slot L o ho (I.ok.frf L hL) hL λz=>I.ok.exfs L z hL;show(hk,(L,_,a,hn,e,hd),d (λb c=>hs b (by unfold frs;rw[r4,a];show Kv _ c)) g)
 show all X.outer (λY c=>c) I.ok.funs
theorem Inv.stack(I:Inv X pins σ H s):s.heap.FunFrames X.base X.stack:=by
 rcases I.ok.stk with e|⟨e,a⟩
 rw[e];show I.funs;rw[e];let(m,hn,_):=I.loc;show .cons (by rw[I.ok.kind];decide) a hn ?_ I.funs;show M8 (Kr I.ok.bsz I.ok.above)
def Inv.stkSub(I:Inv X pins σ H s):∀b∈frs X.stack,b∈X.env.locals::X.fs:=λb a=>by
 rcases I.ok.stk with e|⟨e,c⟩
 rw[e]at a;show Kv _ a;rw[e]at a;unfold frs at a;rw[r4,c]at a;show a
def Inv.stkFree(I:Inv X pins σ H s):∀b∈frs X.stack,H b=OW:=λb a=>by
 rcases Kt.mp (I.stkSub b a) with e|a;rw[e];show I.free;let(_,o,ho,_):=I.ok.funs.mem a;show I.base.free b o ho (I.ok.frf b a) λz=>I.ok.exfs b z a
def Inv.step{g':Array GenState}{t':Nat}{d':Drawn}{ch:OO}(I:Inv X pins σ H s)
  (a:∀b∈ch,(b∈X.ex\/X.s₀.heap.objs.size<=b)/\b≠X.env.locals/\(∀x c,X.env.cells.lookup x=some c->c≠b)/\∀p∈X.pn++pins,p.1≠b)
  (keep:∀b o,b≠X.env.locals->b ∉ X.fs->b ∉ ch->s.heap.get? b=some o->H b=none->h'.get? b=some o)
  (slot:∀b o,b≠X.env.locals->b∈X.fs->b ∉ ch->s.heap.get? b=some o->H b=none->∃sl,h'.get? b=some { o with slots:=sl }) (free:∀b o,b ∉ ch->s.heap.get? b=some o->H b=none->H' b=none)
  (there:∀b o,b ∉ ch->s.heap.get? b=some o->∃o',h'.get? b=some o')
  (tups:∀b xs,H b=some (.tup xs)->H' b=some (.tup xs)) (frzs:∀b o u,H b=some (.frz o u)->H' b=some (.frz o u)) (tbls:∀b ps,H b=some (.tbl ps)->H' b=some (.tbl ps))
  (ns:∀m,s.heap.Ns X.env.locals m->h'.Ns X.env.locals m) (hok:HOk X.prog X.w H' h') (hg:Zg g') :
  Inv X pins σ H' { s with heap:=h',gens:=g',drawn:=d',toks:=t' }:=by
 let t:∀b o,X.s₀.heap.get? b=OV o->b≠X.env.locals:=λb o e=>KO (Ku (KB e) I.ok.above);let h:∀b o,X.s₀.heap.get? b=OV o->b ∉ X.ex->b ∉ ch:=λb o e hx j=>by
  rcases(a b j).1 with z|z;show hx z;show absurd (Ku (KB e) z) (LF _)
 let f:∀x c,X.env.cells.lookup x=OV c->∀v,s.heap.IsCell c v->h'.IsCell c v:=λx c e v hz=>by
  let(o,ho,hd):=hz;let g:c ∉ ch:=λz=>(a c z).2.2.1 x c e rfl;by_cases hc:c∈X.fs;let(sl,q):=slot c o (I.cne x c e) hc g ho (I.freeC x c e);show(_,q,hd);show(o,keep c o (I.cne x c e) hc g ho (I.freeC x c e),hd)
 show(I.ok,I.os,hg,(λb o e n j hx=>?_,λb o e n j hx=>?_,λb o e n hx=>?_,λb o e hx=>?_,λb xs e=>tups b xs (I.base.tups b xs e),λb o xs e=>frzs b o xs (I.base.frzs b o xs e),λb ps e=>?_),?_,λx c e=>?_,?_,λx c e=>?_,λp A=>?_,hok,I.len);show keep b o (t b o e) j (h b o e hx) (I.base.keep b o e n j hx) (I.base.free b o e n hx);let(sl,e1):=I.base.slot b o e n j hx;let(y,e2):=slot b _ (t b o e) j (h b o e hx) e1 (I.base.free b o e n hx);show(y,e2);let(o',e1):=I.base.there b o e hx;show free b o' (h b o e hx) e1 (I.base.free b o e n hx);let(o',e1):=I.base.there b o e hx;show there b o' (h b o e hx) e1;show tbls b ps (I.base.tbls b ps e);let(m,hn,C):=I.loc;show(m,ns m hn,λi x v e1 e2 e3=>?_);let(u,r,l):=C i x v e1 e2 e3;show(u,r,?_);rcases l with l|⟨k,c,e,z⟩
 show .inl l;show .inr (k,c,e,f x c e _ z);let(v,z):=I.cell x c e;show(v,f x c e v z);let(m,(o,_,_,ho,_),_):=I.loc;show free _ o (λz=>(a _ z).2.1 rfl) ho I.free;let(v,o,ho,hd):=I.cell x c e;show free c o (λz=>(a c z).2.2.1 x c e rfl) ho (I.freeC x c e);let(e,n,ne,B,d):=I.pin p A;let g:p.1 ∉ ch:=λz=>(a p.1 z).2.2.2 p A rfl;show(keep p.1 p.2 ne B g e n,free p.1 p.2 g e n,ne,B,d)
def Inv.un(I:Inv X pins σ H s)(u:Un X.fs [] H H' s.heap h')(hok:HOk X.prog X.w H' h'):Inv X pins σ H' { s with heap:=h',toks:=t' }:=by
 let(m,(o,es,ep,ho,r),_):=id I.loc;let(sl,hL):=u.any ho I.free (!1);show I.step (g':=s.gens) (d':=s.drawn) (ch:=[]) (λY z=>nomatch z) (λb o Y c Y e n=>u.keep b o e n c (!1)) (λb o Y c Y e n=>u.slot b o e n c (!1)) (λb o Y e n=>u.free b o e n (!1)) (λb o Y e=>u.there b o e (!1)) u.tups u.frzs u.tbls (λi g=>by
  cbv;let(o',d,f,a,h):=g;rw[ho]at a;cases a
  w_up;show(_,d,f,hL,h)) hok I.bare
def Inv.call(I:Inv X pins σ H s)(u:Un (frs X.stack) ch H H' s.heap h')(hok:HOk X.prog X.w H' h')(hg:Zg g')
  (a:∀b∈ch,(b∈X.ex\/X.s₀.heap.objs.size<=b)/\b≠X.env.locals/\(∀x c,X.env.cells.lookup x=some c->c≠b)/\∀p∈X.pn++pins,p.1≠b) :
  Inv X pins σ H' { s with heap:=h',gens:=g',drawn:=d',toks:=t' }:=by
 let(m,(o,es,ep,ho,r),_):=id I.loc;let(sl,hL):=u.any ho I.free λz=>(a _ z).2.1 rfl;show I.step (ch:=ch) a (λb o hL h hc e n=>u.keep b o e n (λz=>(Kt.mp (I.stkSub b z)).elim hL h) hc) (λb o Y Y hc e n=>u.any e n hc) (λb o hc e n=>u.free b o e n hc) (λb o hc e=>u.there b o e hc) u.tups u.frzs u.tbls (λk i=>by
  cbv;let(o',f,g,d,j):=i;rw[ho]at d;cases d
  w_up;show(_,f,g,hL,j)) hok hg
def Inv.turned(I:Inv X pins σ H s)(k:∀b o,b≠it->s.heap.get? b=some o->h'.get? b=some o)(hn:H it=none)(hL:it≠X.env.locals)
  (h1:it∈X.ex\/X.s₀.heap.objs.size<=it) (h2:∀x c,X.env.cells.lookup x=some c->c≠it) (h3:∀p∈X.pn++pins,p.1≠it):Inv X pins σ H { s with heap:=h',toks:=t' }:=by
 let a:∀b u,H b=OV u->b≠it:=λb u e z=>by rw[z,hn]at e;cases e
 show I.step (g':=s.gens) (d':=s.drawn) (ch:=[it]) (λb d=>?_) (λb o Y Y hc e Y=>k b o (λz=>hc (by simp[z])) e) (λb o Y Y hc e Y=>(o.slots,k b o (λz=>hc (by simp[z])) e)) (λY Y Y Y n=>n)
  (λb o hc e=>(o,k b o (λz=>hc (by simp[z])) e)) (λY Y e=>e) (λY Y Y e=>e) (λY Y e=>e) (λm f=>?_) (λb u e=>?_) I.bare
 let e:b=it:=by simpa using d
 subst e;show(h1,hL,h2,h3);let(o,es,ep,ho,r):=f;show(o,es,ep,k _ o (Ne.symm hL) ho,r);show(I.hok b u e).stay (λc v hc q=>k c v ?_ q) (λY q=>q) λY Y Y q=>q;rcases hc with z|z;rw[z];show a b u e;show a c _ z
def Inv.tok(I:Inv X pins σ H s)(t:Nat):Inv X pins σ H { s with toks:=t }:=I.un (h':=s.heap) (t':=t) Un.refl I.hok
theorem Inv.kept(I:Inv X pins σ H s)(k:∀b u,s.heap.get? b=some u->h'.get? b=some u):Inv X pins σ H { s with heap:=h',toks:=t' }:=I.un (Un.kept k) (I.hok.kept k)
theorem Inv.laid{a:ac}{o:HO}{t':Nat}(I:Inv X pins σ H s)(k:∀b u,s.heap.get? b=some u->h'.get? b=some u)(c:s.heap.objs.size<=a)(new:fL X.prog X.w (upd H a o) h' a o) :
  Inv X pins σ (upd H a o) { s with heap:=h',toks:=t' }:=I.un (Un.laid k c (I.hok.fresh c)) (I.hok.laid k c new)
theorem Inv.write(I:Inv X pins σ H s)(c:Mut (H x))(d:e=x\/H e=some (.own x))(k:∀b u,b≠e->s.heap.get? b=some u->h'.get? b=some u)(a:∃u,h'.get? e=some u)
  (new:fL X.prog X.w (upd H x o) h' x o):Inv X pins σ (upd H x o) { s with heap:=h',toks:=t' }:=I.un (Un.write c d k a) (I.hok.write c d k a new)
def Inv.pins_of(I:Inv X pins σ H s)(h:∀p∈pins',s.heap.get? p.1=OV p.2/\H p.1=OW/\p.1≠X.env.locals/\p.1 ∉ X.fs/\∀v,p.2.data≠.cell v):Inv X pins' σ H s :=
 (I.ok,I.os,I.bare,I.base,I.loc,I.cell,I.free,I.freeC,λp a=>(Km.mp a).elim (λz=>I.pin p (Kp _ z)) (h p),I.hok,I.len)
def rR{N:OP}(hN:N.Nodup){i j:Nat}{x:bc}(a:N[i]?=OV x)(b:N[j]?=OV x):i=j:=by let(h1,e1):=Kx.mp a;let(h2,e2):=Kx.mp b;show(L5 hN).mp (e1.trans e2.symm)
def mS(I:Inv X pins σ H s)(hN:X.N.Nodup)(hi:X.N[i]?=some x)(hx:Loc X.env.scope x)(r:bE v u)
  (h : ∀s',Inv X pins (σ.set i (some v)) H s'->(∃a,gk a s.heap s'.heap/\(a=X.env.locals\/X.env.cells.lookup x=some a))->Q () s') (U:X.fn x=true\/X.env.scope.names.lookup x=some .local:=by walk_at"v1"):j4 M A (storeName X.env x u) Q E s:=by
 let(m,hn,T):=id I.loc;let C:(X.env.scope.kind==.class ||(X.env.scope.kind==.module&&X.env.locals != X.env.globals))=OY:=by rw[I.ok.kind];rfl
 let l:i< -σ:=by rw[I.len];show(Kx.mp hi).1
 let cne:=I.cne;let f:∀{a:ac}{h':bb},(∃o,s.heap.get? a=OV o/\H a=OW)->gk a s.heap h'->HOk X.prog X.w H h':=λ{a h'} W hs b ob e=>by
  let(_,_,g):=W;show(I.hok b ob e).stay (λc w' hc q=>(hs.2 c ?_).trans q) (λV q=>q) λV V V q=>q;rintro rfl;rcases hc with rfl|hc;rw[g]at e;cases e;rw[g]at hc;cases hc
 rcases hx with hk|hk
 .show wpAny_storeName_local hk hn (λh' K hs=>?_) C;let(Y,_,_,L,_):=id hn;show h _ (I.ok,I.os,I.bare,(λb o e n t hx=>?_,λb o e n t hx=>?_,I.base.free,λb o e hx=>?_,I.base.tups,I.base.frzs,I.base.tbls),(_,K,λj y v' e1 e2 e3=>?_),λy c e=>?_,I.free,I.freeC,λp O=>?_,f (Y,L,I.free) hs,by simpa using I.len) (_,hs,.inl rfl);show(hs.2 b (KO (Ku (KB e) I.ok.above))).trans (I.base.keep b o e n t hx);let(sl,e1):=I.base.slot b o e n t hx;show(sl,(hs.2 b (KO (Ku (KB e) I.ok.above))).trans e1);let(o',e1):=I.base.there b o e hx;show(o',(hs.2 b (KO (Ku (KB e) I.ok.above))).trans e1)
  .by_cases hj:j=i
   .cbv;subst hj;rw[hi]at e1;cases e1;rw[KN l]at e2;cases e2
    w_up;show(u,r,.inl (hk,!1))
   rw[KS (Ne.symm hj)]at e2;let(P,R,q):=T j y v' e1 e2 e3;show(P,R,?_);rcases q with⟨k,e⟩|⟨k,c,e,z⟩
   show .inl (k,?_);let:y≠x:=λe=>hj (rR hN e1 (e▸hi));simp[this,e];show .inr (k,c,e,z.sameBut hs (cne y c e))
  let(w',z):=I.cell y c e;show(w',z.sameBut hs (cne y c e));let(e,n,ne,S,d):=I.pin p O;show((hs.2 p.1 ne).trans e,n,ne,S,d)
 .let B:X.fn x=OX:=by
   rcases U with z|z;show z;rw[z]at hk;cases hk
  let(c,hc):=I.ok.has x (.inl hk);let(w',z):=I.cell x c hc;show wpAny_storeName_cell I.ok.kind hk hc z (λh' D hs=>?_);let(oc,F,G):=id z;show h { s with heap:=h' } (I.ok,I.os,I.bare,(λb o e n t hx=>?_,λb o e n t hx=>?_,I.base.free,λb o e hx=>?_,I.base.tups,I.base.frzs,I.base.tbls),(m,hn.sameBut hs (Ne.symm (cne x c hc)),λj y v' e1 e2 e3=>?_),λy c' e=>?_,I.free,I.freeC,λp O=>?_,f (oc,F,I.freeC x c hc) hs,by simpa using I.len) (c,hs,.inr hc);show(hs.2 b (KO (Ku (KB e) (I.ok.cab x c B hc)))).trans (I.base.keep b o e n t hx);let(sl,e1):=I.base.slot b o e n t hx;show(sl,(hs.2 b (KO (Ku (KB e) (I.ok.cab x c B hc)))).trans e1);let(o',e1):=I.base.there b o e hx;show(o',(hs.2 b (KO (Ku (KB e) (I.ok.cab x c B hc)))).trans e1)
  .by_cases hj:j=i
   .cbv;subst hj;rw[hi]at e1;cases e1;rw[KN l]at e2;cases e2
    w_up;show(u,r,.inr (.inl hk,c,hc,D))
   rw[KS (Ne.symm hj)]at e2;let(P,R,q):=T j y v' e1 e2 e3;show(P,R,?_);rcases q with q|⟨k,c',e,Z⟩
   show .inl q;show .inr (k,c',e,Z.sameBut hs ?_);rintro rfl;show hj (rR hN e1 (I.ok.inj _ _ _ e hc▸hi))
  by_cases J:c'=c;subst J;show(_,D);let(w2,z2):=I.cell y c' e;show(w2,z2.sameBut hs J);let(e,n,ne,S,d):=I.pin p O;show((hs.2 p.1 ?_).trans e,n,ne,S,d);intro q;rw[q,F]at e;let q':oc=p.2:=di e;show d w' (by rw[<-q'];show G)
def iZ(I:Inv X pins σ H s)(hN:X.N.Nodup)(hi:X.N[i]?=some x)(hx:Loc X.env.scope x)(r:bE v u)
  (h : ∀s',Inv X pins (σ.set i (some v)) H s'->Q () s') (a:X.fn x=true\/X.env.scope.names.lookup x=some .local:=by walk_at"v1"):j4 M A (storeName X.env x u) Q E s :=
 mS I hN hi hx r (λs' b Y=>h s' b) a
def Inv.call'(I:Inv X pins σ H s)(ho:s'.os=s.os)(u:Un (frs X.stack) ch H H' s.heap s'.heap)(hok:HOk X.prog X.w H' s'.heap)(hg:Zg s'.gens)
  (a:∀b∈ch,(b∈X.ex\/X.s₀.heap.objs.size<=b)/\b≠X.env.locals/\(∀x c,X.env.cells.lookup x=OV c->c≠b)/\∀p∈X.pn++pins,p.1≠b):Inv X pins σ H' s':=by let(h',g',d',t',o'):=s';let e:o'=s.os:=ho;subst e;show I.call (g':=g') (t':=t') (d':=d') u hok hg a
end
abbrev XK:=ao->OC->Hp->Prop
abbrev St:=List (Option V)
abbrev VK:=V->Hp->Prop
abbrev TE:=St->Hp->VK->Prop
abbrev TT:=St->Hp->(Bool->Hp->Prop)->Prop
abbrev TA:=St->Hp->(OU->Hp->Prop)->Prop
structure dA where
 nx : St->Hp->Prop
 rt : VK
 bk : St->Hp->Prop:=λ_ _=>False
 ct : St->Hp->Prop:=λ_ _=>False
abbrev TS:=dA->St->Hp->Prop
def EP(X:Cx)(pins:Oq)(σ:St)(Q:VK)(u:ao)(s':az):Prop:=∃v H',Inv X pins σ H' s'/\bE v u/\Q v H'
def TP(X:Cx)(pins:Oq)(σ:St)(Q:Bool->Hp->Prop)(b:Bool)(s':az):Prop:=∃H',Inv X pins σ H' s'/\Q b H'
def AP(X:Cx)(pins:Oq)(σ:St)(Q:OU->Hp->Prop)(us:ON)(s':az):Prop:=∃vs H',Inv X pins σ H' s'/\aS vs us/\Q vs H'
def SP(X:Cx)(pins:Oq)(D:dA)(f:Flow)(s':az):Prop :=
 match f with
 |.next=>∃σ' H',Inv X pins σ' H' s'/\D.nx σ' H'
 |.brk=>∃σ' H',Inv X pins σ' H' s'/\D.bk σ' H'
 |.cont=>∃σ' H',Inv X pins σ' H' s'/\D.ct σ' H'
 |.ret u=>∃v σ' H',Inv X pins σ' H' s'/\bE v u/\D.rt v H'
def PE(X:Cx)(e:ba)(t:TE):Prop :=
 ∀(pins:Oq) (s:az) (σ:St) (H:Hp) (Q:VK),Inv X pins σ H s->t σ H Q->j4 (kq X.prog X.w) X.A (eval e X.env) (EP X pins σ Q) X.xe s
def PT(X:Cx)(e:ba)(t:TT):Prop :=
 ∀(pins:Oq) (s:az) (σ:St) (H:Hp) (Q:Bool->Hp->Prop),Inv X pins σ H s->t σ H Q->j4 (kq X.prog X.w) X.A (Zo e X.env (eval e X.env)) (TP X pins σ Q) X.xe s
def PW(X:Cx)(e:ba)(t:TT):Prop :=
 ∀(a:Sem ao) (pins:Oq) (s:az) (σ:St) (H:Hp) (Q:Bool->Hp->Prop),Inv X pins σ H s->t σ H Q->j4 (kq X.prog X.w) X.A (Zo e X.env a) (TP X pins σ Q) X.xe s
def PW.pt(h:PW X e t):PT X e t:=h _
def PA(X:Cx)(es:OS)(t:TA):Prop :=
 ∀(pos:Pos) (pins:Oq) (s:az) (σ:St) (H:Hp) (Q:OU->Hp->Prop),Inv X pins σ H s->t σ H Q->j4 (kq X.prog X.w) X.A (spliced (z4 pos (j0 es X.env))) (AP X pins σ Q) X.xe s
def PS(X:Cx)(st:Stmt)(t:TS):Prop :=
 ∀(pins:Oq) (s:az) (σ:St) (H:Hp) (D:dA),Inv X pins σ H s->t D σ H->j4 (kq X.prog X.w) X.A (exec st X.env) (SP X pins D) X.xe s
def PSs(X:Cx)(st:List Stmt)(t:TS):Prop :=
 ∀(pins:Oq) (s:az) (σ:St) (H:Hp) (D:dA),Inv X pins σ H s->t D σ H->j4 (kq X.prog X.w) X.A (execs st X.env) (SP X pins D) X.xe s
def thn{α:Type}{t:Sem α}{Q b:α->az->Prop}{M:Model}{A:Around}{E:ao->az->Prop}{s:az}(h:j4 M A t Q E s)(hQ:∀a s,Q a s->b a s):j4 M A t b E s:=KX h hQ λY Y x=>x
section
variable{X:Cx}
def uu(i:Nat):TE:=λσ H Q=>∃v,σ[i]?=OV (OV v)/\Q v H
def tC(v:V):TE:=λY H Q=>Q v H
def bJ{i:Nat}{x:bc}{pos:Pos}(hN:X.N[i]?=some x)(hv:Vis X.env.scope x)(hd:(x==("__debug__" : bc))=false:=by decide)(b:(x==("__classdict__" : bc))=false:=by decide):PE X (.Name x pos) (uu i):=by
 intro pins s σ H Q I h
 cbv;let(v,e,h):=h;let(m,hn,d):=I.loc;let(u,r,l):=d i x v hN e hv
 w_up;let fin:EP X pins σ Q u s:=(v,H,I,r,h)
 rcases l with⟨hk,f⟩|⟨hk,c,hc,a⟩
 show wpAny_Name (wpAny_loadName_local I.ok.kind hk hn f fin) hd;rcases hk with hk|hk;show wpAny_Name (wpAny_loadName_cell I.ok.kind hk hc a fin) hd;show wpAny_Name (wpAny_loadName_free I.ok.kind hk hc a fin b) hd
def kL:PE X (.Constant (.int i) j pos) (tC (.int i)):=λY Y Y H Y I h=>wpAny_Constant_int (.int i,H,I.tok _,(_,rfl),h)
def G4:PE X (.Constant (.bool b) j pos) (tC (.bl b)):=λY Y Y H Y I h=>Constant_bool (.bl b,H,I,rfl,h)
def Ez:PE X (.Constant .none j pos) (tC .non):=λY Y Y H Y I h=>Constant_none (.non,H,I,rfl,h)
def Gl(X:Cx)(x:bc):Prop:=X.env.kindOf x=OV .globalImplicit
def Cd{E:ao->az->Prop}{pins:Oq}{s:az}{σ:St}{H:Hp}{x:bc}{u:ao}{pos:Pos}{Q:ao->az->Prop}(I:Inv X pins σ H s)(hg:Gl X x)(a:X.mg x=some u)(h:Q u s)
  (hd:(x==("__debug__" : bc))=false:=by decide):j4 (kq X.prog X.w) X.A (eval (.Name x pos) X.env) Q E s :=
 Calls.Name_function_global I.ok.kind hg (Calls.loadGlobal_global (by rw[I.ok.glob];show I.mod.glob.keeps I.bk) a h) hd
def gS{E:ao->az->Prop}{pins:Oq}{s:az}{σ:St}{H:Hp}{x:bc}{u:ao}{pos:Pos}{Q:ao->az->Prop}(I:Inv X pins σ H s)(hg:Gl X x)(a:X.mg x=none)(hv:Qz x=some u)(h:Q u s)
  (hn:x ≠ "__name__" := by decide) (hd:(x==("__debug__" : bc))=false:=by decide):j4 (kq X.prog X.w) X.A (eval (.Name x pos) X.env) Q E s:=by let(mb,h1,h2):=I.mod.blt;show Calls.Name_function_global I.ok.kind hg (Calls.loadGlobal_builtin (by rw[I.ok.glob];show I.mod.glob.keeps I.bk) a (by rw[I.ok.blt];show h1.keeps I.bk) ((h2 x hn).trans hv) h) hd
def BV{x:bc}{v:V}{u:ao}{pos:Pos}(hg:Gl X x)(a:X.mg x=none)(hv:Qz x=some u)(r:bE v u)(hn:x ≠ "__name__" := by decide)(hd:(x==("__debug__" : bc))=false:=by decide):PE X (.Name x pos) (tC v) :=
 λY Y Y H Y I h=>gS I hg a hv (v,H,I,r,h) hn hd
variable{a b:ba}{ta tb:TE}{pos:Pos}
def tB(t:TE):TT:=λσ H Q=>t σ H λx H1=>∃c,x=.bl c/\Q c H1
def Ep(h:PE X e t)(c:∀a,Zo e X.env a=(do let v <-a;Q0 e.pos;Qo [v] (ZX v)):=by intro _;rfl):PT X e (tB t):=by
 intro pins s σ H Q I hw;show isTrue_plain (thn (h pins s σ H _ I hw) λv s1 b=>?_) (c _)
 cbv;let(x,H1,f,g,q1):=b;let(d,rfl,q):=q1;cases g
 w_up;show QK (H1,f,q)
variable{tA tB':TT}{rest:OS}
def JN(t u:TT):TT:=λσ H Q=>t σ H λc H1=>if c=OX then u σ H1 Q else Q OY H1
def tOr(t u:TT):TT:=λσ H Q=>t σ H λc H1=>if c=OX then Q OX H1 else u σ H1 Q
def JJ(t:TT):TT:=λσ H Q=>t σ H λc H1=>Q (!c) H1
def BB(b:PT X a tA):PW X (.BoolOp .And [a] pos) tA:=by
 intro wh pins s σ H Q I h;show isTrue_and (thn (b pins s σ H Q I h) λc s1 e=>?_);cases c with
 |true=>show isTrue_and_nil e
 |false=>show e
def Em(b:PT X a tA):PW X (.BoolOp .Or [a] pos) tA:=by
 intro wh pins s σ H Q I h;show isTrue_or (thn (b pins s σ H Q I h) λc s1 e=>?_);cases c with
 |false=>show isTrue_or_nil e
 |true=>show e
def Eo(f:PT X a tA)(g:PW X (.BoolOp .And (b::rest) pos) tB'):PW X (.BoolOp .And (a::b::rest) pos) (JN tA tB'):=by
 intro wh pins s σ H Q I h;show isTrue_and (thn (f pins s σ H _ I h) λc s1 d=>?_);let(H1,e,q1):=d;cases c with
 |true=>show g wh pins s1 σ H1 Q e q1
 |false=>show(H1,e,q1)
def G0(f:PT X a tA)(g:PW X (.BoolOp .Or (b::rest) pos) tB'):PW X (.BoolOp .Or (a::b::rest) pos) (tOr tA tB'):=by
 intro wh pins s σ H Q I h;show isTrue_or (thn (f pins s σ H _ I h) λc s1 d=>?_);let(H1,e,q1):=d;cases c with
 |true=>show(H1,e,q1)
 |false=>show g wh pins s1 σ H1 Q e q1
def Er(b:PT X a tA):PT X (.UnaryOp .Not a pos) (JJ tA):=by intro pins s σ H Q I h;show isTrue_not (b pins s σ H (λc H1=>Q (!c) H1) I h)
def tIf(t:TT)(ta tb:TE):TE:=λσ H Q=>t σ H λc H1=>if c=OX then ta σ H1 Q else tb σ H1 Q
def yv(hc:PT X c tA)(g:PE X a ta)(i:PE X b tb):PE X (.IfExp c a b pos) (tIf tA ta tb):=by
 intro pins s σ H Q I h;show wpAny_IfExp (thn (hc pins s σ H _ I h) λd s1 e=>?_);let(H1,f,q1):=e;cases d with
 |true=>show g pins s1 σ H1 Q f q1
 |false=>show i pins s1 σ H1 Q f q1
end
def SqL(K:bg)(H:Hp)(a:ac)(xs:OU):Prop :=
 Rd H a (.lst xs) \/
  ∃(o:Obj) (its:OF) (n:Nat),K.lookup a=OV o/\o.cls=.type "list" /\ o.dict=OW/\o.data=.seq its n/\its.size<=sizeLine/\aS xs its.toList
def SqT(K:bg)(H:Hp)(a:ac)(xs:OU):Prop :=
 Rd H a (.tup xs) \/
  ∃(o:Obj) (its:OF) (n:Nat),K.lookup a=OV o/\(o.cls=.type "tuple" /\ o.dict=OW)/\o.data=.seq its n/\its.size<=sizeLine/\aS xs its.toList
noncomputable def Kd:ao->Option V
 |.none=>OV .non
 |.bool b=>OV (.bl b)
 |.int i _=>OV (.int i)
 |.str x _=>OV (.str x)
 |.bytes b _=>OV (.byt b)
 |.float b _=>OV (.flt b)
 |.ref a=>OV (.ref a)
 |.type n=>OV (.ty n)
 |_=>OW
def bE.abs(r:bE x u):Kd u=OV x:=by
 cases x with
 |non=>cases r;rfl
 |bl _=>cases r;rfl
 |int _=>let(t,rfl):=r;rfl
 |str _=>let(t,rfl):=r;rfl
 |byt _=>let(t,rfl):=r;rfl
 |flt _=>let(t,rfl):=r;rfl
 |ref _=>cases r;rfl
 |ty _=>cases r;rfl
def bE.inj(r:bE x u)(q:bE y u):x=y:=di (r.abs.symm.trans q.abs)
theorem aS.inj(h:aS xs us):aS ys us->xs=ys:=by
 induction h generalizing ys with
 |nil =>
  intro q;cases q;rfl
 |cons r t a =>
  intro q;cases q with
  |cons b t'=>rw[r.inj b,a t']
section
variable{X:Cx}{pins:Oq}{σ:St}{H:Hp}{s:az}{a:ac}{xs ys:OU}
def SqL.of{K:bg}(h:H a=OV (.lst xs)):SqL K H a xs:=.inl (.inl h)
def Inv.list(I:Inv X pins σ H s)(h:SqL X.K H a xs):∃its:ON,aS xs its/\PlainL s.heap a its.toArray/\xs.length<=sizeLine:=by
 rcases h with h|⟨o,its,n,hk,hc,hd,hs,hz,r⟩
 let(z,its,n,r,e):=h.ok I.hok;show(its,r,(_,n,e,rfl,rfl,rfl),z);show(its.toList,r,(o,n,I.kIn a o hk,hc,hd,by simpa using hs),?_);let e:=-r;simp only[lu]at e;lia
def Inv.tuple(I:Inv X pins σ H s)(h:SqT X.K H a xs):∃its:ON,aS xs its/\IsTup s.heap a its.toArray/\xs.length<=sizeLine:=by
 rcases h with h|⟨o,its,n,hk,hc,hs,hz,r⟩
 let(z,its,r,p):=h.ok I.hok;show(its,r,p.is,z);show(its.toList,r,(o,I.kIn a o hk,hc.1,n,by simpa using hs),?_);let e:=-r;simp only[lu]at e;lia
def Inv.tupleN(I:Inv X pins σ H s)(h:SqT X.K H a xs):∃its:ON,aS xs its/\xJ s.heap a its.toArray:=by
 rcases h with h|⟨o,its,n,hk,hc,hs,hz,r⟩
 let(z,its,r,p):=h.ok I.hok;show(its,r,p);show(its.toList,r,(o,I.kIn a o hk,hc.1,(n,by simpa using hs),hc.2))
def Inv.list_inj(I:Inv X pins σ H s)(h:SqL X.K H a xs)(h':SqL X.K H a ys):xs=ys:=by
 cbv;let(its,r,(o,n,e,_,_,d),_):=I.list h;let(its',c,(o',f,b,_,_,d'),_):=I.list h';rw[e]at b;cases b;rw[d]at d';injection d' with d1 _;let:its=its':=by simpa using congrArg NY d1
 subst this
 w_up;show r.inj c
def Inv.tuple_inj(I:Inv X pins σ H s)(h:SqT X.K H a xs)(h':SqT X.K H a ys):xs=ys:=by
 cbv;let(its,r,(o,e,_,n,d),_):=I.tuple h;let(its',c,(o',b,_,f,d'),_):=I.tuple h';rw[e]at b;cases b;rw[d]at d';injection d' with d1 _;let:its=its':=by simpa using congrArg NY d1
 subst this
 w_up;show r.inj c
end
abbrev Cx.wish(X:Cx)(E:ao->az->Prop):Cx:={ X with xe:=E }
abbrev Cx.nox(X:Cx):Cx:=X.wish λY Y=>False
theorem Cx.Ok.wish{X:Cx}(ok:X.Ok)(E:ao->az->Prop):(X.wish E).Ok :=
 (ok.mod,ok.kind,ok.glob,ok.blt,ok.above,ok.inj,ok.has,ok.cab,ok.hd,ok.frames,ok.stk,ok.exf,ok.bs,ok.bsz,ok.noex,ok.exfs,ok.funs,ok.frf,ok.tab)
def Cx.Ok.unwish{X:Cx}(ok:(X.wish E).Ok):X.Ok :=
 (ok.mod,ok.kind,ok.glob,ok.blt,ok.above,ok.inj,ok.has,ok.cab,ok.hd,ok.frames,ok.stk,ok.exf,ok.bs,ok.bsz,ok.noex,ok.exfs,ok.funs,ok.frf,ok.tab)
section
variable{X:Cx}{pins:Oq}{σ:St}{H:Hp}{s:az}{E:ao->az->Prop}
theorem Inv.wish(I:Inv X pins σ H s)(E:ao->az->Prop):Inv (X.wish E) pins σ H s:=(I.ok.wish E,I.os,I.bare,I.base,I.loc,I.cell,I.free,I.freeC,I.pin,I.hok,I.len)
theorem Inv.unwish(I:Inv (X.wish E) pins σ H s):Inv X pins σ H s:=(I.ok.unwish,I.os,I.bare,I.base,I.loc,I.cell,I.free,I.freeC,I.pin,I.hok,I.len)
theorem SP.unwish(h:SP (X.wish E) pins D f s'):SP X pins D f s':=by
 cases f with
 |next=>let(σ',H',I,q):=h;show(σ',H',I.unwish,q)
 |brk=>let(σ',H',I,q):=h;show(σ',H',I.unwish,q)
 |cont=>let(σ',H',I,q):=h;show(σ',H',I.unwish,q)
 |ret u=>let(v,σ',H',I,r,q):=h;show(v,σ',H',I.unwish,r,q)
theorem PSs.nox{st:List Stmt}{t:TS}(h:PSs X.nox st t):PSs X st t:=λpins s σ H D I hw =>
 KX (h pins s σ H D (I.wish _) hw) (λY Y q=>q.unwish) λY Y z=>False.elim z
end
section
variable{X:Cx}{st:Stmt}{rest:List Stmt}{t u:TS}{e:ba}{te:TE}{pos:Pos}
def GA:TS:=λD σ H=>D.nx σ H
def Gy(t u:TS):TS:=λD σ H=>t { D with nx:=u D } σ H
def BD:PSs X [] GA:=λY Y σ H Y I h=>Zh (σ,H,I,h)
def lJ(h1:PS X st t)(h2:PSs X rest u):PSs X (st::rest) (Gy t u):=by
 intro pins s σ H D I h;show ZJ (thn (h1 pins s σ H { D with nx:=u D } I h) λf s1 q=>?_);cases f with
 |next =>
  let(σ',H',a,q):=q;show h2 pins s1 σ' H' D a q
 |ret v=>show q
 |brk=>show q
 |cont=>show q
def lI(h1:PS X st t):PSs X [st] t:=by
 intro pins s σ H D I h;show ZJ (thn (h1 pins s σ H D I h) λf s1 q=>?_);cases f with
 |next=>show Zh q
 |ret v=>show q
 |brk=>show q
 |cont=>show q
def GG:TS:=λD σ H=>D.ct σ H
def pH:PS X (.Continue pos) GG:=λY Y σ H Y I h=>wpAny_Continue (σ,H,I,h)
def Inv.quiet{pins:Oq}{σ:St}{H:Hp}{s:az}(I:Inv X pins σ H s):interactive X.env=OY:=by simp[interactive,I.ok.kind]
def DQ(te:TE):TS:=λD σ H=>te σ H λY H1=>D.nx σ H1
def pG(a:PE X e te)(hs:Q9 e none pos.line X.env=pure false:=by rfl):PS X (.Expr e pos) (DQ te):=by intro pins s σ H D I h;show wpAny_Expr_any (thn (a pins s σ H _ I h) λv s1 z=>by let(x,H1,b,c,q1):=z;show(σ,H1,b,q1)) I.quiet hs
def Il(te:TE):TS:=λD σ H=>te σ H D.rt
def Aa(a:PE X e te):PS X (.Return (OV e) pos) (Il te):=by intro pins s σ H D I h;show wpAny_Return_some (thn (a pins s σ H _ I h) λv s1 z=>by let(x,H1,b,c,q1):=z;show(x,σ,H1,b,c,q1))
def JK(c:TT)(t u:TS):TS:=λD σ H=>c σ H λb H1=>if b=OX then t D σ H1 else u D σ H1
def G3(hc:PT X c tc)(g:PSs X a t)(i:PSs X b u):PS X (.If c a b pos) (JK tc t u):=by
 intro pins s σ H D I h;show wpAny_If (thn (hc pins s σ H _ I h) λd s1 e=>?_);let(H1,f,q1):=e;cases d with
 |true=>show g pins s1 σ H1 D f q1
 |false=>show i pins s1 σ H1 D f q1
end
abbrev TG:=V->St->Hp->(St->Hp->Prop)->Prop
abbrev TGs:=OU->St->Hp->(St->Hp->Prop)->Prop
def PG(X:Cx)(a:ba)(t:TG):Prop :=
 ∀(pins:Oq) (s:az) (σ:St) (H:Hp) (v:V) (u:ao) (Q:St->Hp->Prop),Inv X pins σ H s->bE v u->t v σ H Q ->
  j4 (kq X.prog X.w) X.A (assign a X.env u) (λY s'=>∃σ' H',Inv X pins σ' H' s'/\Q σ' H') X.xe s
def PGs(X:Cx)(ts:OS)(t:TGs):Prop :=
 ∀(pins:Oq) (s:az) (σ:St) (H:Hp) (vs:OU) (us:ON) (Q:St->Hp->Prop),Inv X pins σ H s->aS vs us->t vs σ H Q ->
  j4 (kq X.prog X.w) X.A (Ya ((Qh ts X.env).map (·.2)) us) (λY s'=>∃σ' H',Inv X pins σ' H' s'/\Q σ' H') X.xe s
abbrev Dh:=V->V->V->Hp->(Hp->Prop)->Prop
def FR(X:Cx)(t:Dh):Prop :=
 ∀(pins:Oq) (s:az) (σ:St) (H:Hp) (o i v:V) (ov iv u:ao) (Q:Hp->Prop),Inv X pins σ H s->bE o ov->bE i iv->bE v u->t o i v H Q ->
  j4 (kq X.prog X.w) X.A (Ze ov iv u) (λY s'=>∃H',Inv X pins σ H' s'/\Q H') X.xe s
abbrev TIp:=V->V->Hp->VK->Prop
def PIp(X:Cx)(op:ZI)(t:TIp):Prop :=
 ∀(pins:Oq) (s:az) (σ:St) (H:Hp) (x y:V) (v u:ao) (Q:VK),Inv X pins σ H s->bE x v->bE y u->t x y H Q ->
  j4 (kq X.prog X.w) X.A (inplaceOp op v u) (EP X pins σ Q) X.xe s
section
variable{X:Cx}{pos:Pos}
def og(i:Nat):TG:=λv σ H Q=>Q (σ.set i (OV v)) H
def pJ(hN:X.N.Nodup)(hi:X.N[i]?=some x)(hx:Loc X.env.scope x)(a:X.fn x=true\/X.env.scope.names.lookup x=some .local:=by walk_at"v1"):PG X (.Name x pos) (og i):=by intro pins s σ H v u Q I r h;show wpAny_assign_Name (iZ I hN hi hx r (λs' b=>(_,H,b,h)) a)
def J8:TGs:=λvs σ H Q=>vs=[]/\Q σ H
def HA(t:TG)(u:TGs):TGs:=λvs σ H Q=>∃v r,vs=v::r/\t v σ H λσ' H'=>u r σ' H' Q
def BO:PGs X [] J8:=by
 intro pins s σ H vs us Q I r h
 cbv;let(e,h):=h;subst e;cases r
 w_up;show assignInOrder_nil (σ,H,I,h)
def yr(h1:PG X e t)(h2:PGs X es u)
  (hs:(Qh (e::es) X.env).map (·.2)=assign e X.env::(Qh es X.env).map (·.2):=by rfl):PGs X (e::es) (HA t u):=by
 intro pins s σ H vs us Q I r h;let(v,d,e1,h):=h;subst e1;cases r with
 |cons r rr =>
  rw[hs];show ZA (thn (h1 pins s σ H _ _ _ I r h) λY s1 a=>?_);let(b,H1,c,q1):=a;show h2 pins s1 b H1 _ _ Q c rr q1
def IL(K:bg)(n:Nat)(t:TGs):TG:=λv σ H Q=>∃a xs,v=.ref a/\SqT K H a xs/\xs.length=n/\t xs σ H Q
def Ew{es:OS}{k:Nat}{t:TGs}{n:Nat}(hc:X.calm=true)(h:PGs X es t)
  (hn:(Qh es X.env).length=n:=by rfl) (c:(Qh es X.env).findIdx? (·.1)=none:=by rfl):PG X (.Tuple es k pos) (IL X.K n t):=by
 intro pins s σ H v u Q I r hw
 cbv;let(a,xs,e1,d,f,hw):=hw;subst e1;cases r;let(its,rv,ht,hz):=I.tuple d
 w_up;show assign_Tuple_tuple (I.ok.hd hc) ht (by simp[hn,<-f,(-rv)]) c λh' hx=>?_;let g:Inv X pins σ H { s with heap:=h' }:=I.kept (t':=s.toks) λb o e=>hx b o (KO (KB e)) e;show h pins _ σ H xs _ Q g (by simpa using rv) hw
def J7(to a:TE)(t:Dh):TG:=λv σ H Q=>to σ H λo H1=>a σ H1 λi H2=>t o i v H2 λb=>Q σ b
def vE(ho:PE X o to)(hi:PE X i d)(hs:FR X t)
  (e:∀v,assign (.Subscript o i pos) X.env v=(do
   let ov <-Qo [v] (eval o X.env)
   let iv <-Qo [v,ov] (eval i X.env)
   Q0 pos
   Qo [v,ov,iv] (Ze ov iv v)
   ZT [v,ov,iv] []):=by intro _;rfl):PG X (.Subscript o i pos) (J7 to d t):=by intro pins s σ H v u Q I r h;rw[e];show jj (q4 (thn (ho pins s σ H _ I h) λov s1 a=>?_));let(x,H1,f,g,q1):=a;show jj (q4 (thn (hi pins s1 σ H1 _ f q1) λiv s2 b=>?_));let(y,H2,j,k,q2):=b;show jj (Q6 (jj (q4 (thn (hs pins s2 σ H2 x y v ov iv u _ j g k r q2) λY p c=>?_))));let(l,m,n):=c;show wpAny_release (σ,l,m,n)
def DW(te:TE)(g:TG):TS:=λD σ H=>te σ H λx H1=>g x σ H1 D.nx
def rK(b:PE X e te)(hg:PG X tg g)(hs:QG [tg] e pos.line X.env=pure false:=by rfl)(hw:QH [tg] e X.env=pure none:=by rfl)
  (h1:(Qh [tg] X.env).map (·.2)=[assign tg X.env]:=by rfl):PS X (.Assign [tg] e pos) (DW te g):=by intro pins s σ H D I h;show wpAny_Assign_stores (thn (b pins s σ H _ I h) λv s1 a=>?_) hs hw;let(x,H1,c,d,q1):=a;rw[h1];show thn (hg pins s1 σ H1 x v _ c d q1) λY s2 q=>q
def z9(hN:X.N.Nodup)(hi:X.N[i]?=some x)(hx:Loc X.env.scope x)(c:PE X e te)(hs:Q9 e (some (.Name x a)) pos.line X.env=pure false:=by rfl)(d:X.fn x=true\/X.env.scope.names.lookup x=some .local:=by walk_at"v1") :
  PS X (.Assign [.Name x a] e pos) (DW te (og i)):=by intro pins s σ H D I h;show wpAny_Assign_Name (thn (c pins s σ H _ I h) λv s1 b=>?_) hs;let(y,H1,f,g,q1):=b;show iZ f hN hi hx g (λs2 j=>(_,H1,j,q1)) d
def Im(i j:Nat)(ta:TA):TS:=λD σ H=>ta σ H λvs H1=>∃v w,vs=[v,w]/\D.nx ((σ.set i (OV v)).set j (OV w)) H1
def Es(hc:X.calm=true)(hN:X.N.Nodup)(hi:X.N[i]?=some x)(hj:X.N[j]?=some y)(k:i≠j)
  (hx:X.env.scope.names.lookup x=some .local) (r:X.env.scope.names.lookup y=some .local) (u:PA X [a,b] ta)
  (hw:QH [.Tuple [.Name x f,.Name y g] kt pt] (.Tuple [a,b] k2 pt2) X.env=pure (some [x,y]))
  (hs:QG [.Tuple [.Name x f,.Name y g] kt pt] (.Tuple [a,b] k2 pt2) pos.line X.env=pure false:=by rfl) :
  PS X (.Assign [.Tuple [.Name x f,.Name y g] kt pt] (.Tuple [a,b] k2 pt2) pos) (Im i j ta):=by
 intro pins s σ H D I h;rw[exec_Assign_arm];show jj (Q6 ?_);rw[hs];show jj (js ?_);rw[N7 (!2)];show jj (Tuple_ (thn (u _ pins s σ H _ I h) λus s1 l=>?_))
 cbv;let(vs,H1,z,B,q1):=l;let(v,w,e1,q1):=q1;subst e1;obtain⟨c,d,rfl,rv,m⟩:∃c d,us=[c,d]/\bE v c/\bE w d:=by
  cases B with
  |cons p q =>
   cases q with
   |cons p' q' =>
    cases q';show(_,_,rfl,p,p')
 w_up;show Ql ?_ (by show 2<=sizeLine;decide);let C:Inv X pins σ H1 { s1 with heap:=s1.heap.push { cls:=.type "tuple",data:=.seq [c,d].toArray } }:=z.kept (t':=s1.toks) λb o e=>Kq _ e;rw[hw];show jj (js ?_);show j4 (kq X.prog X.w) X.A (do rule "assign.swapped-stores";let items <-unpackItems (.ref (~~~s1)) 2 OW;Ya [λv=>bindName X.env y v,λv=>bindName X.env x v] items.reverse;pure Flow.next) _ _ _;show jj (Qa (jj (unpackItems_tuple (items:=#[c,d]) (I.ok.hd hc) (IsTup.new s1.heap _) λh' n=>?_)));let E:=C.kept (h':=h') (t':=s1.toks) λb o e=>n b o (KO (KB e)) e;show j4 _ _ (Ya [λv=>bindName X.env y v,λv=>bindName X.env x v] [d,c] >>= λY=>pure Flow.next) _ _ _;show jj (ZA (wpAny_bindName (iZ E hN hj (.inl r) m (λs2 F=>?_) (.inr r))));show ZA (wpAny_bindName (iZ F hN hi (.inl hx) rv (λG t=>assignInOrder_nil (js ?_)) (.inr hx)));rw[List.set_comm _ _ (Ne.symm k)]at t;show(_,H1,t,q1)
def GH(to d te:TE)(a:V->V->Hp->VK->Prop)(c:TIp)(b:Dh):TS:=λD σ H=>to σ H λo H1=>d σ H1 λi H2=>a o i H2 λx e=>te σ e λy f=>c x y f λz g=>b o i z g λh=>D.nx σ h
def IU(X:Cx)(t:V->V->Hp->VK->Prop):Prop :=
 ∀(pins:Oq) (s:az) (σ:St) (H:Hp) (o i:V) (ov iv:ao) (Q:VK),Inv X pins σ H s->bE o ov->bE i iv->t o i H Q ->
  j4 (kq X.prog X.w) X.A (getItem ov iv) (EP X pins σ Q) X.xe s
def BF(ho:PE X o to)(hi:PE X i m)(hg:IU X a)(q:PE X e te)(r:PIp X op c)(hs:FR X b)
  (t:∀ov iv new,augStore i ov iv new=(do Qo [new,ov,iv] (Ze ov iv new);ZT [new,ov,iv] [];pure .next):=by intros;rfl):PS X (.AugAssign (.Subscript o i d) op e pos) (GH to m te a c b):=by intro pins s σ H D I h;show wpAny_AugAssign_SubscriptAny (thn (ho pins s σ H _ I h) λov s1 f=>?_) t;let(x1,H1,u,n,q1):=f;show thn (hi pins s1 σ H1 _ u q1) λiv s2 g=>?_;let(x2,H2,w,p,q2):=g;show thn (hg pins s2 σ H2 x1 x2 ov iv _ w n p q2) λold x j=>?_;let(x3,y,z,A,B):=j;show thn (q pins x σ y _ z B) λv C k=>?_;let(x4,E,F,G,J):=k;show thn (r pins C σ E x3 x4 old v _ F A G J) λnew K l=>?_;let(x5,L,M,N,O):=l;show thn (hs pins K σ L x1 x2 x5 ov iv new _ M n p N O) λY S hz=>by let(P,Q,R):=hz;show(σ,P,Q,R)
def ipI(f:Int->Int->Int):TIp:=λx y H Q=>∃i j,x=.int i/\y=.int j/\Q (.int (f i j)) H
def Fh:PIp X .Sub (ipI λi j=>i-j):=by
 intro pins s σ H x y v u Q I a b h
 cbv;let(i,j,e1,e2,q):=h;subst e1;subst e2;let(t,rfl):=a;let(t',rfl):=b
 w_up;show isub_int (.int _,H,I.tok _,(_,rfl),q)
end
section
def DM(c:TT)(tb:TS):TS:=λD σ H=>∃W:Nat->St->Hp->Prop,(∃m,W m σ H)/\∀m σ H,W m σ H ->
 c σ H λb H1=>if b=OX then ∃N:St->Hp->Prop,(∀σ' H',N σ' H'->∃a,a<m/\W a σ' H')/\tb { D with nx:=N,ct:=N,bk:=D.nx } σ H1 else D.nx σ H1
def yp(p:PassesOwn (kq X.prog X.w) X.A X.env X.xe)(hc:PT X c tc)(r:PSs X body tb):PS X (.While c body [] pos) (DM tc tb):=by
 intro pins s σ H D I h;let(W,(t,u),turn):=h;show wpAny_While (codeAny_whileLoop (λn s'=>∃σ' H',Inv X pins σ' H' s'/\W n σ' H') ?_ t (σ,H,I,u));rintro n s1 ⟨d,H1,x,y⟩;show QA p (thn (hc pins s1 d H1 _ x (turn n d H1 y)) λb s2 i=>?_);let(H2,q,q2):=i;cases b with
 |true =>
  let(N,hN,q2):=q2;rw[N6 rfl];show QA p (thn (r pins s2 d H2 _ q q2) λf z g=>?_);cases f with
  |next =>
   let(a,e,j,k):=g;let(l,m,o):=hN a e k;show(l,m,a,e,j,o)
  |cont =>
   let(a,e,j,k):=g;let(l,m,o):=hN a e k;show(l,m,a,e,j,o)
  |brk=>show g
  |ret v=>show g
 |false =>
  rw[N7 KH];show Zh (d,H2,q,q2)
end
structure It where
 go : Nat->Hp->Prop
 yld:Nat->Hp->V->Hp->Prop
 stop:Nat->Hp->Prop
def kj(X:Cx)(pins:Oq)(H:Hp)(b:ac):Prop :=
 H b=OW/\b≠X.env.locals/\b ∉ X.fs/\(b∈X.ex\/X.s₀.heap.objs.size<=b)/\(∀x c,X.env.cells.lookup x=OV c->c≠b)/\∀p∈X.pn++pins,p.1≠b
def Inv.fpOk{X:Cx}{pins:Oq}{σ:St}{H H':Hp}{s:az}{b:ac}(I:Inv X pins σ H s)(a:(~~~s)<=b)(hn:H' b=OW):kj X pins H' b:=by show(hn,Lh (Ku I.lt a),I.nofs a,.inr (Kr I.sz a),λx c e z=>?_,λp d z=>?_);let(v,q):=I.cell x c e;show absurd (Ku q.lt (by rw[z];show a)) (LF _);show absurd (Ku (KB (I.pin p d).1) (by rw[z];show a)) (LF _)
structure Df(P:k5)(w:q3)(K:bg)(tg:ba)(J:It)(fp:OO)(it:ac)(tn:Nat->bb->Prop):Prop where
 mem:it∈fp
 obj:∀i h,tn i h->∀b∈fp,∃o,h.get? b=some o/\∀v,o.data≠.cell v
 keep:∀i h h',tn i h->(∀b∈fp,∀o,h.get? b=some o->h'.get? b=some o)->tn i h'
 item:∀(X:Cx),X.prog=P->X.w=w->X.K=K->X.calm=true->∀(i:Nat) (pins:Oq) (s:az) (σ:St) (H:Hp) (E:ao->az->Prop),Inv X pins σ H s->(∀b∈fp,kj X pins H b)->tn i s.heap->J.go i H ->
  j4 (kq P w) X.A (Q3 (.ref it)) (λr s1=>∃u,r=some u /\
   j4 (kq P w) X.A (Zj tg (.ref it) u) (λ_ s2=>∃x H',Inv X pins σ H' s2/\bE x u/\J.yld i H x H'/\tn (i+1) s2.heap/\∀b∈fp,H' b=none) E s1) E s
 done:∀(X:Cx),X.prog=P->X.w=w->X.K=K->X.calm=true->∀(i:Nat) (pins:Oq) (s:az) (σ:St) (H:Hp) (E:ao->az->Prop),Inv X pins σ H s->(∀b∈fp,kj X pins H b)->tn i s.heap->J.stop i H ->
  j4 (kq P w) X.A (Q3 (.ref it)) (λr s1=>r=none/\Inv X pins σ H s1) E s
 self:∀(A:Around) (i:Nat) (s:az) (Q:ao->az->Prop) (E:ao->az->Prop),tn i s.heap->Q (.ref it) s->j4 (kq P w) A (pyIter (.ref it)) Q E s
abbrev TI:=St->Hp->(It->Hp->Prop)->Prop
def PIE(X:Cx)(pins:Oq)(σ:St)(tg:ba)(R:It->Hp->Prop)(a:ao)(s2:az):Prop :=
 ∃(it:ac) (fp:OO) (tn:Nat->bb->Prop) (J:It) (H':Hp),a=.ref it/\Inv X pins σ H' s2/\Df X.prog X.w X.K tg J fp it tn/\tn 0 s2.heap/\(∀b∈fp,kj X pins H' b)/\R J H'
def PI(X:Cx)(tg iter:ba)(a:TI):Prop :=
 ∀(pins:Oq) (s:az) (σ:St) (H:Hp) (R:It->Hp->Prop),Inv X pins σ H s->a σ H R ->
  j4 (kq X.prog X.w) X.A (eval iter X.env) (λv s1=>j4 (kq X.prog X.w) X.A (pyIter v) (PIE X pins σ tg R) X.xe s1) X.xe s
def y8(ho:s.heap.get? it=OV o)(hc:o.cls=.type n)(hd:o.data=.fields vs)
    (hn:["enumerate","zip","dict_itemiterator","dict_reverseitemiterator","odict_iterator","itertools.zip_longest","itertools.pairwise"].contains n=OY) (hQ:Q () s):j4 M A (Zj tg (.ref it) u) Q E s:=by
  unfold Zj;cases tg <;> first
    |show js hQ
    | (cases u <;> first
        |show js hQ
        | (show jj (wpAny_load ho ?_)
           rw[hc,hd];show j4 M A (if (["enumerate","zip","dict_itemiterator","dict_reverseitemiterator","odict_iterator","itertools.zip_longest","itertools.pairwise"].contains n&&vs[0]?==OV (Qt _))=OX then _ else _) Q E s;rw[N7 (by intro h;rw[hn,NQ]at h;cases h)];show js hQ))
def Itl(K:bg)(a:ac):It :=
 (λi H=>∃xs x,SqL K H a xs/\xs[i]?=OV x,λi H x H'=>H'=H/\∀xs,SqL K H a xs->xs[i]?=OV x,λi H=>∃xs,SqL K H a xs/\xs.length<=i)
def Itr(lo:Int)(n:Nat):It:=(λi Y=>i<n,λi H x H'=>H'=H/\x=.int (lo+i),λi Y=>n<=i)
def uF{P:k5}{w:q3}{K:bg}{tg:ba}(a it:ac):Df P w K tg (Itl K a) [it] it (λi h=>h.IsListIter it a i) where
 mem:=!1
 obj:=λi h st b f=>by
  let e:b=it:=by simpa using f
  subst e;let(o,e,c,d):=st;show(o,e,λv z=>by rw[d]at z;cases z)
 keep:=λi h h' st k=>st.at λo e=>k it (!1) o e
 item:=by
  intro X hP hw hK hc i pins s σ H E I g st hg
  cbv;subst hP hw hK;let(xs,x,j,hx):=hg;let(its,rv,p,hz):=I.list j;let(u,t,y):=rv.get hx;let(l,m,A,n,q,r):=g it (!1)
  w_up;show wpAny_pyNext_list_item st p.isList (x:=u) (by simpa using t) λh' st' B=>?_;let C:Inv X pins σ H { s with heap:=h' }:=I.turned (t':=s.toks) (λb o f e=>(B.2 b f).trans e) l m n q r;let(o,e,c,d):=id st';show(u,rfl,y8 (s:={ s with heap:=h' }) e c d (!2) (x,H,C,y,(rfl,λys D=>by rw[I.list_inj D j];show hx),st',λb f=>(g b f).1))
 done:=by
  intro X hP hw hK hc i pins s σ H E I g st hg
  cbv;subst hP hw hK;let(xs,j,hx):=hg;let(its,rv,p,hz):=I.list j;let(l,m,A,n,q,r):=g it (!1)
  w_up;let G:=-rv;show wpAny_pyNext_list_end (I.ok.hd hc) st p.isList (by simp;lia) λh' F=>(rfl,I.turned (t':=s.toks) (λb o f e=>F b o f e) l m n q r)
 self:=λY Y Y Y Y st h=>wpAny_pyIter_listiter st h
def tI{P:k5}{w:q3}{K:bg}{tg:ba}(it:ac)(lo:Int)(n:Nat):Df P w K tg (Itr lo n) [it] it (λi h=>IsRangeIter h it (lo+(i:Nat)*1) ((n:Int)-(i:Nat)) 1) where
 mem:=!1
 obj := λi h st b a=>by
  let e:b=it:=by simpa using a
  subst e;show(_,st,λv z=>by
   let m:Data.fields _=Data.cell v:=z;cases m)
 keep:=λi h h' st k=>k it (!1) _ st
 item:=by intro X hP hw hK hc i pins s σ H E I c st hg;subst hP hw hK;let(d,f,p,g,j,l):=c it (!1);let W:=Walks.range (prog:=X.prog) (w:=X.w) (I.ok.hd hc) it lo 1 n;show W.item i s _ _ hg st λv h' tk hv st' q=>?_;let(t,rfl):=hv;let r:Inv X pins σ H { s with heap:=h',toks:=tk }:=I.turned (λb o a e=>q b o (by simpa using a) e) d f g j l;show(_,rfl,y8 (s:={ s with heap:=h',toks:=tk }) (n := "range_iterator") st' rfl rfl (!2) (.int (lo+i),H,r,(t,?_),(rfl,rfl),st',λb a=>(c b a).1));rw[Int.mul_one]
 done:=by intro X hP hw hK hc i pins s σ H E I c st hg;subst hP hw hK;let(d,f,p,g,j,l):=c it (!1);show wpAny_pyNext_range_end (I.ok.hd hc) st (by let:n<=i:=hg;lia) λh' u=>(rfl,I.turned (t':=s.toks) (λb o a e=>u b o a e) d f g j l)
 self:=λY Y Y Y Y st h=>wpAny_pyIter_rangeiter st h
section
def y3(K:bg)(tl:TE):TI:=λσ H R=>tl σ H λx H1=>∃a,x=.ref a/\(∃xs,SqL K H1 a xs)/\R (Itl K a) H1
def vD(f:PE X l tl):PI X tg l (y3 X.K tl):=by
 intro pins s σ H R I h;show thn (f pins s σ H _ I h) λv s1 d=>?_
 cbv;let(x,H1,c,g,q1):=d;let(a,e,(xs,i),q):=q1;subst e;cases g;let(its,rv,p,hz):=c.list i
 w_up;show QL p.isList ?_;show((~~~s1),[(~~~s1)],_,_,H1,rfl,c.kept (t':=s1.toks) λb o e=>Kq _ e,uF a _,(_,KF _ rfl,rfl,rfl),λb j=>?_,q);let e:b=(~~~s1):=by simpa using j
 subst e;show c.fpOk (Kz _) (c.hok.fresh (Kz _))
def yg{pins:Oq}{σ:St}{H:Hp}{s:az}{R:It->Hp->Prop}{E:ao->az->Prop}{lo hi:Int}{t u v:Tok}{tk:Nat}(I:Inv X pins σ H s)(h1:-(2 ^ 62)<=lo)(h2:lo<2 ^ 62)(h3:-(2 ^ 62)<=hi)(h4:hi<2 ^ 62)
  (q : R (Itr lo (hi-lo).toNat) H):j4 (kq X.prog X.w) X.A (pyIter (.ref s.heap.objs.size)) (PIE X pins σ tg R) E { s with heap:=s.heap.push { cls:=.type "range",data:=.fields #[.int lo t,.int hi u,.int 1 v] },toks:=tk }:=by
 show wpAny_pyIter_range (IsRange.new ..) (small_one h1 h2 h3 h4) ?_;let a:Inv X pins σ H { s with heap:=s.heap.push { cls:=.type "range",data:=.fields #[.int lo t,.int hi u,.int 1 v] },toks:=tk }:=I.kept λb o e=>Kq _ e;show((s.heap.push { cls:=.type "range",data:=.fields #[.int lo t,.int hi u,.int 1 v] }).objs.size,[(s.heap.push { cls:=.type "range",data:=.fields #[.int lo t,.int hi u,.int 1 v] }).objs.size],_,_,H,rfl,
  a.kept (t':=tk) λb o e=>Kq _ e,tI _ lo (hi-lo).toNat,?_,λb c=>?_,q)
 let e1:lo+((0:Nat):Int)*1=lo:=!1
 let e2:(((hi-lo).toNat:Nat):Int)-((0:Nat):Int)=Builtin.Range.rangeSize lo hi 1:=by rw[rangeSize_one];split <;> lia
 show IsRangeIter _ _ (lo+((0:Nat):Int)*1) ((((hi-lo).toNat:Nat):Int)-((0:Nat):Int)) 1;rw[e1,e2];show KF _ rfl;let e:b=(s.heap.push { cls:=.type "range",data:=.fields #[.int lo t,.int hi u,.int 1 v] }).objs.size:=by simpa using c
 subst e;show a.fpOk (Kz _) (a.hok.fresh (Kz _))
def Ho(ta:TA):TI:=λσ H R=>ta σ H λvs H1=>∃j:Int,vs=[.int j]/\-(2 ^ 62)<=j/\j<2 ^ 62/\R (Itr 0 j.toNat) H1
def vC(hg:Gl X "range")(c:X.mg "range" = none)(d:PA X [a] ta)(hs:j0 [a] X.env=[(false,eval a X.env)]:=by rfl):PI X tg (.Call (.Name "range" p) [a] [] pos) (Ho ta):=by
 intro pins s σ H R I h;show Call_ (gS I hg c boot_range (fx (thn (d pos pins s σ H _ I h) λus s1 b=>?_) hs rfl))
 cbv;let(vs,H1,f,g,q1):=b;let(j,e,q1,q2,q):=q1;subst e
 w_up;cases g with
 |cons r rr =>
  cbv;cases rr;let(t,rfl):=r
  w_up;show call_range_1 (yg f (!0) (!0) q1 q2 (by simpa using q))
def FY(c:TI)(g:TG)(tb:TS):TS:=λD σ H=>c σ H λJ H1=>∃W:Nat->Nat->St->Hp->Prop,(∃m,W 0 m σ H1)/\∀i m σ H,W i m σ H ->
 (J.stop i H/\D.nx σ H)\/(J.go i H/\∃N:St->Hp->Prop,(∀σ' H',N σ' H'->∃b,b<m/\W (i+1) b σ' H')/\∀x H',J.yld i H x H'->g x σ H' λa H2=>tb { D with nx:=N,ct:=N,bk:=D.nx } a H2)
def iI(fp:OO)(h:bb):Oq:=fp.filterMap λb=>(h.get? b).map λo=>(b,o)
def fT(a:b∈fp)(e:h.get? b=OV o):(b,o)∈iI fp h:=Nh.mpr (b,a,by rw[e];rfl)
def nz(a:p∈iI fp h):p.1∈fp/\h.get? p.1=OV p.2:=by
 let(b,c,e):=Nh.mp a;cases q:h.get? b with
 |none=>rw[q]at e;cases e
 |some o =>
  rw[q]at e;let d:(b,o)=p:=di e;subst d;show(c,q)
def Inv.pinned{pins:Oq}{σ:St}{H:Hp}{s:az}{fp:OO}(I:Inv X pins σ H s)(f:∀b∈fp,kj X pins H b)(ho:∀b∈fp,∃o,s.heap.get? b=OV o/\∀v,o.data≠.cell v):Inv X (pins++iI fp s.heap) σ H s :=
 I.pins_of λp g=>(Km.mp g).elim (λz=>I.pin p (Kl _ z)) λz=>by
  cbv;let(a,e):=nz z;let(h,i,j,_):=f p.1 a;let(o,c,d):=ho p.1 a;rw[e]at c;cases c
  w_up;show(e,h,i,j,d)
def Inv.unpinned{pins pl:Oq}{σ:St}{H:Hp}{s:az}(I:Inv X (pins++pl) σ H s):Inv X pins σ H s:=I.pins_of λp a=>I.pin p (Kl _ (Kp _ a))
def vy(y:PassesOwn (kq X.prog X.w) X.A X.env X.xe)(hc:X.calm=true)(hi:PI X tg iter S)(hg:PG X tg g)(c:PSs X body tb)
  (hs:∀x,Qm iter X.env x=pure x:=by intro _;rfl):PS X (.For tg iter body [] pos) (FY S g tb):=by
 intro pins s σ H D I h;show wpAny_For (thn (hi pins s σ H _ I h) λv s1 h1=>thn h1 λa3 s2 h2=>?_) hs;let(it,fp,tn,J,H2,e,I2,T,st2,U,W,(m0,w0),turn):=h2;subst e;let j:∀{H':Hp},(∀b∈fp,H' b=OW)->∀b∈fp,kj X pins H' b:=λhn b c=>(hn b c,(U b c).2)
 show codeAny_forLoop_any (λn s'=>∃i σ' H',Inv X pins σ' H' s'/\tn i s'.heap/\(∀b∈fp,H' b=OW)/\W i n σ' H') ?_ m0 (0,σ,H2,I2,st2,λb c=>(U b c).1,w0);rintro n V ⟨i,k,E,Y,z,B,w3⟩;rcases turn i n k E w3 with⟨stop,qn⟩|⟨go,N,hN,step⟩
 .show QA y (thn (T.done X rfl rfl rfl hc i pins V k E X.xe Y (j B) z stop) λr s4 F=>?_);let(G,I4):=F;subst G;show Zh (k,E,I4,qn)
 .show QA y (thn (T.item X rfl rfl rfl hc i pins V k E X.xe Y (j B) z go) λr s4 K=>?_);let(u,G,h4):=K;subst G;show QA y (thn h4 λ_ Z L=>?_);let(x,H5,I5,r5,y5,t,M):=L;let O:=I5.pinned (j M) (T.obj _ _ t);show QA y (thn (hg _ Z k H5 x u _ O r5 (step x H5 y5)) λ_ s6 P=>?_);let(Q,H6,I6,q6):=P;show QA y (thn (c _ s6 Q H6 _ I6 q6) λf R q=>?_);let again:∀{a:St}{l:Hp},Inv X (pins++iI fp Z.heap) a l R->N a l->∃m,m<n/\∃i σ' H',Inv X pins σ' H' R/\tn i R.heap/\(∀b∈fp,H' b=OW)/\W i m σ' H':=λ{a l} p C=>by
   let(m',hm,w7):=hN a l C;show(m',hm,i+1,a,l,p.unpinned,T.keep _ _ _ t λb c o e=>(p.pin (b,o) (Kl _ (Kl _ (fT c e)))).1,λb c=>?_,w7);let(o,e,d):=T.obj _ _ t b c;show(p.pin (b,o) (Kl _ (Kl _ (fT c e)))).2.1
  cases f with
  |next=>let(a,l,p,C):=q;show again p C
  |cont=>let(a,l,p,C):=q;show again p C
  |brk=>let(a,l,p,q):=q;show(a,l,p.unpinned,q)
  |ret v=>let(x7,a,l,p,r7,q):=q;show(x7,a,l,p.unpinned,r7,q)
end
abbrev R2:=V->V->Hp->VK->Prop
def OpR(X:Cx)(f:ao->ao->Sem ao)(r:R2):Prop :=
 ∀(pins:Oq) (s:az) (σ:St) (H:Hp) (x y:V) (v u:ao) (Q:VK),Inv X pins σ H s->bE x v->bE y u->r x y H Q ->
  j4 (kq X.prog X.w) X.A (f v u) (EP X pins σ Q) X.xe s
def UnR(X:Cx)(f:ao->Sem ao)(r:V->Hp->VK->Prop):Prop :=
 ∀(pins:Oq) (s:az) (σ:St) (H:Hp) (x:V) (v:ao) (Q:VK),Inv X pins σ H s->bE x v->r x H Q ->
  j4 (kq X.prog X.w) X.A (f v) (EP X pins σ Q) X.xe s
def fM(X:Cx)(f:ao)(r:OU->Hp->VK->Prop):Prop :=
 ∀(pins:Oq) (s:az) (σ:St) (H:Hp) (xs:OU) (us:ON) (Q:VK),Inv X pins σ H s->aS xs us->r xs H Q ->
  j4 (kq X.prog X.w) X.A (call f us) (EP X pins σ Q) X.xe s
def Ke(X:Cx)(r:V->Hp->(Bool->Hp->Prop)->Prop):Prop :=
 ∀(pins:Oq) (s:az) (σ:St) (H:Hp) (x:V) (v:ao) (Q:Bool->Hp->Prop),Inv X pins σ H s->bE x v->r x H Q ->
  j4 (kq X.prog X.w) X.A (ZX v) (TP X pins σ Q) X.xe s
def tOp(r:R2)(ta tb:TE):TE:=λσ H Q=>ta σ H λx H1=>tb σ H1 λy H2=>r x y H2 Q
def tUn(r:V->Hp->VK->Prop)(ta:TE):TE:=λσ H Q=>ta σ H λx H1=>r x H1 Q
def rI(C:Int->Int->Prop)(g:Int->Int->V):R2:=λx y H Q=>∃i j,x=.int i/\y=.int j/\C i j/\Q (g i j) H
def rI0(g:Int->Int->V):R2:=λx y H Q=>∃i j,x=.int i/\y=.int j/\Q (g i j) H
def rU(g:Int->V):V->Hp->VK->Prop:=λx H Q=>∃i,x=.int i/\Q (g i) H
section
def H9(i:PE X a ta)(j:PE X b tb){pins:Oq}{s:az}{σ:St}{H:Hp}{R:V->V->Hp->Prop}(I:Inv X pins σ H s)
  (h : ta σ H λx H1=>tb σ H1 λy H2=>R x y H2) {Q:ao->az->Prop}{f:ao->ao->Sem ao}
  (k:∀v u s2 x y H2,Inv X pins σ H2 s2->bE x v->bE y u->R x y H2->j4 (kq X.prog X.w) X.A (f v u) Q X.xe s2) :
  j4 (kq X.prog X.w) X.A (eval a X.env) (λv c=>j4 (kq X.prog X.w) X.A (eval b X.env) (λu d=>j4 (kq X.prog X.w) X.A (f v u) Q X.xe d) X.xe c) X.xe s:=by show thn (i pins s σ H _ I h) λv s1 e=>?_;let(x,H1,l,m,q1):=e;show thn (j pins s1 σ H1 _ l q1) λu s2 g=>?_;let(y,H2,n,o,q2):=g;show k v u s2 x y H2 n m o q2
def BQ(ho:OpR X (Qs op) r)(c:PE X a ta)(d:PE X b tb):PE X (.BinOp a op b pos) (tOp r ta tb):=by intro pins s σ H Q I h;show wpAny_BinOp (H9 c d I h λv u s2 x y H2 e f g q=>ho pins s2 σ H2 x y v u Q e f g q)
def Ex(ho:UnR X (unaryOp op) r)(b:PE X a ta):PE X (.UnaryOp op a pos) (tUn r ta):=by intro pins s σ H Q I h;show UnaryOp_ (thn (b pins s σ H _ I h) λv s1 z=>by let(x,H1,c,d,q1):=z;show ho pins s1 σ H1 x v Q c d q1)
def opI{f:ao->ao->Sem ao}{C:Int->Int->Prop}{g:Int->Int->Int}
  (rule:∀(i j:Int) (t u:Tok) (s:az) (Q:ao->az->Prop) (E:ao->az->Prop),C i j->Q (.int (g i j) s.toks) { s with toks:=s.toks+1 }->j4 (kq X.prog X.w) X.A (f (.int i t) (.int j u)) Q E s) :
  OpR X f (rI C λi j=>.int (g i j)):=by
 intro pins s σ H x y v u Q I a b h
 cbv;let(i,j,rfl,rfl,hc,q):=h;let(t,rfl):=a;let(t',rfl):=b
 w_up;show rule i j t t' s _ _ hc (.int (g i j),H,I.tok _,(_,rfl),q)
def IA{f:ao->ao->Sem ao}{g:Int->Int->Int}
  (rule:∀(i j:Int) (t u:Tok) (s:az) (Q:ao->az->Prop) (E:ao->az->Prop),Q (.int (g i j) s.toks) { s with toks:=s.toks+1 }->j4 (kq X.prog X.w) X.A (f (.int i t) (.int j u)) Q E s) :
  OpR X f (rI0 λi j=>.int (g i j)):=by
 intro pins s σ H x y v u Q I a b h
 cbv;let(i,j,rfl,rfl,q):=h;let(t,rfl):=a;let(t',rfl):=b
 w_up;show rule i j t t' s _ _ (.int (g i j),H,I.tok _,(_,rfl),q)
def Ha{f:ao->ao->Sem ao}{g:Int->Int->Bool}
  (rule:∀(i j:Int) (t u:Tok) (s:az) (Q:ao->az->Prop) (E:ao->az->Prop),Q (.bool (g i j)) s->j4 (kq X.prog X.w) X.A (f (.int i t) (.int j u)) Q E s) :
  OpR X f (rI0 λi j=>.bl (g i j)):=by
 intro pins s σ H x y v u Q I a b h
 cbv;let(i,j,rfl,rfl,q):=h;let(t,rfl):=a;let(t',rfl):=b
 w_up;show rule i j t t' s _ _ (.bl (g i j),H,I,rfl,q)
def Kh(i j:Int):Prop:=0<j/\j<1073741824
def Kg(i j:Int):Prop:=0<=j/\j<=1000000/\i.natAbs<2 ^ 64
def xE(i j:Int):Prop:=(-(2 ^ 64)<i/\i<2 ^ 64)\/(-(2 ^ 64)<j/\j<2 ^ 64)
def xE.ok(h:xE i j):IntMulOk i j:=by
 rcases h with⟨h1,h2⟩|⟨h1,h2⟩
 show .of_left (intBits_le_64 h1 h2);show .of_right (intBits_le_64 h1 h2)
def bq:OpR X (Qs .Add) (rI0 λi j=>.int (i+j)):=IA λY Y Y Y Y Y Y q=>add_int q
def kM:OpR X (Qs .Sub) (rI0 λi j=>.int (i-j)):=IA λY Y Y Y Y Y Y q=>sub_int q
def cT:OpR X (Qs .Mult) (rI xE λi j=>.int (i*j)):=opI λY Y Y Y Y Y Y hc q=>mul_int q hc.ok
def cG:OpR X (Qs .FloorDiv) (rI Kh λi j=>.int (i / j)):=opI λi j Y Y Y Y Y hc q=>by
 let h1:(0:Int)<j:=hc.1;let h2:j<1073741824:=hc.2;show floordiv_int (!0) (by rw[MF i (!0)];show q) (.inl (PyProof.noPylong_small (!0)))
def aP:OpR X (Qs .Mod) (rI (λY j=>0<j) λi j=>.int (i % j)):=opI λi j Y Y Y Y Y hc q=>by
 let h1:(0:Int)<j:=hc;show mod_int' (!0) (by rw[Int.fmod_eq_emod_of_nonneg i (!0)];show q)
def EF:OpR X (Qs .Pow) (rI Kg λi j=>.int (i ^ j.toNat)):=opI λY Y Y Y Y Y Y hc q=>pow_int_small hc.1 hc.2.1 hc.2.2 q
def unI{f:ao->Sem ao}{g:Int->Int}
  (rule:∀(i:Int) (t:Tok) (s:az) (Q:ao->az->Prop) (E:ao->az->Prop),Q (.int (g i) s.toks) { s with toks:=s.toks+1 }->j4 (kq X.prog X.w) X.A (f (.int i t)) Q E s) :
  UnR X f (rU λi=>.int (g i)):=by intro pins s σ H x v Q I a h;let(i,rfl,q):=h;let(t,rfl):=a;show rule i t s _ _ (.int (g i),H,I.tok _,(_,rfl),q)
def gE:UnR X (unaryOp .USub) (rU λi=>.int (-(i))):=unI λY Y Y Y Y q=>neg_int q
end
noncomputable def Ir:V->V->Bool
 |.non,.non=>OX|.non,.int _=>OX|.int _,.non=>OX|.non,.bl _=>OX|.bl _,.non=>OX|.non,.str _=>OX|.str _,.non=>OX
 |.int _,.int _=>OX|.bl _,.bl _=>OX|.str _,.str _=>OX|.byt _,.byt _=>OX
 |.int _,.str _=>OX|.str _,.int _=>OX|.bl _,.str _=>OX|.str _,.bl _=>OX
 |_,_=>OY
def rEq:R2:=λx y H Q=>Ir x y=OX/\Q (.bl (decide (x=y))) H
def rNe:R2:=λx y H Q=>Ir x y=OX/\Q (.bl (!decide (x=y))) H
def wQ:decide (V.int i=V.int j)=(i==j):=by rw[L9];simp
def AA:decide (V.bl i=V.bl j)=(i==j):=by rw[L9];simp
def wP:decide (V.str i=V.str j)=(i==j):=by rw[L9];simp
def wR:decide (V.byt i=V.byt j)=(i.toList==j.toList):=by
 rw[L9]
 cbv;cases i;cases j
 w_up;simp
section
variable{X:Cx}{a b c:ba}{ta tb:TE}{pos:Pos}
def bp{pins:Oq}{σ:St}{H:Hp}{s:az}{Q:VK}{k k':Bool}(I:Inv X pins σ H s)(q:Q (.bl k) H)(e:k=k'):EP X pins σ Q (.bool k') s:=by subst e;show(.bl k,H,I,rfl,q)
def fg:OpR X (zs .Eq) rEq:=by
 intro pins s σ H x y v u Q I b a h;let(hs,q):=h;cases x with
 |non =>
  cases b;cases y with
  |non=>cases a;show PySem.EqNone.eq_none_none (bp I q (!1))
  |bl j=>cases a;show PySem.EqNone.eq_none_bool (bp I q (!1))
  |int j=>let(t',rfl):=a;show PySem.EqNone.eq_none_int (bp I q (!1))
  |str j=>let(t',rfl):=a;show PySem.EqNone.eq_none_str (bp I q (!1))
  |_=>show absurd (show OY=OX from hs) KH
 |bl i =>
  cases b;cases y with
  |non=>cases a;show PySem.EqNone.eq_bool_none (bp I q (!1))
  |bl j=>cases a;show eq_bool (bp I q AA)
  |str j=>let(t',rfl):=a;show PySem.EqMixed.eq_bool_str (bp I q (!1))
  |_=>show absurd (show OY=OX from hs) KH
 |int i =>
  let(t,rfl):=b;cases y with
  |non=>cases a;show PySem.EqNone.eq_int_none (bp I q (!1))
  |int j=>let(t',rfl):=a;show eq_int (bp I q wQ)
  |str j=>let(t',rfl):=a;show PySem.EqMixed.eq_int_str (bp I q (!1))
  |_=>show absurd (show OY=OX from hs) KH
 |str i =>
  let(t,rfl):=b;cases y with
  |non=>cases a;show PySem.EqNone.eq_str_none (bp I q (!1))
  |bl j=>cases a;show PySem.EqMixed.eq_str_bool (bp I q (!1))
  |int j=>let(t',rfl):=a;show PySem.EqMixed.eq_str_int (bp I q (!1))
  |str j=>let(t',rfl):=a;show eq_str (bp I q wP)
  |_=>show absurd (show OY=OX from hs) KH
 |byt i =>
  let(t,rfl):=b;cases y with
  |byt j=>let(t',rfl):=a;show PySem.W.eq_bytes (bp I q wR)
  |_=>show absurd (show OY=OX from hs) KH
 |_=>cases y <;> show absurd (show OY=OX from hs) KH
def yy:OpR X (zs .NotEq) rNe:=by
 intro pins s σ H x y v u Q I b a h;let(hs,q):=h;cases x with
 |non =>
  cases b;cases y with
  |non=>cases a;show PySem.EqNone.ne_none_none (bp I q (!1))
  |bl j=>cases a;show PySem.EqNone.ne_none_bool (bp I q (!1))
  |int j=>let(t',rfl):=a;show PySem.EqNone.ne_none_int (bp I q (!1))
  |str j=>let(t',rfl):=a;show PySem.EqNone.ne_none_str (bp I q (!1))
  |_=>show absurd (show OY=OX from hs) KH
 |bl i =>
  cases b;cases y with
  |non=>cases a;show PySem.EqNone.ne_bool_none (bp I q (!1))
  |bl j=>cases a;show ne_bool (bp I q (congrArg not AA))
  |str j=>let(t',rfl):=a;show PySem.EqMixed.ne_bool_str (bp I q (!1))
  |_=>show absurd (show OY=OX from hs) KH
 |int i =>
  let(t,rfl):=b;cases y with
  |non=>cases a;show PySem.EqNone.ne_int_none (bp I q (!1))
  |int j=>let(t',rfl):=a;show ne_int (bp I q (congrArg not wQ))
  |str j=>let(t',rfl):=a;show PySem.EqMixed.ne_int_str (bp I q (!1))
  |_=>show absurd (show OY=OX from hs) KH
 |str i =>
  let(t,rfl):=b;cases y with
  |non=>cases a;show PySem.EqNone.ne_str_none (bp I q (!1))
  |bl j=>cases a;show PySem.EqMixed.ne_str_bool (bp I q (!1))
  |int j=>let(t',rfl):=a;show PySem.EqMixed.ne_str_int (bp I q (!1))
  |str j=>let(t',rfl):=a;show ne_str (bp I q (congrArg not wP))
  |_=>show absurd (show OY=OX from hs) KH
 |byt i =>
  let(t,rfl):=b;cases y with
  |byt j=>let(t',rfl):=a;show PySem.W.ne_bytes (bp I q (congrArg not wR))
  |_=>show absurd (show OY=OX from hs) KH
 |_=>cases y <;> show absurd (show OY=OX from hs) KH
def tV:OpR X (zs .Lt) (rI0 λi j=>.bl (decide (i<j))):=Ha λY Y Y Y Y Y Y q=>lt_int q
def G8:OpR X (zs .LtE) (rI0 λi j=>.bl (decide (i<=j))):=Ha λY Y Y Y Y Y Y q=>le_int q
def G9:OpR X (zs .Gt) (rI0 λi j=>.bl (decide (j<i))):=Ha λY Y Y Y Y Y Y q=>gt_int q
def Ag:OpR X (zs .Is) (λx y H Q=>y=.non/\Q (.bl (decide (x=.non))) H):=by
 intro pins s σ H x y v u Q I a b h
 cbv;let(rfl,q):=h;cases b
 w_up;show is_none_gen (bp I q ?_);cases x <;> first
  |(cases a;rfl)
  |(let(t,rfl):=a;rfl)
def jO:OpR X (zs .IsNot) (λx y H Q=>y=.non/\Q (.bl (!decide (x=.non))) H):=by
 intro pins s σ H x y v u Q I a b h
 cbv;let(rfl,q):=h;cases b
 w_up;show isnot_none_gen (bp I q ?_);cases x <;> first
  |(cases a;rfl)
  |(let(t,rfl):=a;rfl)
def Ai(b:ba)(h:op≠.In:=by decide)(h2:op≠.NotIn:=by decide):QY op b=false:=by
 let e1:(op==CmpOp.In)=OY:=by cases op <;> first|rfl|show absurd rfl h
 let e2:(op==CmpOp.NotIn)=OY:=by cases op <;> first|rfl|show absurd rfl h2
 cases b <;> first|rfl|(show(_&&(op==CmpOp.In||op==CmpOp.NotIn)&&_)=OY;rw[e1,e2];simp)
def BT(ho:OpR X (zs op) r)(c:PE X a ta)(d:PE X b tb)(e:QY op b=OY):PE X (.Compare a [op] [b] pos) (tOp r ta tb):=by intro pins s σ H Q I h;show wpAny_Compare1 (H9 c d I h λv u s2 x y H2 f g i q=>ho pins s2 σ H2 x y v u Q f g i q) e
def DP(t:TE):TT:=λσ H Q=>t σ H λx H'=>∃k,x=.bl k/\Q k H'
def BC(ho:OpR X (zs op) r)(d:PE X a ta)(f:PE X b tb)(g:QY op b=OY):PT X (.Compare a [op] [b] pos) (DP (tOp r ta tb)):=by
 intro pins s σ H Q I h;show wpAny_isTrue_Compare1 (thn (d pins s σ H _ I h) λv s1 z=>?_) g;let(x,H1,i,j,q1):=z;show thn (f pins s1 σ H1 _ i q1) λu s2 z=>?_;let(y,H2,l,m,q2):=z;show thn (ho pins s2 σ H2 x y v u _ l j m q2) λc t z=>?_;let(z,n,o,p,k,e,q):=z;subst e;cases p;show QK (n,o,q)
def Gq(K:bg)(x:V)(H:Hp)(k:Bool):Prop :=
 match x with
 |.non=>k=OY
 |.bl b=>k=b
 |.int i=>k=(i != 0)
 |.str y=>-y<=sizeLine/\k=((-y:Int) != 0)
 |.byt y=>y.size<=sizeLine/\k=((y.size:Int) != 0)
 |.ref p=>(∃xs,SqL K H p xs/\k=!xs.isEmpty)\/(∃xs,SqT K H p xs/\k=!xs.isEmpty)\/∃kvs,H p=OV (.dK kvs)/\k=!kvs.isEmpty
 |_=>False
def ui{kvs:List (κ×V)}{vs:List (κ×ao)}(r:KV kvs vs):(!vs.isEmpty)=!kvs.isEmpty:=by cases r <;> rfl
def kU(r:aS xs its):(!its.toArray.isEmpty)=!xs.isEmpty:=by cases r <;> simp
def kQ:(sizeLine:Nat)<2 ^ 63:=by rw[zg];decide
def DK:Ke X (λx H Q=>∃k,Gq X.K x H k/\Q k H):=by
 intro pins s σ H x v Q I d h;let(k,e,q):=h;let j:=kQ;let hs:sizeLine=16777216:=zg;cases x with
 |non =>
  cbv;cases d;let a:k=OY:=e;subst a
  w_up;show truthy_none (H,I,q)
 |bl b =>
  cbv;cases d;let a:k=b:=e;subst a
  w_up;show QK (H,I,q)
 |int i =>
  let(t,rfl):=d;let a:k=(i != 0):=e;subst a;show PySem.P.truthy_int (H,I,q)
 |str y =>
  cbv;let(t,rfl):=d;obtain⟨f,a⟩:-y<=sizeLine/\k=((-y:Int) != 0):=e;subst a
  w_up;show PySem.P.truthy_str (!0) (H,I.tok _,q)
 |byt y =>
  cbv;let(t,rfl):=d;obtain⟨f,a⟩:y.size<=sizeLine/\k=((y.size:Int) != 0):=e;subst a
  w_up;show PySem.W.truthy_bytes (!0) (H,I.tok _,q)
 |ref p =>
  cases d;let a:(∃xs,SqL X.K H p xs/\k=!xs.isEmpty)\/(∃xs,SqT X.K H p xs/\k=!xs.isEmpty)\/∃kvs,H p=OV (.dK kvs)/\k=!kvs.isEmpty:=e;rcases a with⟨xs,hx,a⟩|⟨xs,hx,a⟩|⟨kvs,hx,a⟩
  subst a;let(its,r,pl,hz):=I.list hx;let c:=-r;show wpAny_truthy_list pl.isList (by simp only[KA];lia) (H,I.tok _,by rw[kU r];show q);subst a;let(its,r,pl,hz):=I.tuple hx;let c:=-r;show truthy_tuple pl (by simp only[KA];lia) (H,I.tok _,by rw[kU r];show q);subst a;obtain⟨hz,g,vs,r,m⟩:-kvs<=sizeLine/\(p==Qd)=OY/\∃vs,KV kvs vs/\s.heap.DictOf (pY X.prog X.w) p vs:=I.hok p _ hx;let c:-kvs=-vs:=Paired.length r;show wpAny_truthy_dict g m (!0) (H,I.tok _,by rw[ui r];show q)
 |_=>show(show False from e).elim
def yo(c:PE X a ta)(d:∀b,Zo a X.env b=(do let v <-b;Q0 a.pos;Qo [v] (ZX v))) :
  PT X a (λσ H Q=>ta σ H λx H'=>∃k,Gq X.K x H' k/\Q k H'):=by intro pins s σ H Q I h;show isTrue_plain (thn (c pins s σ H _ I h) λv s1 z=>by let(x,H1,e,f,q1):=z;show DK pins s1 σ H1 x v Q e f q1) (d _)
def iQ(r:aS [x] us):∃u,us=[u]/\bE x u:=by
 cases r with
 |cons a b=>cases b;show(_,rfl,a)
def tH(r:aS [x,y] us):∃u w',us=[u,w']/\bE x u/\bE y w':=by
 cases r with
 |cons a b =>
  cases b with
  |cons c d=>cases d;show(_,_,rfl,a,c)
def j9(hc:X.calm=OX):fM X (.builtin "min") (λxs H Q=>∃i j,xs=[.int i,.int j]/\Q (.int (if j<i then j else i)) H):=by
 intro pins s σ H xs us Q I r h;let(i,j,rfl,q):=h;let(u,w',rfl,(t,rfl),(t',rfl)):=tH r;show min_two_ints (I.ok.hd hc) λh' tk k=>(_,H,I.kept k,?_,q)
 by_cases hj:j<i;rw[N6 hj,N6 hj];show(_,rfl);rw[N7 hj,N7 hj];show(_,rfl)
end
structure fb(k:Nat)(A:Around):Prop where
 hd : A.handled=none
 dp : A.depth+3*k+5<recursionLimit
 un : A.units+16*k+200<KI
def fb.mono(r:fb k A)(h:j<=k):fb j A:=(r.hd,by let:=r.dp;lia,by let:=r.un;lia)
theorem fb.deeper(r:fb (k+1) A)(env:Env):fb k (A.deeper env) :=
 (r.hd,by let:=r.dp;show A.depth+1+3*k+5<_;lia,by let:=r.un;show A.units+3+16*k+200<_;lia)
theorem fb.in1(r:fb (k+1) A):fb k A.in1 :=
 (r.hd,by let:=r.dp;show A.depth+3*k+5<_;lia,by let:=r.un;show A.units+1+16*k+200<_;lia)
theorem fb.depth(r:fb k A):A.depth<recursionLimit:=by let:=r.dp;lia
theorem fb.units(r:fb k A):A.units+64<KI:=by let:=r.un;lia
def FX:TA:=λY H Q=>Q [] H
def xU(ta:TE)(tr:TA):TA:=λσ H Q=>ta σ H λx H1=>tr σ H1 λxs H2=>Q (x::xs) H2
section
def d9:PA X [] FX:=λY Y Y Y H Q I h=>Calls.spliced_nil ([],H,I,.nil,h)
def b8(b:PE X e te)(c:PA X es t)(hs:j0 (e::es) X.env=(false,eval e X.env)::j0 es X.env:=by rfl):PA X (e::es) (xU te t):=by intro pos pins s σ H Q I h;rw[hs];show j4 _ _ (spliced ((OY,eval e X.env)::z4 pos (j0 es X.env))) _ _ s;show Calls.spliced_cons (thn (b pins s σ H _ I h) λu s1 a=>?_);let(x,H1,d,f,q1):=a;show thn (c pos pins s1 σ H1 _ d q1) λus s2 z=>by let(xs,H2,g,i,q2):=z;show(x::xs,H2,g,.cons f i,q2)
def JI(t:TA):TE:=λσ H Q=>t σ H λxs H1=>-xs<=sizeLine/\∀p,H1 p=OW->Q (.ref p) (upd H1 p (.tup xs))
def Io(t:TA):TE:=λσ H Q=>t σ H λxs H1=>-xs<=sizeLine/\∀p,H1 p=OW->Q (.ref p) (upd H1 p (.lst xs))
def Ey(h:PA X es t):PE X (.Tuple es x1 pos) (JI t):=by intro pins s σ H Q I d;show wpAny_Tuple_spliced (thn (h pos pins s σ H _ I d) λus s1 a=>?_);let(xs,H1,c,r,z,q):=a;show(by rw[<- -r];show z,?_);let f:H1 (~~~s1)=OW:=c.hok.fresh (Kz _);show(.ref (~~~s1),upd H1 (~~~s1) (.tup xs),c.laid (t':=s1.toks) (λb u e=>Kq _ e) (Kz _) ?_,rfl,q _ f);show(z,us,r,(_,KF _ rfl,rfl,(_,rfl),rfl))
def vG(h:PA X es t):PE X (.List es pos) (Io t):=by intro pins s σ H Q I d;show wpAny_List_spliced (thn (h pos pins s σ H _ I d) λus s1 a=>?_);let(xs,H1,c,r,z,q):=a;show(by rw[<- -r];show z,?_);let f:H1 (~~~s1)=OW:=c.hok.fresh (Kz _);show(.ref (~~~s1),upd H1 (~~~s1) (.lst xs),c.laid (t':=s1.toks) (λb u e=>Kq _ e) (Kz _) ?_,rfl,q _ f);show(z,us,0,r,KF _ rfl)
end
abbrev Sp:=OU->Hp->VK->XK->Prop
abbrev CXT:=OI->Hp->az->XK->ao->az->Prop
structure xM(P:k5)(w:q3)(K:bg)(mg:bc->OB)(base:bb)(A:Around)(outer:OI)(s:az)(H:Hp):Prop where
 frames:A.frames=some outer
 mod:Mod K mg base
 bs : ∀b o,base.get? b=some o->s.heap.get? b=some o/\H b=none
 bsz:base.objs.size<=s.heap.objs.size
 funs:s.heap.FunFrames base outer
 frf:∀b∈frs outer,H b=none
 hok:HOk P w H s.heap
 bare:Zg s.gens
 tab:AS K H
def CE(outer:OI)(P:k5)(w:q3)(H:Hp)(s:az)(Q:VK)(u:ao)(s':az):Prop :=
 ∃v H',s'.os=s.os/\Zg s'.gens/\Un (frs outer) [] H H' s.heap s'.heap/\HOk P w H' s'.heap/\bE v u/\Q v H'
def CR(CX:CXT)(outer:OI)(P:k5)(w:q3)(H:Hp)(s:az)(Q:VK)(E:XK)(r:Z5)(s':az):Prop :=
 match r with
 |.ok (.ret u)=>CE outer P w H s Q u s'
 |.ok _=>False
 |.error e=>CX outer H s E e s'
structure cg(P:k5)(w:q3)(K:bg)(mg:bc->OB)(base:bb)(CX:CXT)(k:Nat)(f:ac)(fd:k3)(ps:OP)(sp:Sp):Prop where
 len:∀vs H Q E,sp vs H Q E->vs.length=ps.length
 run:∀(A:Around) (outer:OI) (s:az) (H:Hp) (args:Args) (us:ON) (vs:OU) (Q:VK) (E:XK),fb k A->xM P w K mg base A outer s H->Zv s fd args (ps.zip us)->aS vs us->sp vs H Q E ->
  Qx (kq P w) A (.call (.ref f) args) (CR CX outer P w H s Q E) s
theorem cg.mono{P:k5}{w:q3}{K:bg}{mg:bc->OB}{base:bb}{CX:CXT}{j k:Nat}{f:ac}{fd:k3}{ps:OP}{sp:Sp}(F:cg P w K mg base CX j f fd ps sp)(h:j<=k) :
  cg P w K mg base CX k f fd ps sp:=(F.len,λA outer s H args us vs Q E a=>F.run A outer s H args us vs Q E (a.mono h))
theorem xM.in1{P:k5}{w:q3}{K:bg}{mg:bc->OB}{base:bb}{A:Around}{outer:OI}{s:az}{H:Hp}(e:xM P w K mg base A outer s H) :
  xM P w K mg base A.in1 outer s H:=(e.frames,e.mod,e.bs,e.bsz,e.funs,e.frf,e.hok,e.bare,e.tab)
section
variable{X:Cx}{pins:Oq}{σ:St}{H:Hp}{s s':az}
def Inv.env0(I:Inv X pins σ H s):xM X.prog X.w X.K X.mg X.base X.A X.stack s H :=
 (I.ok.frames,I.ok.mod,I.bs,Kr I.ok.bsz I.sz,I.stack,I.stkFree,I.hok,I.bare,λT q h=>I.base.tbls T q (I.ok.tab T q h))
def Inv.after(I:Inv X pins σ H s)(h:CE X.stack X.prog X.w H s Q u s'):EP X pins σ Q u s':=by
 cbv;let(v,H',os,bare,un,hok,r,q):=h;let(c,g,d,t,a):=s';obtain rfl:a=s.os:=os
 w_up;show(v,H',I.call (h':=c) (g':=g) (d':=d) (t':=t) (ch:=[]) un hok bare (λb z=>absurd z (!1)),r,q)
end
def uK(sp:Sp)(dvs:OU)(E:XK)(t:TA):TE:=λσ H Q=>t σ H λvs H1=>sp (vs++dvs) H1 Q E
def gY(K:bg)(fd:k3)(ps:OP)(ds:ON):Prop :=
 ∀(s:az) (us:ON),K.In s.heap->(us++ds).length=-ps->Zv s fd (us,[]) (ps.zip (us++ds))
def gY.all{K:bg}{fd:k3}{ps:OP}(h:∀us:ON,-us=-ps->QP fd (us,[])=pure (ps.zip us)):gY K fd ps []:=λs us Y a=>by
 rw[K1]at a ⊢;show .of_eq (h us a)
def xz(CX:CXT)(X:Cx)(E:XK):Prop:=∀(pins:Oq) (σ:St) (H:Hp) (s:az) (e:ao) (s':az),Inv X pins σ H s->CX X.stack H s E e s'->X.xe e s'
section
variable{X:Cx}{CX:CXT}{k:Nat}{f:ac}{fd:k3}{ps:OP}{sp:Sp}{dvs:OU}{ds:ON}{E:XK}{x:bc}{p pos:Pos}{e:ba}{es:OS}{t:TA}
def DZ{pins:Oq}{σ:St}{H:Hp}{s:az}{Q:VK}{us:ON}{vs:OU}(F:cg X.prog X.w X.K X.mg X.base CX k f fd ps sp)(c:fb k X.A)(d:gY X.K fd ps ds)(hd:aS dvs ds)(hx:xz CX X E)
  (I : Inv X pins σ H s) (r:aS vs us) (h:sp (vs++dvs) H Q E):j4 (kq X.prog X.w) X.A (call (.ref f) us) (EP X pins σ Q) X.xe s:=by
 let b:aS (vs++dvs) (us++ds):=r.append hd;let g:(us++ds).length=-ps:=by rw[<- -b];show F.len _ _ _ _ h
 show wpAny_call (ZE (F.run X.A X.stack s H (us,[]) (us++ds) (vs++dvs) Q E c I.env0 (d s us I.kIn g) b h) λr s' a=>?_);cases r with
 |error e=>show hx pins σ H s e s' I a
 |ok fl =>
  cases fl with
  |ret u=>show I.after a
  |next=>show False.elim a
  |brk=>show False.elim a
  |cont=>show False.elim a
def BU(F:cg X.prog X.w X.K X.mg X.base CX k f fd ps sp)(g:fb k X.A)(hg:Gl X x)(i:X.mg x=some (.ref f))(hk:mu X.K (.ref f)=true)(j:gY X.K fd ps ds)(hd:aS dvs ds)(hx:xz CX X E)
  (l:PA X (e::es) t) (a:(x==("__debug__" : bc))=false:=by decide) (m:j0 (e::es) X.env=(false,eval e X.env)::j0 es X.env:=by rfl) (b:(z4 pos (j0 es X.env)).any (·.1)=false:=by rfl) :
  PE X (.Call (.Name x p) (e::es) [] pos) (uK sp dvs E t):=by intro pins s σ H Q I h;show Q2 (Cd I hg i ?_ a);show PySem.W.callWith_K (h₀:=X.base) I.ok.mod.kin hk (thn (l pos pins s σ H _ I h) λus s1 c=>?_) m b;let(vs,H1,d,r,q):=c;show(d.kIn,?_);show DZ F g j hd hx d r q
end
structure aA(N P:OP)(sc:Qq):Prop where
 kind:sc.kind=.function:=by rfl
 co : sc.isCoroutine=false:=by rfl
 gen:sc.isGenerator=false:=by rfl
 nd : N.Nodup:=by decide +kernel
 pre:N.take P.length=P:=by rfl
 par:∀x∈P,sc.names.lookup x=some .local\/sc.names.lookup x=some .cell:=by decide +kernel
 nofree:∀y∈sc.names,y.2≠.free:=by decide +kernel
theorem oI{kindOf:bc->Option NameKind}{x:bc}:∀{binds:List (bc×ao)}{m:bc->OB},(∀v,(x,v) ∉ binds)->Ye kindOf binds m x=m x
 |[],_,_=>rfl
 |(n,v)::r,m,h=>by
  unfold Ye;rw[oI λw hw=>h w (Kv _ hw)];split;let:x≠n:=by rintro rfl;show h v Ks
  simp[this];rfl
theorem oK{kindOf:bc->Option NameKind}{x:bc}:∀{binds:List (bc×ao)}{m:bc->OB},(∀v,(x,v) ∉ binds)->Yf kindOf binds m x=m x
 |[],_,_=>rfl
 |(n,v)::r,m,h=>by
  unfold Yf;rw[oK λw hw=>h w (Kv _ hw)];split;rfl;let:x≠n:=by rintro rfl;show h v Ks
  simp[this]
theorem oJ{kindOf:bc->Option NameKind}{x:bc}{v:ao}:∀{P:OP}{vs:ON}{i:Nat}{m:bc->OB},P.Nodup->P[i]?=OV x->vs[i]?=OV v->kindOf x=OV .local ->
  Ye kindOf (P.zip vs) m x=OV v
 |[],_,_,_,_,h,_,_=>by simp at h
 |_::_,[],_,_,_,_,h,_=>by simp at h
 |p::P,w::vs,0,m,nd,h1,h2,hk=>by
  simp at h1 h2;subst h1;subst h2;show Ye kindOf ((p,w)::P.zip vs) m p=_;unfold Ye;rw[oI λv hv=>(KY.mp nd).1 (Ma hv).1,N6 hk];simp
 |p::P,w::vs,i+1,m,nd,h1,h2,hk=>by
  show Ye kindOf ((p,w)::P.zip vs) m x=_;unfold Ye;show oJ (i:=i) (KY.mp nd).2 (by simpa using h1) (by simpa using h2) hk
theorem oM{kindOf:bc->Option NameKind}{x:bc}{v:ao}:∀{P:OP}{vs:ON}{i:Nat}{m:bc->OB},P.Nodup->P[i]?=OV x->vs[i]?=OV v->kindOf x≠OV .local ->
  Yf kindOf (P.zip vs) m x=OV v
 |[],_,_,_,_,h,_,_=>by simp at h
 |_::_,[],_,_,_,_,h,_=>by simp at h
 |p::P,w::vs,0,m,nd,h1,h2,hk=>by
  simp at h1 h2;subst h1;subst h2;show Yf kindOf ((p,w)::P.zip vs) m p=_;unfold Yf;rw[oK λv hv=>(KY.mp nd).1 (Ma hv).1,N7 hk];simp
 |p::P,w::vs,i+1,m,nd,h1,h2,hk=>by
  show Yf kindOf ((p,w)::P.zip vs) m x=_;unfold Yf;show oM (i:=i) (KY.mp nd).2 (by simpa using h1) (by simpa using h2) hk
noncomputable def start(N:OP)(vs:OU):St:=vs.map OV++KT (-N- -vs) OW
noncomputable def ux(CX:CXT)(P:k5)(w:q3)(K:bg)(mg:bc->OB)(base:bb)(N:OP)(qual:bc)(scope:Qq)(f:ac)(cd:ao)(A:Around)(outer:OI)(s:az)(H:Hp)(E:XK):Cx where
 prog:=P
 w := w
 K := K
 mg := mg
 base:=base
 A := A.deeper (Q8 qual scope (~~~s) f cd)
 N := N
 s₀ := s
 H₀ := H
 env:=Q8 qual scope (~~~s) f cd
 outer:=outer
 stack:=Q8 qual scope (~~~s) f cd::outer
 ex := []
 calm:=OX
 fn := λY=>OX
 pn := []
 xe := λe s'=>j4 (kq P w) (A.deeper (Q8 qual scope (~~~s) f cd)) (leaving (Q8 qual scope (~~~s) f cd) e) (λY a=>CX outer H s E e a) (λb a=>CX outer H s E b a) s'
def mw{sc:Qq}(h:sc.names.lookup x=OV .cell):∃c,(Qc n sc.names []).lookup x=OV c:=by let q:=oL sc.names n [] (.inl h);show Ln.mp q
def nZ{CX:CXT}{P:k5}{w:q3}{K:bg}{mg:bc->OB}{base:bb}{N ps:OP}{qual:bc}{scope:Qq}{f:ac}{cd:ao}{A:Around}{outer:OI}{s s1:az}{H:Hp}{E:XK}{us:ON}{vs:OU}
  (S : aA N ps scope) (hd:A.handled=OW) (d:xM P w K mg base A outer s H) (C:-vs=-ps) (r:aS vs us)
  (x : InCallC s (~~~s) (Ye (Q8 qual scope (~~~s) f cd).kindOf (ps.zip us) λY=>OW) (Qc ((~~~s)+1) scope.names []) (Yf (Q8 qual scope (~~~s) f cd).kindOf (ps.zip us) λY=>OW) s1) :
  Inv (ux CX P w K mg base N qual scope f cd A outer s H E) [] (start N vs) H s1:=by
 let t:-ps<=-N:=by let:=congrArg eH S.pre;rw[K8]at this;lia
 let(h1,tk,rfl,hk):=x.done;let g:∀b:ac,b ∉ (ux CX P w K mg base N qual scope f cd A outer s H E).ex:=λb z=>absurd (show b∈([]:OO) from z) (!1);show((d.mod,S.kind,rfl,rfl,Kz _,λy z c h1 h2=>?_,λy j=>?_,λy c Y h=>?_,λY=>hd,Around.frames_deeper d.frames,.inr (rfl,rfl),λb z=>absurd z (g b),d.bs,d.bsz,λb Y Y=>g b,λb z=>absurd z (g b),d.funs,d.frf,d.tab),
  rfl,d.bare,Un.kept hk,(_,x.toInCall.ns,λi y v h1 h2 h3=>?_),λy c h=>(_,x.cell y c h),d.hok.fresh (Kz _),λy c h=>?_,λp l=>absurd (show p∈([]:Oq) from l) (!1),d.hok.kept hk,?_)
 show name_of_addr x.apart (fy h1) (fy h2);let j:scope.names.lookup y=OV .cell\/scope.names.lookup y=OV .free:=j;rcases j with j|j;show mw j;show absurd rfl (S.nofree _ (fy j));show LP (x.above y c (fy h));let hi:i< -vs:=by unfold start at h2;by_cases hi:i< -vs;show hi;rw[MC (by simpa using hi)]at h2;rw[List.getElem?_replicate]at h2;split at h2 <;> cases h2
 let B:vs[i]?=OV v:=by
  unfold start at h2;rw[Lk (by simpa using hi),KM]at h2;cases e:vs[i]? with
  |none=>rw[e]at h2;cases h2
  |some a=>rw[e]at h2;cases h2;rfl
 let(u,o,rv):=r.get B;let l:ps[i]?=OV y:=by rw[<-S.pre,List.getElem?_take_of_lt (!0)];show h1
 let m:ps.Nodup:=by rw[<-S.pre];show S.nd.sublist (Nn _ _)
 show(u,rv,?_);rcases S.par y (Lu l) with k|k;show .inl (k,oJ m l o k);let(c,e):=mw (n:=(~~~s)+1) k;show .inr (.inl k,c,e,?_);let q:=x.cell y c e;rw[oM m l o (by show scope.names.lookup y≠_;rw[k];decide)]at q;show q;show d.hok.fresh (LP (x.above y c (fy h)));unfold start;show _=-N;rw[KD,Ki,M0];lia
def Fm{CX:CXT}{P:k5}{w:q3}{K:bg}{mg:bc->OB}{base:bb}{k:Nat}{f:ac}{name qual:bc}{params:Zw}{body:List Stmt}{scope:Qq}{l kV doc pm cdv ct oc:ao}{an od:OC}
  {osl:Oh}{N ps:OP}{sp:Sp} (p:K.lookup f=some (oc,od,.func (gi name qual params body scope l kV doc pm an cdv ct),osl)) (h:mA K cdv qual=true) (S:aA N ps scope)
  (len:∀vs H Q E,sp vs H Q E->vs.length=ps.length)
  (a:∀(A:Around) (outer:OI) (s:az) (H:Hp) (vs:OU) (Q:VK) (E:XK),fb k (A.deeper (Q8 qual scope s.heap.objs.size f cdv))->sp vs H Q E ->
   ∃t,PSs (ux CX P w K mg base N qual scope f cdv A outer s H E) body t/\t { nx:=λY H'=>Q .non H',rt:=Q } (start N vs) H) :
  cg P w K mg base CX (k+1) f (gi name qual params body scope l kV doc pm an cdv ct) ps sp:=by
 show(len,λA outer s H args us vs Q E i d z r g=>?_);let B:=len _ _ _ _ g;let m:K.In s.heap:=d.mod.kin.keeps λb o e=>(d.bs b o e).1;let j:s.heap.NoLimit:=d.mod.nolimit.keeps λb o e=>(d.bs b o e).1;let c:∀y∈ps.zip us,scope.names.lookup y.1=OV .local\/(scope.names.lookup y.1=OV .cell/\((Qc ((~~~s)+1) scope.names []).lookup y.1).isSome=OX):=λhz C=>by
  let(n,v):=hz;rcases S.par n (Ma C).1 with q|q;show .inl q;show .inr (q,oL _ _ _ (.inl q))
 show codeAny_call_function i.depth (m _ _ p) rfl S.co S.gen rfl (PySem.W.codeRec_of m h) (z _ _ _ _ ?_);show ZV S.kind c λenv D s1 x=>?_;subst D;show(j.keeps x.toInCall.keep,codeAny_func ?_);let(t,ht,F):=a A outer s H vs Q E (i.deeper _) g;let I:Inv (ux CX P w K mg base N qual scope f cdv A outer s H E) [] (start N vs) H s1:=nZ S i.hd d B r x;show KX (ht [] s1 (start N vs) H _ I F) (λfl s' hs=>?_) λe s' hs=>hs;let fin:∀{σ':St}{H':Hp}{v:V}{u:ao},Inv (ux CX P w K mg base N qual scope f cdv A outer s H E) [] σ' H' s'->bE v u->Q v H'->CE outer P w H s Q u s' :=
  λ{σ' H' v u} J rv q=>(v,H',J.os,J.bare,J.base,J.hok,rv,q)
 cases fl with
 |ret u =>
  let(v,σ',H',J,rv,q):=hs;show fin J rv q
 |next =>
  let(σ',H',J,q):=hs;show fin (v:=V.non) (u:=du) J rfl q
 |brk =>
  let(_,_,_,q):=hs;show False.elim q
 |cont =>
  let(_,_,_,q):=hs;show False.elim q
section
variable{X:Cx}{x:bc}{p pos:Pos}{e:ba}{es:OS}{t:TA}{id T:String}{r:OU->Hp->VK->Prop}
def tCB(r:OU->Hp->VK->Prop)(t:TA):TE:=λσ H Q=>t σ H λvs H1=>r vs H1 Q
def ja(hc:fM X (.builtin id) r)(hg:Gl X x)(c:X.mg x=none)(hv:Qz x=some (.builtin id))(d:PA X (e::es) t)(hn:x ≠ "__name__" := by decide)(a:(x==("__debug__" : bc))=false:=by decide)
  (f:j0 (e::es) X.env=(false,eval e X.env)::j0 es X.env:=by rfl) (b:(z4 pos (j0 es X.env)).any (·.1)=false:=by rfl):PE X (.Call (.Name x p) (e::es) [] pos) (tCB r t):=by intro pins s σ H Q I h;show Q2 (gS I hg c hv ?_ hn a);show PyProof.Rows.callWith_builtin1 (thn (d pos pins s σ H _ I h) λus s1 z=>by let(vs,H1,g,i,q1):=z;show hc pins s1 σ H1 vs us Q g i q1) f b
def jM(hc:fM X (.type T) r)(hg:Gl X x)(c:X.mg x=none)(hv:Qz x=some (.type T))(d:PA X (e::es) t)(hn:x ≠ "__name__" := by decide)(a:(x==("__debug__" : bc))=false:=by decide)
  (f:j0 (e::es) X.env=(false,eval e X.env)::j0 es X.env:=by rfl) (b:(z4 pos (j0 es X.env)).any (·.1)=false:=by rfl):PE X (.Call (.Name x p) (e::es) [] pos) (tCB r t):=by intro pins s σ H Q I h;show Q2 (gS I hg c hv ?_ hn a);show fx (thn (d pos pins s σ H _ I h) λus s1 z=>by let(vs,H1,g,i,q1):=z;show hc pins s1 σ H1 vs us Q g i q1) f b
end
end _L
namespace HT
open PySem PyProof.Rows
def lexLt:OD->OD->Bool
 |[],[]=>OY
 |[],_::_=>OX
 |_::_,[]=>OY
 |x::xs,y::ys=>if x=y then lexLt xs ys else decide (x<y)
def lexLt_cons(x y:Int)(xs ys:OD):lexLt (x::xs) (y::ys)=if x=y then lexLt xs ys else decide (x<y):=rfl
def lexLt_nil_nil:lexLt [] []=OY:=rfl
def lexLt_nil_cons(y:Int)(ys:OD):lexLt [] (y::ys)=OX:=rfl
def lexLt_cons_nil(x:Int)(xs:OD):lexLt (x::xs) []=OY:=rfl
section
open PySem.SeqAt
open PySem.AutoSeq1 (wpAny_loadPart')
open PySem.MeetsSeq PySem.MeetsSeq2 PySem.MeetsSeq3
end
section
def cat_tup(ht:IsTup s.heap t vs.toArray)(j:IsTup s.heap b ws.toArray)(hv:vs≠[])
  (h1:ws=[]->Q (.ref t) s) (h2:ws≠[]->Q (.ref s.heap.objs.size) { s with heap:=s.heap.push { cls:=.type "tuple",data:=.seq (vs++ws).toArray } })
  (hsz:vs.length+ws.length<=sizeLine):j4 (kq prog w) A (Qs .Add (.ref t) (.ref b)) Q E s:=by
 cbv;let((cls,dd,data,sl),ho,hc,n,hd):=id ht;let((h,c,data2,d),a,f,i,g):=id j;simp only at hc hd f g;subst hc hd f g
 w_up;let e:vs.toArray++ws.toArray=(vs++ws).toArray:=!1
 by_cases hw:ws=[]
 show ZD (_,ho,rfl) (_,a,rfl) ZL Z8 oS om (n5 _ _)
  (tuple_addW1 t b vs.toArray ws.toArray n i dd c sl d (by simpa using hv) (by simp[hw])) (ho,a,h1 hw)
 show ZD (_,ho,rfl) (_,a,rfl) ZL Z8 oS om (n5 _ _)
  (tuple_addW2 t b vs.toArray ws.toArray n i dd c sl d (by simpa using hv) (by simpa using hw) (by rw[KA,KA];show hsz)) (ho,a,?_)
 rw[e];show h2 hw
noncomputable def sIx(n d:Nat):Oy->Nat
 |none=>d
 |some v=>if v<0 then (v+(n:Int)).toNat else min v.toNat n
def sIx_none(n d:Nat):sIx n d OW=d:=rfl
def sIx_nat(n d k:Nat):sIx n d (OV (k:Int))=min k n:=by show(if (k:Int)<0 then ((k:Int)+(n:Int)).toNat else min (k:Int).toNat n)=min k n;rw[N7 (!0),K2]
end
end HT
namespace _L
open PySem PySem.Spec PyProof.Rows
abbrev TO:=St->Hp->(Oy->Hp->Prop)->Prop
def PO(X:Cx)(e:Option ba)(t:TO):Prop :=
 ∀(pins:Oq) (s:az) (σ:St) (H:Hp) (Q:Oy->Hp->Prop),Inv X pins σ H s->t σ H Q ->
  j4 (kq X.prog X.w) X.A (evalPart e X.env) (λu s'=>∃o H',Inv X pins σ H' s'/\IsPart u o/\Q o H') X.xe s
def A7:TO:=λY H Q=>Q OW H
def Gz(t:TE):TO:=λσ H Q=>t σ H λx H1=>∃i,x=.int i/\Q (OV i) H1
section
variable{X:Cx}{e:ba}{te:TE}{lo hi:Option ba}{tl th:TO}{pos p2:Pos}
def BI:PO X OW A7:=by intro pins s σ H Q I h;rw[Z9];show js (OW,H,I,.none,h)
def BH(h:PE X e te):PO X (OV e) (Gz te):=by
 intro pins s σ H Q I hw;rw[evalPart_some];show thn (h pins s σ H _ I hw) λu s1 a=>?_
 cbv;let(x,H1,b,c,q1):=a;let(i,rfl,q):=q1;let(t,rfl):=c
 w_up;show(OV i,H1,b,.int i t,q)
def SlR(X:Cx)(r:V->Oy->Oy->Hp->VK->Prop):Prop :=
 ∀(pins:Oq) (s:az) (σ:St) (H:Hp) (x:V) (v a b:ao) (lo hi:Oy) (sl:ac) (Q:VK),Inv X pins σ H s->bE x v->s.heap.IsSliceOf sl a b .none->IsPart a lo->IsPart b hi->r x lo hi H Q ->
  ∃T id,ZW (.type T) "__getitem__" = pure (OV (.builtin id))/\s.TypeIs v T/\j4 (kq X.prog X.w) X.A (getItem v (.ref sl)) (EP X pins σ Q) X.xe s
def tSl(r:V->Oy->Oy->Hp->VK->Prop)(te:TE)(tl th:TO):TE:=λσ H Q=>te σ H λx H1=>tl σ H1 λl H2=>th σ H2 λu a=>r x l u a Q
def yt(k:SlR X r)(m:PE X e te)(n:PO X lo tl)(o:PO X hi th):PE X (.Subscript e (.Slice lo hi OW p2) pos) (tSl r te tl th):=by intro pins s σ H Q I h;show Subscript_ (thn (m pins s σ H _ I h) λv s1 f=>?_);let(x,H1,p,t,q1):=f;show wpAny_Slice (thn (n pins s1 σ H1 _ p q1) λc s2 g=>?_);let(l,H2,y,pl,q2):=g;show thn (o pins s2 σ H2 _ y q2) λd a i=>?_;let(u,j,z,B,C):=i;rw[Z9];show js ?_;let D:Inv X pins σ j { a with heap:=a.heap.push { cls:=.type "slice",data:=.fields #[c,d,.none] } }:=z.kept (t':=a.toks) λb ob q=>Kq _ q;let(T,id,hT,ht,hg):=k pins { a with heap:=a.heap.push { cls:=.type "slice",data:=.fields #[c,d,.none] } } σ j x v c d l u (~~~a) Q D t (Hs ..) pl B C;show j4 (kq X.prog X.w) X.A (Q7 e (.Slice lo hi OW p2) v (.ref (~~~a))) (EP X pins σ Q) X.xe { a with heap:=a.heap.push { cls:=.type "slice",data:=.fields #[c,d,.none] } };show tail_any (ops:=[.ref (~~~a),v]) ht hT hg (by with_unfolding_all rfl)
def Dq(xs:OU)(lo hi:Oy):OU:=(xs.drop (HT.sIx (-xs) 0 lo)).take (HT.sIx (-xs) (-xs) hi-HT.sIx (-xs) 0 lo)
def qy(xs:OU)(lo hi:Oy):(Dq xs lo hi).length<=-xs:=by unfold Dq;rw[K8,vr];lia
def GU(K:bg):R2:=λx y H Q=>∃a b xs ys,x=.ref a/\y=.ref b/\SqT K H a xs/\SqT K H b ys/\xs≠[]/\xs.length+-ys<=sizeLine /\
 (ys=[]->Q (.ref a) H)/\(ys≠[]->∀p,H p=OW->Q (.ref p) (upd H p (.tup (xs++ys))))
def aS.nil_iff(r:aS xs us):us=[]↔xs=[]:=by
 cases r with
 |nil=>simp
 |cons _ _=>simp
def BZ:OpR X (Qs .Add) (GU X.K):=by
 intro pins s σ H x y v u Q I f g h
 cbv;let(a,b,xs,ys,rfl,rfl,i,j,hx,hz,q1,q2):=h;cases f;cases g;let(its,d,k,_):=I.tuple i;let(e,c,p2,_):=I.tuple j
 w_up;show HT.cat_tup k p2 (λz=>hx (d.nil_iff.mp z)) (λz=>(.ref a,H,I,rfl,q1 (c.nil_iff.mp z))) (λz=>?_) (by rw[<- -d,<- -c];show hz);show(.ref (~~~s),_,I.laid (t':=s.toks) (o:=.tup (xs++ys)) (λb ob q=>Kq _ q) (Kz _) ?_,rfl,q2 (λw=>z (c.nil_iff.mpr w)) _ (I.hok.fresh (Kz _)));show(by rw[KD];show hz,_,d.append c,xJ.new _ _)
end
noncomputable def ixN(n:Nat)(i:Int):OA:=if 0<=i then (if i<n then OV i.toNat else OW) else if -(n:Int)<=i then OV (i+n).toNat else OW
def atI{α:Type}(xs:List α)(i:Int):Option α:=(ixN (-xs) i).bind λj=>xs[j]?
def wo(h:ixN n i=OV j):ZK i n=OV j/\j<n/\-(n:Int)<=i/\i<n:=by unfold ixN at h;by_cases h0:0<=i;rw[N6 h0]at h;by_cases h1:i<n;rw[N6 h1]at h;let e:i.toNat=j:=di h;show(by rw[seqIndex_of h0 h1,e],!0,!0,h1);rw[N7 h1]at h;cases h;rw[N7 h0]at h;by_cases h1:-(n:Int)<=i;rw[N6 h1]at h;let e:(i+n).toNat=j:=di h;show(by rw[seqIndex_neg (!0) h1,e],!0,h1,!0);rw[N7 h1]at h;cases h
def xr{xs:List α}(h:atI xs i=OV v):∃j,ZK i (-xs)=OV j/\xs[j]?=OV v/\j< -xs/\-(-xs:Int)<=i/\i< -xs:=by
 unfold atI at h;cases e:ixN (-xs) i with
 |none=>rw[e]at h;cases h
 |some j =>
  rw[e]at h;let(h1,h2,h3,h4):=wo e;show(j,h1,h,h2,h3,h4)
def cA{α:Type}{xs:List α}{j:Nat}{v:α}(h:xs[j]?=OV v):atI xs (j:Int)=OV v:=by
 let hj:j< -xs:=(Kx.mp h).1;let e:ixN (-xs) (j:Int)=OV j:=by unfold ixN;rw[N6 (!0),N6 (!0)];simp
 unfold atI;rw[e];show h
def mD(xs:List α)(v:α):atI (xs++[v]) (-1)=OV v:=by
 let a:(xs++[v]).length=-xs+1:=!1
 let e:ixN (xs++[v]).length (-1)=OV (-xs):=by
  unfold ixN;rw[a,N7 (!2),N6 (!0)]
  congr 1
  lia
 unfold atI;rw[e];show(xs++[v])[xs.length]?=OV v;simp
def fK(b:ba):Prop:=∀o i,ZN b OY o i=operate [o,i] (getItem o i)
def IxR(X:Cx)(r:R2):Prop :=
 ∀(a slice:ba) (pins:Oq) (s:az) (σ:St) (H:Hp) (x y:V) (v u:ao) (Q:VK),Inv X pins σ H s->bE x v->bE y u->r x y H Q ->
  ZN slice OY v u=operate [v,u] (getItem v u)->j4 (kq X.prog X.w) X.A (Q7 a slice v u) (EP X pins σ Q) X.xe s
def MtR(X:Cx)(id:String)(r:V->OU->Hp->VK->Prop):Prop :=
 ∀(pins:Oq) (s:az) (σ:St) (H:Hp) (x:V) (xs:OU) (v:ao) (us:ON) (Q:VK),Inv X pins σ H s->bE x v->aS xs us->r x xs H Q ->
  j4 (kq X.prog X.w) X.A (call (.builtin id) (v::us)) (EP X pins σ Q) X.xe s
section
variable{X:Cx}{a b:ba}{ta tb:TE}{pos:Pos}
def IxR.or{r b:R2}(h:IxR X r)(h':IxR X b):IxR X (λx y H Q=>r x y H Q\/b x y H Q):=by intro a slice pins s σ H x y v u Q I c d q hs;rcases q with q|q;show h a slice pins s σ H x y v u Q I c d q hs;show h' a slice pins s σ H x y v u Q I c d q hs
def pL(c:IxR X r)(d:PE X a ta)(e:PE X b tb)(hs:fK b):PE X (.Subscript a b pos) (tOp r ta tb):=by intro pins s σ H Q I h;show Subscript_ (H9 d e I h λv u s2 x y H2 f g i q=>c a b pins s2 σ H2 x y v u Q f g i q (hs _ _))
def Ix(K:bg):R2:=λx y H Q=>∃p xs i v,x=.ref p/\y=.int i/\SqL K H p xs/\atI xs i=OV v/\Q v H
def Iw(K:bg):R2:=λx y H Q=>∃p xs i v,x=.ref p/\y=.int i/\SqT K H p xs/\atI xs i=OV v/\Q v H
def Co:IxR X (Ix X.K):=by
 intro a slice pins s σ H x y v u Q I d e h hs
 cbv;let(p,xs,i,z,rfl,rfl,f,g,q):=h;cases d;let(t,rfl):=e;let(its,r,pl,hz):=I.list f;let(j,h1,h2,h3,h4,h5):=xr g;let(w,c,b):=r.get h2
 w_up;let k:=-r;let hn:=kQ;let fin:EP X pins σ Q w s:=(z,H,I,b,q)
 by_cases h0:0<=i;let hj:i.toNat=j:=by rw[seqIndex_of h0 h5]at h1;show di h1
 show item_listR pl.isList h0 (!0) (by rw[hj];simpa using c) fin hs;let hj:(i+(its.toArray.size:Int)).toNat=j:=by rw[seqIndex_neg (!0) h4]at h1;rw[KA,<-k];show di h1
 show Yi (x:=w) pl.isList.typeIs slot_list_getitem.lookup
  (wpAny_getItem_list_neg (Q:=λr s'=>r=w/\EP X pins σ Q r s') pl.isList (!0) (by rw[KA] <;> lia) (!0) (by rw[hj];simpa using c) (rfl,fin)) hs
def Ff:IxR X (Iw X.K):=by
 intro a slice pins s σ H x y v u Q I c d h hs
 cbv;let(p,xs,i,z,rfl,rfl,e,f,q):=h;cases c;let(t,rfl):=d;let(its,r,pl,hz):=I.tuple e;let(j,h1,h2,h3,h4,h5):=xr f;let(w,g,b):=r.get h2
 w_up;let k:=-r;let hn:=kQ;let fin:EP X pins σ Q w s:=(z,H,I,b,q)
 show Yi (x:=w) pl.typeIs slot_tuple_getitem.lookup
  (getItem_tuple (j:=j) (Q:=λr s'=>r=w/\EP X pins σ Q r s') pl (!0) (!0) (by rw[KA,<-k];show h1) (by simpa using g) (rfl,fin)) hs
def uc(its:ON)(n j:Nat)(u:ao):eb (·.setIfInBounds j u) { cls:=.type "list",data:=.seq its.toArray n }={ cls:=.type "list",data:=.seq (its.set j u).toArray n }:=by simp[eb]
theorem Inv.lst{pins:Oq}{σ:St}{H:Hp}{s:az}{p:ac}{xs:OU}(I:Inv X pins σ H s)(h:H p=some (.lst xs)) :
  ∃(its:ON) (n:Nat),aS xs its/\s.heap.get? p=some { cls:=.type "list",data:=.seq its.toArray n }/\xs.length<=sizeLine:=by let(z,its,n,r,e):=I.hok p _ h;show(its,n,r,e,z)
def Inv.lstUpd{pins:Oq}{σ:St}{H:Hp}{s:az}{p:ac}{xs ys:OU}{its its':ON}{n a:Nat}{f:Obj->Obj}(I:Inv X pins σ H s)(h:H p=some (.lst xs))
  (ho:s.heap.get? p=some { cls:=.type "list",data:=.seq its.toArray n }) (c:f { cls:=.type "list",data:=.seq its.toArray n }={ cls:=.type "list",data:=.seq its'.toArray a }) (r:aS ys its') (hz:ys.length<=sizeLine) (t:Nat) :
  Inv X pins σ (upd H p (.lst ys)) { s with heap:=s.heap.update p f,toks:=t }:=by
 let e:(s.heap.update p f).get? p=OV { cls:=.type "list",data:=.seq its'.toArray a }:=by rw[K9 f ho (by rw[c] <;> rfl),c]
 show I.write (x:=p) (e:=p) (by rw[h];trivial) (.inl rfl) (λb u d q=>(K6 _ _ (Ne.symm d)).trans q) (_,e) ?_;show(hz,its',a,r,e)
def GO:V->V->V->Hp->(Hp->Prop)->Prop:=λo i v H Q=>∃p xs k j,o=.ref p/\i=.int k/\H p=OV (.lst xs)/\ixN (-xs) k=OV j/\Q (upd H p (.lst (xs.set j v)))
def yd:FR X GO:=by
 intro pins s σ H o i v ov iv u Q I d e rv h
 cbv;let(p,xs,k,j,rfl,rfl,b,hj,q):=h;cases d;let(t,rfl):=e;let(its,n,r,ho,hz):=I.lst b;let(h1,h2,h3,h4):=wo hj
 w_up;let a:=-r;let hn:=kQ;let c:Inv X pins σ (upd H p (.lst (xs.set j v))) { s with heap:=s.heap.update p (eb (·.setIfInBounds j u)) } :=
  I.lstUpd b ho (uc its n j u) (r.set rv j) (by rw[A2];show hz) s.toks
 by_cases h0:0<=k;let hk:k.toNat=j:=by rw[seqIndex_of h0 h4]at h1;show di h1
 show PySem.W.ki_setAt ho h0 (!0) (by rw[KA,<-a];show h4) (by rw[hk];show(_,c,q));let hk:(k+(its.toArray.size:Int)).toNat=j:=by rw[seqIndex_neg (!0) h3]at h1;rw[KA,<-a];show di h1
 show PySem.W.ki_setBack ho (!0) (by rw[KA,<-a];show h3) (!0) (by rw[hk];show(_,c,q))
def mV(lo hi:Oy)(n:Nat):(Qj lo hi OW n).1=((HT.sIx n 0 lo:Nat):Int)/\(Qj lo hi OW n).2.1=((HT.sIx n n hi:Nat):Int)/\(Qj lo hi OW n).2.2=1:=by
 show(?_,?_,rfl);cases lo with
 |none=>simp[Qj,HT.sIx]
 |some i =>
  simp only[Qj,HT.sIx,Nd,show(1:Int)>0 by decide,if_true];by_cases h:i<0;simp only[h,if_true] <;> lia
  simp only[h,if_false] <;> lia
 cases hi with
 |none=>simp[Qj,HT.sIx]
 |some i =>
  simp only[Qj,HT.sIx,Nd,show(1:Int)>0 by decide,if_true];by_cases h:i<0;simp only[h,if_true] <;> lia
  simp only[h,if_false] <;> lia
def lC(its:ON)(lo hi:Oy):Yb its.toArray lo hi OW=((its.drop (HT.sIx (-its) 0 lo)).take (HT.sIx (-its) (-its) hi-HT.sIx (-its) 0 lo)).toArray:=by let(h1,h2,h3):=mV lo hi its.toArray.size;unfold Yb;rw[h1,h2,h3];simp only[sliceRange_one,pick_run,KA] <;> rfl
def Iv(K:bg):V->Oy->Oy->Hp->VK->Prop:=λx lo hi H Q=>∃a xs,x=.ref a/\SqL K H a xs/\∀p,H p=OW->Q (.ref p) (upd H p (.lst (Dq xs lo hi)))
def Bf:SlR X (Iv X.K):=by
 intro pins s σ H x v f g lo hi sl Q I d hs pl e h
 cbv;let(a,xs,rfl,hx,q):=h;cases d;let(its,r,ht,hz):=I.list hx
 w_up;let c:=-r;show("list",_,slot_list_getitem.lookup,ht.isList.typeIs,?_);show Z6 ht.isList hs pl e .none (!1) ?_ (by rw[KA] <;> lia);rw[lC,<-c];show(.ref (~~~s),_,I.laid (t':=s.toks) (o:=.lst (Dq xs lo hi)) (λb ob q=>Kq _ q) (Kz _) ?_,rfl,q _ (I.hok.fresh (Kz _)));show(Kr (qy xs lo hi) hz,_,0,(r.drop (HT.sIx (-xs) 0 lo)).take (HT.sIx (-xs) (-xs) hi-HT.sIx (-xs) 0 lo),KF _ rfl)
def l9:V->Bool
 |.non=>OX
 |.bl _=>OX
 |.int _=>OX
 |.str _=>OX
 |_=>OY
noncomputable def eqV:V->V->Bool
 |.non,.non=>OX
 |.bl a,.bl b=>a==b
 |.bl a,.int b=>(if a then 1 else 0)==b
 |.int a,.bl b=>a==(if b then 1 else 0)
 |.int a,.int b=>a==b
 |.str a,.str b=>a==b
 |_,_=>OY
def Fx(d:bE y u)(c:bE x v)(f:l9 y=OX)(e:l9 x=OX):sa A s u v (eqV y x):=by
 cases y with
 |non =>
  cases d;cases x with
  |non=>cases c;show SeqAt.EqAt.same _
  |bl b=>cases c;show SeqAt.EqAt.none_bool b
  |int b=>let(t,rfl):=c;show SeqAt.EqAt.none_int b t
  |str b=>let(t,rfl):=c;show SeqAt.EqAt.none_str b t
  |_=>show absurd (show OY=OX from e) KH
 |bl a =>
  cases d;cases x with
  |non=>cases c;show SeqAt.EqAt.bool_none a
  |bl b=>cases c;show SeqAt.EqAt.bool_bool a b
  |int b=>let(t,rfl):=c;show SeqAt.EqAt.bool_int a b t
  |str b=>let(t,rfl):=c;show SeqAt.EqAt.bool_str a b t
  |_=>show absurd (show OY=OX from e) KH
 |int a =>
  let(t',rfl):=d;cases x with
  |non=>cases c;show SeqAt.EqAt.int_none a t'
  |bl b=>cases c;show SeqAt.EqAt.int_bool a t' b
  |int b=>let(t,rfl):=c;show MI a t' b t
  |str b=>let(t,rfl):=c;show MH a t' b t
  |_=>show absurd (show OY=OX from e) KH
 |str a =>
  let(t',rfl):=d;cases x with
  |non=>cases c;show SeqAt.EqAt.str_none a t'
  |bl b=>cases c;show SeqAt.EqAt.str_bool a t' b
  |int b=>let(t,rfl):=c;show MG a t' b t
  |str b=>let(t,rfl):=c;show SeqAt.EqAt.str_str a t' b t
  |_=>show absurd (show OY=OX from e) KH
 |_=>show absurd (show OY=OX from f) KH
def eqU(x:V)(u:ao):Bool:=match u with
 |.none=>eqV .non x
 |.bool b=>eqV (.bl b) x
 |.int i _=>eqV (.int i) x
 |.str z _=>eqV (.str z) x
 |_=>OY
def Ay(r:bE y u)(f:l9 y=OX):eqU x u=eqV y x:=by
 cases y with
 |non=>cases r;rfl
 |bl b=>cases r;rfl
 |int i=>let(t,rfl):=r;rfl
 |str z=>let(t,rfl):=r;rfl
 |_=>show absurd (show OY=OX from f) KH
def ke{xs:OU}{us:ON}(h:aS xs us):xs.all l9=OX->us.any (eqU x)=xs.any λy=>eqV y x:=by
 induction h with
 |nil=>exactλY=>rfl
 |cons r t i=>intro f;rw[NU,Ll]at f;rw[LV,LV,Ay r f.1,i f.2]
def gQ(b:bE x v)(c:l9 x=OX){xs:OU}{us:ON}(h:aS xs us):xs.all l9=OX->∀u∈us,sa A s u v (eqU x u):=by
 induction h with
 |nil=>exactλY u a=>by cases a
 |cons r t i =>
  intro f d a;rw[NU,Ll]at f;rcases Kt.mp a with rfl|a;rw[Ay r f.1];show Fx r b f.1 c;show i f.2 d a
def inV(x:V)(xs:OU):Bool:=xs.any λy=>eqV y x
def rIn(K:bg)(neg:Bool):R2:=λx y H Q=>∃p xs,y=.ref p/\(SqL K H p xs\/SqT K H p xs)/\l9 x=OX/\xs.all l9=OX/\Q (.bl (if neg then !inV x xs else inV x xs)) H
def vQ:OpR X (zs .In) (rIn X.K OY):=by
 intro pins s σ H x y v u Q I b d h
 cbv;let(p,xs,rfl,a,c,fs,q):=h;cases d
 w_up;rcases a with a|a;let(its,r,pl,hz):=I.list a;show SeqAt.in_listAt (eqU x) pl.isList (λw hw=>gQ b c r fs w (by simpa using hw)) (.bl _,H,I,rfl,?_);rw[show its.toArray.any (eqU x)=its.any (eqU x) by simp,ke r fs];show q;let(its,r,pl,hz):=I.tuple a;show SeqAt.in_tupleAt (eqU x) pl (λw hw=>gQ b c r fs w (by simpa using hw)) (.bl _,H,I,rfl,?_);rw[show its.toArray.any (eqU x)=its.any (eqU x) by simp,ke r fs];show q
def ng:OpR X (zs .NotIn) (rIn X.K OX):=by
 intro pins s σ H x y v u Q I b d h
 cbv;let(p,xs,rfl,a,c,fs,q):=h;cases d
 w_up;rcases a with a|a;let(its,r,pl,hz):=I.list a;show SeqAt.notIn_listAt (eqU x) pl.isList (λw hw=>gQ b c r fs w (by simpa using hw)) (.bl _,H,I,rfl,?_);rw[show its.toArray.any (eqU x)=its.any (eqU x) by simp,ke r fs];show q;let(its,r,pl,hz):=I.tuple a;show SeqAt.notIn_tupleAt (eqU x) pl (λw hw=>gQ b c r fs w (by simpa using hw)) (.bl _,H,I,rfl,?_);rw[show its.toArray.any (eqU x)=its.any (eqU x) by simp,ke r fs];show q
def oH:fM X (.builtin "len") (λxs H Q=>∃p ys,xs=[.ref p]/\(SqL X.K H p ys\/SqT X.K H p ys)/\Q (.int (-ys)) H):=by
 intro pins s σ H xs us Q I r h
 cbv;let(p,ys,rfl,b,q):=h;let(u,rfl,d):=iQ r;cases d
 w_up;let hn:=kQ;rcases b with b|b;let(its,c,pl,hz):=I.list b;let a:=-c;show Calls.call_len_list pl.isList (by simp only[KA] <;> lia) (.int (-ys),H,I.tok _,(s.toks+1,by rw[KA,a]),q);let(its,c,pl,hz):=I.tuple b;let a:=-c;show len_tuple pl (by simp only[KA] <;> lia) (.int (-ys),H,I.tok _,(s.toks+1,by rw[KA,a]),q)
def oG:fM X (.type "list") (λxs H Q=>∃p ys,xs=[.ref p]/\(SqL X.K H p ys\/SqT X.K H p ys)/\∀l,H l=OW->Q (.ref l) (upd H l (.lst ys))):=by
 intro pins s σ H xs us Q I r h
 cbv;let(p,ys,rfl,c,q):=h;let(u,rfl,f):=iQ r;cases f
 w_up;let fin:∀(its:ON),aS ys its->-ys<=sizeLine->∀(h':bb) (c':Nat),(∀b o',s.heap.get? b=OV o'->h'.get? b=OV o') ->
   h'.get? (~~~s)=OV { cls:=.type "list",dict:=OW,data:=.seq its.toArray c',slots:=#[] }->EP X pins σ Q (.ref (~~~s)) { s with heap:=h' }:=λits a hz h' c' kp e =>
  (.ref (~~~s),_,I.laid (t':=s.toks) kp (Kz _) (show fL X.prog X.w _ h' _ (.lst ys) from(hz,its,c',a,e)),rfl,q _ (I.hok.fresh (Kz _)))
 rcases c with c|c;let(its,a,pl,hz):=I.list c;let d:=-a;let(o,ho,hc,n,hd):=pl.isList;show call_list_seq p (.inl rfl) ho hc hd (λh' c' kp e=>fin its a hz h' c' kp e) (by simp only[KA] <;> lia);let(its,a,pl,hz):=I.tuple c;let d:=-a;let(o,ho,hc,n,hd):=pl;show call_list_seq p (.inr rfl) ho hc hd (λh' c' kp e=>fin its a hz h' c' kp e) (by simp only[KA] <;> lia)
def mx:fM X (.type "tuple") (λxs H Q=>∃p ys,xs=[.ref p]/\((SqL X.K H p ys/\∀l,H l=OW->Q (.ref l) (upd H l (.tup ys)))\/(SqT X.K H p ys/\Q (.ref p) H))):=by
 intro pins s σ H xs us Q I r h
 cbv;let(p,ys,rfl,h):=h;let(u,rfl,g):=iQ r;cases g
 w_up;rcases h with⟨a,q⟩|⟨a,q⟩
 let(its,c,pl,hz):=I.list a;let d:=-c;show call_tuple_list pl.isList (λh' kp=>?_) (by simp only[KA] <;> lia);let f:Inv X pins σ H { s with heap:=h' }:=I.kept (t':=s.toks) kp;let i:Inv X pins σ (upd H h'.objs.size (.tup ys)) { s with heap:=h'.push { cls:=.type "tuple",data:=.seq its.toArray } } :=
  f.laid (t':=s.toks) (λb o e=>Kq _ e) (Kz _) (show fL X.prog X.w _ _ _ (.tup ys) from(hz,its,c,xJ.new _ _))
 show(.ref h'.objs.size,_,i,rfl,q _ (f.hok.fresh (Kz _)));let(its,c,pl,hz):=I.tuple a;show call_tuple_same pl (.ref p,H,I,rfl,q)
def tyV(K:bg)(T:String)(x:V)(H:Hp):Prop:=match x with
 |.str _=>T = "str"
 |.int _=>T = "int"
 |.ref p=>(T = "list" /\ ∃xs,SqL K H p xs)\/(T = "tuple" /\ ∃xs,SqT K H p xs) \/
   (T = "dict" /\ ((∃kvs,H p=OV (.dK kvs))\/∃kvs,H p=OV (.dT kvs)))\/(T = "set" /\ ∃S n,H p=OV (.set S n))
 |_=>False
def zM{pins:Oq}{σ:St}{H:Hp}{s:az}{T:String}{x:V}{v:ao}(I:Inv X pins σ H s)(r:bE x v)(ty:tyV X.K T x H) :
  s.TypeIs v T/\∀a,v=.ref a->∃ob,s.heap.get? a=OV ob/\ob.dict=OW:=by
 cases x with
 |str z =>
  let(t,rfl):=r;cases (show T = "str" from ty);show(typeIs_str s z t,λY e=>nomatch e)
 |int i =>
  let(t,rfl):=r;cases (show T = "int" from ty);show(typeIs_int s i t,λY e=>nomatch e)
 |ref p =>
  cases r;rcases ty with⟨rfl,xs,b⟩|⟨rfl,xs,b⟩|⟨rfl,hk⟩|⟨rfl,S,n,hk⟩
  .let(its,_,pl,_):=I.list b;show(pl.isList.typeIs,λa e=>?_)
   cbv;cases e;let(o,n,e,c,hd,_):=pl
   w_up;show(o,e,hd)
  let(its,_,o,e,hc,_,hd):=I.tupleN b;show((o,e,hc),λa d=>?_);cases d;show(o,e,hd);let z:∃o,s.heap.get? p=OV o/\o.ExactDict:=by
   rcases hk with⟨kvs,hk⟩|⟨kvs,hk⟩
   let(_,_,_,_,o,_,_,e,ex,_):=I.hok p _ hk;show(o,e,ex);let(_,_,_,_,o,_,_,e,ex,_):=I.hok p _ hk;show(o,e,ex)
  let(o,e,ex):=z;show((o,e,ex.1),λa e2=>?_);cases e2;show(o,e,ex.2.1);let(o,_,_,_,e,ex,_):=I.hok p _ hk;show((o,e,ex.1),λa e2=>?_);cases e2;show(o,e,ex.2.1)
 |_=>show False.elim ty
def Iq(K:bg)(T:String)(r:V->OU->Hp->VK->Prop)(to:TE):TE:=λσ H Q=>to σ H λx H1=>tyV K T x H1/\r x [] H1 Q
def tBM(K:bg)(T:String)(r:V->OU->Hp->VK->Prop)(to:TE)(t:TA):TE:=λσ H Q=>to σ H λx H1=>tyV K T x H1/\t σ H1 λxs H2=>r x xs H2 Q
variable{o e:ba}{es:OS}{to:TE}{t:TA}{name:bc}{apos cpos:Pos}{T id:String}{r:V->OU->Hp->VK->Prop}
def EC(pa:Zf T)(slot:Slot T name id)(c:Yg (.builtin id)=pure (.type "method_descriptor"))(g:MtR X id r)(ho:PE X o to)
  (a:z5 o name X.env (eval o X.env)=eval o X.env:=by rfl) (b:(apos.endLine==cpos.line)=true:=by rfl):PE X (.Call (.Attribute o name apos) [] [] cpos) (Iq X.K T r to):=by intro pins s σ H Q I h;show wpAny_Call_method0_late a b (thn (ho pins s σ H _ I h) λv s1 d=>?_);let(x,H1,e,f,ty,q1):=d;let(h1,h2):=zM e f ty;show(T,id,pa,slot,c,h1,h2,Calls.callWith_builtin rfl (PySem.evalArgs_none (g pins s1 σ H1 x [] v [] Q e f .nil q1)))
def ED(pa:Zf T)(slot:Slot T name id)(f:Yg (.builtin id)=pure (.type "method_descriptor"))(k:MtR X id r)(ho:PE X o to)(l:PA X (e::es) t)
  (b:z5 o name X.env (eval o X.env)=eval o X.env:=by rfl)
  (d:((z4 cpos (j0 (e::es) X.env)).all (λx=>!x.1)&&(QD cpos (Qk [] X.env)).all (λx=>x.1.isSome)
   && decide ((e::es).length+([]:OR).length+(if ([]:OR).isEmpty then 0 else 1)<30))=true:=by rfl)
  (c:(apos.endLine==cpos.line)=true:=by rfl) (hs:j0 (e::es) X.env=(false,eval e X.env)::j0 es X.env:=by rfl) (a:(z4 cpos (j0 es X.env)).any (·.1)=false:=by rfl) :
  PE X (.Call (.Attribute o name apos) (e::es) [] cpos) (tBM X.K T r to t):=by intro pins s σ H Q I h;show Zd b d c rfl (thn (ho pins s σ H _ I h) λv s1 g=>?_);let(x,H1,i,j,ty,q1):=g;let(h1,h2):=zM i j ty;show(T,id,pa,slot,f,h1,h2,?_);let hA:=l cpos pins s1 σ H1 _ i q1;rw[hs]at hA ⊢;show Calls.callWith_builtin (by show(OY ||(z4 cpos (j0 es X.env)).any (·.1))=OY;rw[a] <;> rfl) (Calls.evalArgs_plain ?_);show thn hA λus s2 z=>by let(vs,H2,m,n,q2):=z;show k pins s2 σ H2 x vs v us Q m j n q2
end
def MtM(X:Cx)(id:String)(r:V->OU->Hp->VK->Prop):Prop :=
 ∀(pins:Oq) (s:az) (σ:St) (H:Hp) (x:V) (xs:OU) (v:ao) (us:ON) (Q:VK),Inv X pins σ H s->bE x v->aS xs us->r x xs H Q ->
  j4 (kq X.prog X.w) X.A (call (.builtin id) (v::us)) (EP X pins σ Q) X.xe s
def aS.consI(h:aS (x::xs) us):∃u vs,us=u::vs/\bE x u/\aS xs vs:=by
 cases h with
 |cons r q=>show(_,_,rfl,r,q)
def aS.zero(h:aS [] us):us=[]:=by cases h;rfl
def aS.one(h:aS [x] us):∃u,us=[u]/\bE x u:=by let(u,vs,rfl,r,q):=h.consI;rw[aS.zero q];show(u,rfl,r)
theorem aS.dropLast(h:aS xs us):aS xs.dropLast us.dropLast:=by
 induction h with
 |nil=>show .nil
 |cons r t a =>
  cases t with
  |nil=>show .nil
  |cons q t'=>show .cons r a
theorem aS.eraseIdx:∀{xs:OU}{us:ON} (i:Nat),aS xs us->aS (xs.eraseIdx i) (us.eraseIdx i)
 |_,_,_,.nil=>.nil
 |_,_,0,.cons _ t=>t
 |_,_,i+1,.cons r t=>.cons r (aS.eraseIdx i t)
theorem aS.reverse(h:aS xs us):aS xs.reverse us.reverse:=by
 induction h with
 |nil=>show .nil
 |cons r t a=>rw[Lx,Lx];show aS.append a (.cons r .nil)
theorem aS.rep(h:aS xs us):∀k:Nat,aS (KT k xs).flatten (KT k us).flatten
 | 0=>.nil
 |k+1=>by
  rw[Lm,Lm,LM,LM];show aS.append h (aS.rep h k)
def uk{α:Type}(l:List α):l.eraseIdx (-l-1)=l.dropLast:=by
 induction l with
 |nil=>rfl
 |cons a r c =>
  cases r with
  |nil=>rfl
  |cons b r =>
   let e:(a::b::r).length-1=((b::r).length-1)+1:=by let h1:(a::b::r).length=-r+2:=rfl;let h2:(b::r).length=-r+1:=rfl;lia
   rw[e,List.eraseIdx_cons_succ,c]
   all_goals rfl
theorem nH{α:Type}:∀(l:List α) (i:Nat),(l.eraseIdx i).length<=-l
 |[],_=>Kz _
 |_::_,0=>LD _
 |_::r,i+1=>wy (nH r i)
theorem on(its:ON):∀(k:Nat) (a:ON),
  Nj (λx1 x2=>x1++x2) a.toArray (KT k its.toArray)=(a++(KT k its).flatten).toArray
 | 0,a=>!1
 |k + 1,a=>by
  let e:a.toArray++its.toArray=(a++its).toArray:=!1
  let e2:(a++its)++(KT k its).flatten=a++(KT (k+1) its).flatten:=by rw[Lm,LM,KU]
  rw[<-e2,<-on its k (a++its),<-e,Lm,B2]
section
variable{X:Cx}{pins:Oq}{σ:St}{H:Hp}{s:az}{l:ac}{xs ys:OU}
def Inv.lset{its its':ON}(I:Inv X pins σ H s)(a:H l=some (.lst xs))
  (e : s.heap.get? l=some { cls:=.type "list",data:=.seq its.toArray n }) (b:f its.toArray=its'.toArray) (hv:aS ys its') (hz:ys.length<=sizeLine) :
  Inv X pins σ (upd H l (.lst ys)) { s with heap:=s.heap.update l (eb f),toks:=t' }:=by let q:=PySem.IsL.update e f;rw[b]at q;show I.write (x:=l) (e:=l) (by rw[a];show trivial) (.inl rfl) (λg u c d=>(K6 s.heap (eb f) (Ne.symm c)).trans d) (_,q) ?_;show(hz,its',_,hv,q)
def Inv.lnew(I:Inv X pins σ H s)(hv:aS ys its)(hz:ys.length<=sizeLine) :
  Inv X pins σ (upd H s.heap.objs.size (.lst ys)) { s with heap:=s.heap.push { cls:=.type "list",data:=.seq its.toArray },toks:=t' } :=
 I.laid (λY Y q=>Kq _ q) (Kz _) (hz,its,0,hv,KF _ rfl)
theorem Inv.fresh(I:Inv X pins σ H s):H (~~~s)=OW:=I.hok.fresh (Kz _)
def Inv.lstM(I:Inv X pins σ H s)(a:H l=some (.lst xs)):xs.length<=sizeLine/\∃(its:ON) (n:Nat),aS xs its/\xs.length=its.length/\s.heap.get? l=some { cls:=.type "list",data:=.seq its.toArray n }:=by let(z,its,n,r,e):=I.hok l _ a;show(z,its,n,r,-r,e)
def rQ(h:n<=sizeLine):gV n=OY:=by unfold gV;show decide_eq_false (!0)
end
section
def vh:V->OU->Hp->VK->Prop:=λx vs H Q=>∃l xs y,x=.ref l/\vs=[y]/\H l=OV (.lst xs)/\xs.length<sizeLine/\Q .non (upd H l (.lst (xs++[y])))
def jS:MtM X "list.append" vh:=by
 intro pins s σ H x vs v us Q I b rv h
 cbv;let(l,xs,y,rfl,rfl,a,hz,q):=h;cases b;let(u,rfl,c):=rv.one;let(z,its,n,r,d,e):=I.lstM a
 w_up;show Qy F.slot_list_append (_,e,rfl) F.entry_list_append (F.args_list_append_2 _ _) (PySem.list_append l its.toArray n u (by rw[KA];lia)) (e,?_);show(.non,_,I.lset (its':=its++[u]) a e (!1) (r.append (.cons c .nil)) ?_,rfl,q);rw[KD,K5];lia
def Br:V->OU->Hp->VK->Prop:=λx vs H Q=>∃l b xs a,x=.ref l/\vs=[.ref b]/\H l=OV (.lst xs)/\H b=OV (.lst a)/\xs.length+-a<=sizeLine/\Q .non (upd H l (.lst (xs++a)))
def vZ:MtM X "list.extend" Br:=by
 intro pins s σ H x vs v us Q I f rv h
 cbv;let(l,b,xs,m,rfl,rfl,d,hB,hz,q):=h;cases f;let(u,rfl,g):=rv.one;cases g;let(z,its,n,r,o,e):=I.lstM d;let(z2,a,i,j,k,e2):=I.lstM hB
 w_up;let hsz:its.toArray.size+a.toArray.size<=sizeLine:=by rw[KA,KA];lia
 let c:¬(!its.toArray.isEmpty&&gV (its.toArray.size+a.toArray.size))=OX:=by rw[rQ hsz,Bool.and_false];show KH
 show Qy F.slot_list_extend (_,e,rfl) F.entry_list_extend (F.args_list_extend_2 _ _)
  (AutoSeq1.list_extend_list_list_0 l its.toArray n b a.toArray i c (by rw[KA];lia) (!0)) (e,e2,?_)
 show(.non,_,I.lset (its':=its++a) d e (!1) (r.append j) ?_,rfl,q);rw[KD];lia
def JO:V->OU->Hp->VK->Prop:=λx vs H Q=>∃l xs y,x=.ref l/\vs=[]/\H l=OV (.lst xs)/\xs[xs.length-1]?=OV y/\Q y (upd H l (.lst xs.dropLast))
def Aj:MtM X "list.pop" JO:=by
 intro pins s σ H x vs v us Q I d rv h
 cbv;let(l,xs,y,rfl,rfl,c,f,q):=h;cases d;let a:=rv.zero;subst a;let(z,its,n,r,g,e):=I.lstM c;let(u,i,j):=r.get f
 w_up;let b:its.toArray[its.toArray.size-1]?=OV u:=by show its.toArray[its.length-1]?=OV u;rw[<-nl,<-g];show i
 show Qy F.slot_list_pop (_,e,rfl) F.entry_list_pop (F.args_list_pop_1 _) (MeetsSeq.list_pop_last l its.toArray n u b (by rw[KA];lia)) (e,?_);show(y,_,I.lset (its':=its.dropLast) c e ?_ r.dropLast ?_,j,q);show its.toArray.eraseIdxIfInBounds (its.toArray.size-1)=its.dropLast.toArray;rw[KA,t0,uk];rw[List.length_dropLast];lia
def D1:V->OU->Hp->VK->Prop:=λx vs H Q=>∃l xs i k y,x=.ref l/\vs=[.int i]/\H l=OV (.lst xs)/\-(2 ^ 63)<=i/\i<2 ^ 63/\ZK i (-xs)=OV k/\xs[k]?=OV y/\Q y (upd H l (.lst (xs.eraseIdx k)))
def rV:MtM X "list.pop" D1:=by
 intro pins s σ H x vs v us Q I c rv h
 cbv;let(l,xs,i,k,y,rfl,rfl,b,h1,h2,hk,d,q):=h;cases c;let(u,rfl,f):=rv.one;let(t,rfl):=f;let(z,its,n,r,g,e):=I.lstM b;let(w,hw,a):=r.get d
 w_up;show Qy F.slot_list_pop (_,e,rfl) F.entry_list_pop (F.args_list_pop_2 _ _)
  (MeetsSeq.list_pop_at l its.toArray n i t k w (fitsIndex_both h1 h2) (by rw[KA,<-g];show hk) (by rw[<-nl];show hw) (by rw[KA];lia)) (e,?_)
 show(y,_,I.lset (its':=its.eraseIdx k) b e ?_ (r.eraseIdx k) ?_,a,q);show its.toArray.eraseIdxIfInBounds k=(its.eraseIdx k).toArray;rw[t0];let:=nH xs k;lia
def yi:V->OU->Hp->VK->Prop:=λx vs H Q=>∃l xs,x=.ref l/\vs=[]/\H l=OV (.lst xs)/\Q .non (upd H l (.lst xs.reverse))
def ub:MtM X "list.reverse" yi:=by
 intro pins s σ H x vs v us Q I c rv h
 cbv;let(l,xs,rfl,rfl,b,q):=h;cases c;let a:=rv.zero;subst a;let(z,its,n,r,d,e):=I.lstM b
 w_up;show Qy F.slot_list_reverse (_,e,rfl) F.entry_list_reverse (F.args_list_reverse_1 _) (AutoSeq1.list_reverse_list_0 l its.toArray n (by rw[KA];lia)) (e,?_);show(.non,_,I.lset (its':=its.reverse) b e (!1) r.reverse ?_,rfl,q);rw[Ly];lia
def B7{α:Type}(xs:List α)(k:Nat):(KT k xs).flatten.length=k*-xs:=by
 induction k with
 |zero=>simp
 |succ k a=>rw[Lm,LM,KD,a,Nat.succ_mul,Nat.add_comm]
end
end _L
namespace Att
open PySem PySem.W PySem.Calls PyProof.Rows
def jX:∀(ns:OD) (vs:ON),WellAll P h vs (ns.map WData.int)->Yl vs ns:=by
 intro ns
 induction ns with
 |nil =>
  intro vs w;rw[LQ]at w;cases w;show .nil
 |cons n ns c =>
  intro vs w;rw[Kw]at w;cases w with
  |cons a b =>
   cases a;show .cons _ _ (c _ b)
def u8{l:OpenLaw}(hn:l.most=some n){h:bb}
  (b:l.row.toRowW.claim.pre args=true) (f:WellAll P h vals args) :
  ∃a vs ns,vals=[cu a]/\args=[WData.list (ns.map WData.int)]/\h.get? a=some { cls:=.type "list",data:=.seq vs.toArray }/\Yl vs ns/\ns.length<=n:=by
 let g:WShape.hasAll [] args [.list .int]=OX:=(pre_splitW b).1;let hc:l.pre.holds [] { args:=args }=OX:=(pre_splitW b).2
 cbv;let(d,r,rfl,h1,h2):=hasAllW_cons g;obtain rfl:=hasAllW_nil h2;let(xs,rfl,h3):=hasW_list h1;let(ns,rfl):=items_int h3
 w_up;let c:-ns<=n:=by
  unfold OpenLaw.pre at hc;let h4:(WTm.not (.lt (.lit (.int (n:Int))) (.len (.arg 0)))).holds [] { args:=[.list (ns.map .int)] }=OX:=by let h4:=(holds_andW hc).1;rw[hn]at h4;show h4
  let h5:=condW_of h4 (w_not (w_lt w_lit (w_len_list (w_arg rfl))));rw[Ki]at h5;show Nat.le_of_not_lt λq=>?_;let q':(n:Int)<((-ns:Nat):Int):=!0
  first
   |(rw[decide_eq_true q']at h5;show absurd h5 (!2))
   |(simp at h5;lia)
 cases f with
 |cons i j =>
  cases j;cases i with
  |list ho e=>show(_,_,ns,rfl,rfl,ho,jX ns _ e,c)
def vA(l:OpenLaw)(args:List WData):l.row.toRowW.claim.post args (.bool OX) args=OX :=
 postW_of (r:=l.row.toRowW) (X:=(OX==OX))
  (show WShape.has [] (.bool OX) .bool=OX by first|rfl|decide|simp[WShape.has,WShape.arms,WShape.armsAll])
  (show(WTm.eq .res (.lit (.bool OX))).value [] { args:=args,res:=OV (.bool OX),after:=args }=OV (.bool (OX==OX)) from w_eq_bool (w_res rfl) w_lit) rfl
def attach_call{l:OpenLaw}{d:DefRec}
  (hn:l.most=some n) (j:d.params.defaults=[])
  (call:∀(w:q3) (s₀ b:az) (mg mb:bc->OB) (fa:ac) (o:Obj) (pm cd doc:ao) (a:ac) (vs:ON) (ns:OD),
   Ground q c [] s w s₀ mg mb b.heap->t w b.heap ->
   b.heap.get? fa=some o->o.data=.func (docDef d.name d.params d.body d.scope pm cd doc)->b.heap.CodeRec cd d.name->mg d.name=some (.ref fa) ->
   b.heap.get? a=some { cls:=.type "list",data:=.seq vs.toArray }->Yl vs ns->ns.length<=n->b.gens=#[] ->
   Qx (kq l.prog w) ZF (.call (.ref fa) ([.ref a],[])) (λr s'=>r=.ok (.ret (.bool true))/\OldK b.heap s'.heap/\s'.os=b.os/\Zg s'.gens) b) :
  WalkO q c s t l.row.toRowW d [] (λf vs=>I1 f vs):=by
 intro w s₀ b mg mb G Y fa o pm cd doc v kV ho hd k hD m hg args vals as g u x p y
 cbv;obtain rfl:v=.none:=Dflts.none hD j;obtain rfl:kV=.none:=Dflts.noKw hD;let(a,vs,ns,rfl,rfl,h,e,i):=u8 hn g p
 w_up;show enter_call (ZE (call w s₀ b mg mb fa o pm cd doc a vs ns G Y ho (fd_plain hd) k m h e i hg) λr s' z=>?_);let(rfl,h2,h3,h4):=z;show(.inl (.bool OX,.bool OX,[],rfl,λZ=>rfl,.bool OX,vA l _,λZ=>(MD,λZ A=>(nomatch A))),h2,h3,h4)
end Att
namespace _L
open PySem PySem.Spec PyProof.Rows
def mM{vs:ON}{ns:OD}(h:Yl vs ns):aS (ns.map V.int) vs:=by
 induction h with
 |nil=>show .nil
 |cons n t _ i=>show .cons (t,rfl) i
def Ib(H:Hp):Prop:=∀b,H b=OW\/(∃o xs,H b=OV (.frz o (.lst xs)))\/∃q,H b=OV (.tbl q)
def yN{K:bg}{f:az}{vs:ON}{ns:OD}{tb:List (ac×bc)}
  (hT:∀b q,tb.lookup b=some q->f.heap.get? b=some { cls:=.none,data:=.fields #[] }/\K.lookup b=none/\∃c,f.heap.TableAt c b #[]) (M:∀T q,kh K T q->tb.lookup T=some q)
  (Y:K.In f.heap) (C:f.heap.Ns k0 mg) (i:f.heap.Ns QC mb) (N:∀x:bc,x ≠ "__name__" -> mb x=Qz x) (D:f.heap.NoLimit) (O:∃bm ob,mg "__builtins__" = some (.ref bm)/\bm≠QC/\f.heap.get? bm=some ob/\ob.cls=.type "module" /\ ob.dict=some QC/\ob.data=.plain) (hg:f.gens=#[])
  (A:f.heap.get? a=some { cls:=.type "list",data:=.seq vs.toArray }) (hi:Yl vs ns) (Z:ns.length<=sizeLine) (hr:fb k ZF)
  (F : ∀base:bb,K.In base->base.Ns k0 mg->cg P w K mg base CX k fa fd [x] sp) (B:∀(s:az) (u:ao),Zv s fd ([u],[]) [(x,u)])
  (Q:∀H:Hp,Ib H->SqL K H a (ns.map V.int)->sp [.ref a] H (λv W=>v=.bl true) λW W W=>False)
  (R:∀H e s',CX [] H f (λW W W=>False) e s'->False) :
  Qx (kq P w) ZF (.call (.ref fa) ([.ref a],[])) (λr s'=>r=.ok (.ret (.bool true))/\OldK f.heap s'.heap/\s'.os=f.os/\Zg s'.gens) f:=by
 let rv:=mM hi;let E:=-hi;let t:∀H:Hp,Ib H->SqL K H a (ns.map V.int)->HOk P w H f.heap->(∀b u,H b=OV u->(b=a/\K.lookup a=OW)\/∃q,tb.lookup b=OV q/\u=.tbl q)->(∀b q,tb.lookup b=OV q->H b=OV (.tbl q)) ->
   Qx (kq P w) ZF (.call (.ref fa) ([.ref a],[])) (λr s'=>r=.ok (.ret (.bool OX))/\OldK f.heap s'.heap/\s'.os=f.os/\Zg s'.gens) f:=by
  intro H hO hS hok hA hB;let g:∀{b:ac}{o:Obj},f.heap.get? b=OV o->H b=OW->(xI f.heap H).get? b=OV o:=λe n=>y6 e n;let S:∀{b:ac}{o:Obj}{es:Array Q1}{ep:Nat},f.heap.get? b=OV o->o.data=.dict es ep->H b=OW:=λ{b o es ep} e d=>by
   cases q:H b with
   |none=>rfl
   |some u =>
    rcases hA b u q with⟨j,_⟩|⟨q',j,_⟩
    .cbv;subst j;rw[A]at e;cases e
     w_up;let d':Data.seq vs.toArray _=Data.dict es ep:=d;cases d'
    rw[(hT b q' j).1]at e;cases e;let d':Data.fields _=Data.dict es ep:=d;cases d'
  let l:∀{b:ac}{m:bc->OB},f.heap.Ns b m->(xI f.heap H).Ns b m:=λ{b m} hz=>by let(o,es,ep,e,d,r):=hz;show(o,es,ep,g e (S e d),d,r)
  let G:K.In (xI f.heap H):=λb o e=>g (Y b o e) (by
   cases q:H b with
   |none=>rfl
   |some u =>
    rcases hA b u q with⟨j,hk⟩|⟨q',j,_⟩
    subst j;rw[hk]at e;cases e;rw[(hT b q' j).2.1]at e;cases e)
  let I:∃bm ob,mg "__builtins__" = OV (.ref bm)/\bm≠QC/\(xI f.heap H).get? bm=OV ob/\ob.cls=.type "module" /\ ob.dict=OV QC/\ob.data=.plain:=by
   let(bm,ob,b1,b2,J,b4,b5,U):=O;show(bm,ob,b1,b2,g J ?_,b4,b5,U);cases q:H bm with
   |none=>rfl
   |some u =>
    rcases hA bm u q with⟨j,_⟩|⟨q',j,_⟩
    subst j;rw[A]at J;cases J;cases U;rw[(hT bm q' j).1]at J;cases J;cases U
  let hM:Mod K mg (xI f.heap H):=(G,l C,(mb,l i,N),let ⟨mc,h1,h2⟩:=D;(mc,l h1,h2),I)
  let L:xM P w K mg (xI f.heap H) ZF [] f H:=(rfl,hM,λb o e=>B3 e,MZ (wA _ _),trivial,λb i=>absurd (show b∈([]:OO) from i) (!1),hok,.of_eq hg,λT q h=>hB T q (M T q h))
  show ZE ((F _ G (l C)).run ZF [] f H ([.ref a],[]) [.ref a] [.ref a] _ _ hr L (B f (.ref a)) (.cons rfl .nil) (Q H hO hS)) λr s' h=>?_;cases r with
  |error e=>show(R H e s' h).elim
  |ok fl =>
   cases fl with
   |next=>show False.elim h
   |brk=>show False.elim h
   |cont=>show False.elim h
   |ret u =>
    cbv;let(v,H',os,bare,un,y,r',q):=h;let q':v=.bl OX:=q;subst q';obtain rfl:u=hU OX:=r'
    w_up;show(rfl,(λb o e=>?_,λb o e=>un.there b o e (!1)),os,bare);cases q:H b with
    |none=>show .inl (un.keep b o e q (by intro z;show absurd (show b∈([]:OO) from z) (!1)) (!1))
    |some u =>
     rcases hO b with z|⟨ob,xs,z⟩|⟨q',z⟩
     rw[q]at z;cases z
     .let z2:=un.frzs b ob _ z
      cbv;let(e1,_):=hok b _ z;let(e2,_):=y b _ z2;rw[e]at e1;cases e1
      w_up;show .inl e2
     .let(ps,e2,_):=y b _ (un.tbls b q' z);rcases hA b _ z with⟨j,_⟩|⟨q2,j,_⟩
      let(a3,L,_):=hok b _ z;subst j;rw[A]at L;cases L
      .cbv;let(t1,_,c,t2):=hT b q2 j;rw[e]at t1;cases t1
       w_up;show .inr (.inl (t2.isCodeTable,rfl,#[],ps,rfl,by simpa using e2))
 cases hk:K.lookup a with
 |some o =>
  let e:=Y a o hk;rw[A]at e;cases e;show t (λb=>(tb.lookup b).map .tbl) (λb=>?_) (.inr (_,vs.toArray,_,hk,rfl,rfl,rfl,by rw[KA,E];show Z,by simpa using rv)) (λb u z=>?_) (λb u z=>?_) λb q z=>by show(tb.lookup b).map HO.tbl=_;rw[z];rfl
  cases z:tb.lookup b with
  |none=>show .inl (by show(tb.lookup b).map HO.tbl=_;rw[z];rfl)
  |some q=>show .inr (.inr (q,by show(tb.lookup b).map HO.tbl=_;rw[z];rfl))
  let z:(tb.lookup b).map HO.tbl=OV u:=z;cases q:tb.lookup b with
  |none=>rw[q]at z;cases z
  |some q' =>
   rw[q]at z;cases z;show(#[],(hT b q' q).1,trivial,λpos cv h=>by cases (show(OW:OB)=OV cv from h))
  let z:(tb.lookup b).map HO.tbl=OV u:=z;cases q:tb.lookup b with
  |none=>rw[q]at z;cases z
  |some q'=>rw[q]at z;cases z;show .inr (q',rfl,rfl)
 |none =>
  let X:tb.lookup a=OW:=by
   cases z:tb.lookup a with
   |none=>rfl
   |some q =>
    let e:=(hT a q z).1;rw[A]at e;cases e
  let p:∀b,b≠a->(if b=a then OV (HO.frz { cls:=.type "list",data:=.seq vs.toArray } (.lst (ns.map V.int))) else (tb.lookup b).map .tbl)=(tb.lookup b).map .tbl:=λb i=>N7 i;show t (λb=>if b=a then OV (.frz { cls:=.type "list",data:=.seq vs.toArray } (.lst (ns.map V.int))) else (tb.lookup b).map .tbl) (λb=>?_) (.inl (.inr ({ cls:=.type "list",data:=.seq vs.toArray },N6 rfl))) (λb u z=>?_) (λb u z=>?_) λb q z=>?_;by_cases i:b=a;show .inr (.inl (_,_,N6 i));dsimp only;rw[p b i];cases z:tb.lookup b with
  |none=>show .inl rfl
  |some q=>show .inr (.inr (q,rfl))
  .by_cases i:b=a
   .let z':=(N6 i).symm.trans z
    cbv;cases z';subst i
    w_up;show(A,by rw[Ki];show Z,vs,_,rv,A)
   let z:(tb.lookup b).map HO.tbl=OV u:=(p b i).symm.trans z;cases q:tb.lookup b with
   |none=>rw[q]at z;cases z
   |some q' =>
    rw[q]at z;cases z;show(#[],(hT b q' q).1,trivial,λpos cv h=>by cases (show(OW:OB)=OV cv from h))
  by_cases i:b=a;show .inl (i,hk);let z:(tb.lookup b).map HO.tbl=OV u:=(p b i).symm.trans z;cases q:tb.lookup b with
  |none=>rw[q]at z;cases z
  |some q'=>rw[q]at z;cases z;show .inr (q',rfl,rfl)
  let i:b≠a:=λe=>by subst e;rw[X]at z;cases z
  show(p b i).trans (by rw[z];rfl)
def A1{l:o0}{n k:Nat}{q:k5}{i:OP}{E:(bc->OB)->bb->Prop}{I:q3->bb->Prop}{d:DefRec}{K:Params->bg}{CX:q3->CXT}{sp:q3->Sp}{x:bc}
  (hn:l.most=some n) (hn2:n<=sizeLine) (t:d.params.defaults=[]) (J:fb k ZF)
  (y:∀(w:q3) (s₀:az) (mg mb:bc->OB) (h:bb),wr q i [] E w s₀ mg mb h->(K w.params).In h->∃tb:List (ac×bc),(∀b q,tb.lookup b=some q->h.get? b=some { cls:=.none,data:=.fields #[] }/\(K w.params).lookup b=none/\∃c,h.TableAt c b #[])/\∀T q,kh (K w.params) T q->tb.lookup T=some q)
  (hY:∀(w:q3) (h:bb),I w h->(K w.params).In h)
  (F : ∀(w:q3) (mg:bc->OB) (fa:ac) (h:bb),(K w.params).In h->h.Ns k0 mg->mg d.name=some (.ref fa) ->
   ∃fd:k3,(∀(s:az) (u:ao),Zv s fd ([u],[]) [(x,u)]) /\
    ∀base:bb,(K w.params).In base->base.Ns k0 mg->cg l.prog w (K w.params) mg base (CX w) k fa fd [x] (sp w))
  (z:∀(w:q3) (H:Hp) (a:ac) (ns:OD),ns.length<=n->Ib H->SqL (K w.params) H a (ns.map V.int)->sp w [.ref a] H (λv Z=>v=.bl true) λZ Z Z=>False)
  (A:∀(w:q3) (H:Hp) (s:az) (e:ao) (s':az),CX w [] H s (λZ Z Z=>False) e s'->False) :
  Nt q i E I l.row.toRowW d [] (λf vs=>I1 f vs):=by show Att.attach_call hn t λw s₀ p mg mb fa o pm cd doc a vs ns G Y ho hd L B r m j hg=>?_;let C:=hY w _ Y;let(fd,M,hF):=F w mg fa _ C G.T.g B;let(tb,hT,D):=y w s₀ mg mb _ G C;show yN hT D C G.T.g G.T.b G.T.builtins G.T.nolimit G.T.bmain hg r m (Kr j hn2) J hF M (λH hO N=>z w H a ns j hO N) λH e s'=>A w H p e s'
def eY(s:Stmt):Zw:=match s with
 |.FunctionDef _ a _ _ _ _ _ _ _ _=>a
 |_=>{ posonlyargs:=[],args:=[],vararg:=OW,kwonlyargs:=[],kw_defaults:=[],kwarg:=OW,defaults:=[] }
def cI(s:Stmt):List Stmt:=match s with
 |.FunctionDef _ _ b _ _ _ _ _ _ _=>b
 |_=>[]
def ae(s:Stmt):Qq:=match s with
 |.FunctionDef _ _ _ _ _ _ sc _ _ _=>sc
 |_=>{ kind:=.function,names:=[],isGenerator:=OY,isCoroutine:=OY }
abbrev CX0:CXT:=λY Y Y Y Y Y=>False
abbrev E0:XK:=λY Y Y=>False
def G6:xz CX0 X E0:=λY Y Y Y Y Y Y h=>h.elim
structure Fun(K:bg)(x qual:bc)(st:Stmt)(f:ac)(fd:k3):Prop where
 ex : ∃(oc:ao) (od:OC) (kV doc pm:ao) (an:OC) (cdv ct:ao) (osl:Oh),
  fd = gi x qual (eY st) (cI st) (ae st) .none kV doc pm an cdv ct/\K.lookup f=some (oc,od,.func fd,osl)/\mA K cdv qual=true
 kp : mu K (.ref f)=true
section
variable{P:k5}{w:q3}{K:bg}{mg:bc->OB}{base:bb}
def Fun.ok{x qual:bc}{st:Stmt}{f:ac}{fd:k3}{N ps:OP}{k:Nat}{sp:Sp}(F:Fun K x qual st f fd)(S:aA N ps (ae st))(len:∀vs H Q E,sp vs H Q E->vs.length=ps.length)
  (a:∀(cdv:ao) (A:Around) (outer:OI) (s:az) (H:Hp) (vs:OU) (Q:VK) (E:XK),fb k (A.deeper (Q8 qual (ae st) s.heap.objs.size f cdv))->sp vs H Q E ->
   ∃t,PSs (ux CX0 P w K mg base N qual (ae st) f cdv A outer s H E).nox (cI st) t/\t { nx:=λY H'=>Q .non H',rt:=Q } (start N vs) H):cg P w K mg base CX0 (k+1) f fd ps sp:=by let(oc,od,kV,doc,pm,an,cdv,ct,osl,rfl,d,b):=F.ex;show Fm d b S len λA outer s H vs Q E e c=>?_;let(t,h,q):=a cdv A outer s H vs Q E e c;show(t,h.nox,q)
def Fun.binds{x qual:bc}{st:Stmt}{f:ac}{fd:k3}{ps:OP}(F:Fun K x qual st f fd)
  (h : ∀(kV doc pm:ao) (an:OC) (cdv ct:ao) (us:ON),-us=-ps->QP (gi x qual (eY st) (cI st) (ae st) .none kV doc pm an cdv ct) (us,[])=pure (ps.zip us)):gY K fd ps []:=by let(oc,od,kV,doc,pm,an,cdv,ct,osl,rfl,b,a):=F.ex;show .all (h kV doc pm an cdv ct)
def As{x qual:bc}{st:Stmt}{f:ac}{oc:ao}{od an:OC}{osl:Oh}{kV doc pm cdv ct:ao}(l:K.lookup f=OV (oc,od,.func (gi x qual (eY st) (cI st) (ae st) .none kV doc pm an cdv ct),osl))
  (c : mA K cdv qual=OX) (k:mu K (.ref f)=OX):Fun K x qual st f (gi x qual (eY st) (cI st) (ae st) .none kV doc pm an cdv ct):=((oc,od,kV,doc,pm,an,cdv,ct,osl,rfl,l,c),k)
end
section
variable{X:Cx}
def pv(i:Nat){x:bc}{pos:Pos}(hN:X.N[i]?=some x:=by rfl)(hv:Vis X.env.scope x:=by walk_at"v0")(hd:(x==("__debug__" : bc))=false:=by decide)
  (a:(x==("__classdict__" : bc))=false:=by decide):PE X (.Name x pos) (uu i):=bJ hN hv hd a
end
def cC{c A B:Prop} [Decidable c](h1:c->A)(h2:¬c->B):if c then A else B:=by by_cases h:c;rw[N6 h];show h1 h;rw[N7 h];show h2 h
def bh(H H':Hp):Prop:=∀b o,H b=OV o->H' b=OV o
def bh.refl(H:Hp):bh H H:=λY Y h=>h
def bh.trans(a:bh H H1)(b:bh H1 H2):bh H H2:=λc o h=>b c o (a c o h)
def bh.seq{K:bg}{H H':Hp}{a:ac}{xs:OU}(e:bh H H')(h:SqL K H a xs):SqL K H' a xs:=by rcases h with (h|⟨o,h⟩)|h;show .inl (.inl (e _ _ h));show .inl (.inr (o,e _ _ h));show .inr h
end _L
set_option maxHeartbeats 4000000
namespace _L
open PySem PySem.Spec PyProof.Rows
noncomputable def cU(env:Env):Ob->Ov->Ov
 |[],a=>a
 |(n,k)::r,a=>if (k==.free)=OX then cU env r ((n,(env.cells.lookup n).getD 0)::a) else cU env r a
theorem iC(f:bc×NameKind->Ov->Sem (ForInStep Ov))
  (b:∀name kind cs,f (name,kind) cs=if (kind==.free)=OX then (do let c <-cellOf env name;pure (.yield ((name,c)::cs))) else pure (.yield cs)) :
  ∀(names:Ob) (a:Ov),(∀y∈names,y.2=.free->(env.cells.lookup y.1).isSome=OX)->forIn names a f=(pure (cU env names a):Sem _)
 |[],a,_=>by rw[L4];rfl
 |(n,k)::r,a,h=>by
  rw[Mb,b];unfold cU;by_cases hk:(k==dV)=OX;rw[N6 hk,N6 hk];let(c,hc):=Ln.mp (h (n,k) Ks (by simpa using hk));let e:cellOf env n=pure c:=by unfold cellOf;rw[hc]
  rw[e,hc];simp only[pure_bind];show iC f b r _ λy d=>h y (Kv _ d);rw[N7 hk,N7 hk];simp only[pure_bind];show iC f b r _ λy d=>h y (Kv _ d)
def mr(h:∀y∈scope.names,y.2=.free->(env.cells.lookup y.1).isSome=OX):QV scope env=pure (cU env scope.names []):=by simp only[QV];rw[iC (env:=env) _ (λname kind cs=>by cases hk:kind==dV <;> simp[hk]) scope.names [] h];rfl
theorem cZ(env:Env)(x:bc):∀(names:Ob) (a:Ov),(cU env names a).lookup x=if (x,dV)∈names then OV ((env.cells.lookup x).getD 0) else a.lookup x
 |[],a=>by simp[cU]
 |(n, k)::r,a=>by
  unfold cU;by_cases hk:(k==dV)=OX;let c:k=dV:=by simpa using hk
  subst c;rw[N6 hk,cZ env x r];by_cases b:(x,dV)∈r;rw[N6 b,N6 (Kv _ b)];rw[N7 b,Lf];by_cases hx:x=n;subst hx;simp;let e1:(x==n)=OY:=beq_eq_false_iff_ne.mpr hx;rw[e1];let e2:¬(x,dV)∈(n,dV)::r:=by intro z;rcases Kt.mp z with z|z;show hx (lx z).1;show b z
  rw[N7 e2];rw[N7 hk,cZ env x r];let e2:(x,dV)∈(n,k)::r↔(x,dV)∈r:=by constructor;intro z;rcases Kt.mp z with z|z;show absurd (by rw[(lx z).2.symm];rfl) hk;show z;show Kv _
  by_cases b:(x,dV)∈r;rw[N6 b,N6 (e2.mpr b)];rw[N7 b,N7 (λz=>b (e2.mp z))]
theorem bP:∀(names:Ob) (n:Nat) (a:Ov),Qc n names a=Qc n names []++a
 |[],n,a=>by simp[Qc]
 |(x,k)::r,n,a=>by
  unfold Qc;split;rw[bP r (n+1) ((x,n)::a),bP r (n+1) [(x,n)]];simp;show bP r n a
theorem cx:∀(names:Ob) (n:Nat) (x:bc) (c:ac),(Pm x c)∈Qc n names []->(Pm x gw)∈names/\n<=c
 |[],n,x,c,h=>by simp[Qc]at h
 |(Pm y k)::r,n,x,c,h=>by
  unfold Qc at h;split at h
  .rename_i hk;rw[bP]at h;rcases Km.mp h with h|h;let q:=cx r (n+1) x c h;show⟨Kv _ q.1,!0⟩
   .let e:(Pm x c)=(Pm y n):=by simpa using h
    cbv;cases e;let a:k=gw:=by simpa using hk
    subst a
    w_up;show⟨Ks,Kz _⟩
  let q:=cx r n x c h;show⟨Kv _ q.1,q.2⟩
def aX{α:Type}{l:List (bc×α)}{x:bc}{k:α}(nd:(l.map (·.1)).Nodup)(h:(x,k)∈l):l.lookup x=OV k:=by
 induction l with
 |nil=>cases h
 |cons y r z =>
  rw[Lf];rcases Kt.mp h with e|h;rw[<-e];simp;let a:=KY.mp nd;let this:x≠y.1:=λz=>a.1 (by
   show y.1∈_;rw[<-z];show Ko.mpr ((x,k),h,rfl))
  rw[beq_eq_false_iff_ne.mpr this];show z a.2 h
def pX
  (h : Q (newEnv scope s.heap.objs.size globals (Qc (s.heap.objs.size+1) scope.names cl) qual none .none (some env) QC) { s with heap:=Za (s.heap.push { cls:=.type "dict",data:=.dict #[] }) scope.names }) :
  j4 M A (Z0 scope globals cl [] qual none .none (some env)) Q E s:=by simp only[Z0,Option.isSome_some,if_true];show jj (wpAny_alloc ?_);show jj (wpAny_layCells _ (λname kind cells=>by cases hkc:kind==gw <;> simp[hkc]) _ _ _ _ ?_);rw[show({ s with heap:=s.heap.push { cls:=.type "dict",data:=.dict #[] } }:az).heap.objs.size=(~~~s)+1 from LK ..];rw[L4];show jj (js (js h))
structure dB(N:OP)(env:Env)(N':OP)(ix:Og)(sc:Qq):Prop where
 kind:sc.kind=.function
 ndn:(sc.names.map (·.1)).Nodup
 free:∀y∈sc.names,y.2=.free->env.kindOf y.1=some .cell\/env.kindOf y.1=some .free
 len:ix.length=N'.length
 cap:∀(i j:Nat),ix[i]?=some (some j)->∃x,N'[i]?=some x/\N[j]?=some x/\sc.names.lookup x=some .free
theorem dB.names(S:dB N env N' ix sc):∀y∈sc.names,y.2=.local->sc.names.lookup y.1=OV .local:=λy a e=>by
 cbv;let(x,k):=y;cases e
 w_up;show aX S.ndn a
noncomputable def fh(σ:St)(ix:Og):St:=ix.map λo=>o.bind λj=>(σ[j]?).join
def uy(sc:Qq)(C:ac)(env:Env):Env:=compEnvC sc (Qc (C+1) sc.names (cU env sc.names [])) C env
def bCx(X:Cx)(N':OP)(sc:Qq)(s:az)(H:Hp)(C:ac)(fp:OO):Cx where
 prog:=X.prog
 w := X.w
 K := X.K
 mg := X.mg
 base:=X.base
 A := X.A
 N := N'
 s₀ := s
 H₀ := H
 env:=uy sc C X.env
 outer:=X.stack
 stack:=X.stack
 ex := fp
 fn := λx=>decide (sc.names.lookup x=OV .cell)
 calm:=X.calm
 pn := []
 xe := λY Y=>False
theorem f8{env:Env}:∀{names:Ob}{x:bc}{k:NameKind},names.lookup x=OV k ->
  (names.map λ(n,k)=>if (k==dV&&env.scope.kind==.function&&env.kindOf n==OV .cell) then (n,gw) else (n,k)).lookup x=OV (if (k==dV&&env.scope.kind==.function&&env.kindOf x==OV .cell)=OX then .cell else k)
 |[],_,_,h=>by simp at h
 |(n,j)::r,x,k,h=>by
  let a:=@f8 env r x k;show xb x ((if (j==dV&&env.scope.kind==.function&&env.kindOf n==OV .cell)=OX then (n,gw) else (n,j))::_)=_;cases hx:x==n with
  |true =>
   let e:x=n:=by simpa using hx
   subst e;simp only[Lf,hx]at h;let b:j=k:=di h;subst b;by_cases hc:(j==dV&&env.scope.kind==.function&&env.kindOf x==OV .cell)=OX;rw[N6 hc,N6 hc];simp[Lf];rw[N7 hc,N7 hc];simp[Lf]
  |false =>
   simp only[Lf,hx]at h;by_cases hc:(j==dV&&env.scope.kind==.function&&env.kindOf n==OV .cell)=OX;rw[N6 hc];simp only[Lf,hx];show a h;rw[N7 hc];simp only[Lf,hx];show a h
theorem dj{env:Env}:∀{names:Ob}{x:bc},names.lookup x=OW ->
  (names.map λ(n,k)=>if (k==dV&&env.scope.kind==.function&&env.kindOf n==OV .cell) then (n,gw) else (n,k)).lookup x=OW
 |[],_,_=>rfl
 |(n,j)::r,x,h=>by
  let a:=@dj env r x;show xb x ((if (j==dV&&env.scope.kind==.function&&env.kindOf n==OV .cell)=OX then (n,gw) else (n,j))::_)=_;cases hx:x==n with
  |true=>simp only[Lf,hx]at h;cases h
  |false =>
   simp only[Lf,hx]at h;by_cases hc:(j==dV&&env.scope.kind==.function&&env.kindOf n==OV .cell)=OX;rw[N6 hc];simp only[Lf,hx];show a h;rw[N7 hc];simp only[Lf,hx];show a h
def fJ(h:sc.names.lookup x=OV k):(uy sc C env).kindOf x=OV (if (k==dV&&env.scope.kind==.function&&env.kindOf x==OV .cell)=OX then .cell else k):=f8 h
def xm(h:sc.names.lookup x=OW):(uy sc C env).kindOf x=OW:=dj h
section
variable{X:Cx}{N':OP}{ix:Og}{sc:Qq}
def kc(S:dB X.N X.env N' ix sc)(h:(uy sc C X.env).cells.lookup x=OV c) :
  (sc.names.lookup x=OV .cell/\C+1<=c/\(x,c)∈Qc (C+1) sc.names [])\/(sc.names.lookup x=OV .free/\c=(X.env.cells.lookup x).getD 0):=by
 let e:(uy sc C X.env).cells=Qc (C+1) sc.names []++cU X.env sc.names []:=bP _ _ _;rw[e]at h;rcases Km.mp (mem_of_lookup h) with q|q;let(a,b):=cx _ _ _ _ q;show .inl (aX S.ndn a,b,q);let fr:(x,dV)∈sc.names:=by
  let z:∀(names:Ob) (f:Ov),(x,c)∈cU X.env names f->(x,c)∈f\/(x,dV)∈names:=by
   intro names
   induction names with
   |nil=>intro f h;show .inl h
   |cons y r g =>
    let(n,k):=y;intro f h;unfold cU at h;split at h;rename_i hk;let j:k=dV:=by simpa using hk
    subst j;rcases g _ h with h|h;rcases Kt.mp h with h|h;cases h;show .inr Ks;show .inl h;show .inr (Kv _ h);rcases g _ h with h|h;show .inl h;show .inr (Kv _ h)
  rcases z _ _ q with q|q;simp at q;show q
 let i:=aX S.ndn fr;let hn:(Qc (C+1) sc.names []).lookup x=OW:=by
  cases z:(Qc (C+1) sc.names []).lookup x with
  |none=>rfl
  |some d =>
   let q':=cx _ _ _ _ (mem_of_lookup z);let:=aX S.ndn q'.1;rw[i]at this;cases this
 rw[so,hn,cZ,N6 fr]at h;show .inr (i,(di (by simpa using h)).symm)
def gy(S:dB X.N X.env N' ix sc)(h:sc.names.lookup x=OV .free):(uy sc C X.env).cells.lookup x=OV ((X.env.cells.lookup x).getD 0):=by
 let e:(uy sc C X.env).cells=Qc (C+1) sc.names []++cU X.env sc.names []:=bP _ _ _;let hn:(Qc (C+1) sc.names []).lookup x=OW:=by
  cases z:(Qc (C+1) sc.names []).lookup x with
  |none=>rfl
  |some d =>
   let q':=cx _ _ _ _ (mem_of_lookup z);let:=aX S.ndn q'.1;rw[h]at this;cases this
 rw[e,so,hn,cZ,N6 (mem_of_lookup h)];rfl
def um(h:sc.names.lookup x=OV .cell):∃c,(uy sc C env).cells.lookup x=OV c:=by let e:(uy sc C env).cells=Qc (C+1) sc.names []++cU env sc.names []:=bP _ _ _;let(c,hc):=mw (n:=C+1) h;show(c,by rw[e,so,hc];rfl)
def qD{pins:Oq}{σ:St}{H:Hp}{s:az}{fp:OO}(S:dB X.N X.env N' ix sc)(I:Inv X pins σ H s)(A:∀b∈fp,kj X pins H b)(t:∀b∈fp,b<s.heap.objs.size) :
  Inv (bCx X N' sc s H (s.heap.objs.size+1) fp) [] (fh σ ix) H
   { s with heap:=Za ((s.heap.push { cls:=.type "list",data:=.seq #[] }).push { cls:=.type "dict",data:=.dict #[] }) sc.names }:=by
 let g:(s.heap.push { cls:=.type "list",data:=.seq #[] }).objs.size=(~~~s)+1:=LK ..;let keep:∀b o,s.heap.get? b=OV o->(Za ((s.heap.push { cls:=.type "list",data:=.seq #[] }).push { cls:=.type "dict",data:=.dict #[] }) sc.names).get? b=OV o:=λb o e =>
  Zi _ _ b o (Kq _ (Kq _ e))
 let ok:=cellsFrom_ok sc.names ((s.heap.push { cls:=.type "list",data:=.seq #[] }).push { cls:=.type "dict",data:=.dict #[] }) ((~~~s)+2) [] (λY Y O=>(nomatch O),MD) (by rw[LK,g];show Kz _);rw[LK,g]at ok;let a:∀x c,sc.names.lookup x=OV .free->c=(X.env.cells.lookup x).getD 0->X.env.cells.lookup x=OV c:=λx c h1 h2=>by
  let(d,hd):=I.ok.has x (S.free (x,.free) (mem_of_lookup h1) rfl);rw[hd]at h2 ⊢;rw[h2];rfl
 let f:∀x c,X.env.cells.lookup x=OV c->c<(~~~s):=λx c e=>by
  let(v,q):=I.cell x c e;show q.lt
 show((I.ok.mod,S.kind,I.ok.glob,I.ok.blt,LD _,λx y c h1 h2=>?_,λx hx=>?_,λx c hx h=>?_,I.ok.hd,I.ok.frames,.inl rfl,λb l=>(?_,λx c h=>?_),I.bs,Kr I.ok.bsz I.sz,λb o e l=>?_,λb l=>?_,I.stack,I.stkFree,λT q h=>I.base.tbls T q (I.ok.tab T q h)),
  rfl,I.bare,Un.kept keep,(λY=>OW,?_,λi x v e1 e2 e3=>?_),λx c h=>?_,I.hok.fresh (LD _),λx c h=>?_,λp P=>absurd (show p∈([]:Oq) from P) (!1),I.hok.kept keep,?_)
 rcases kc S h1 with⟨a1,b1,q1⟩|⟨a1,b1⟩ <;> rcases kc S h2 with⟨a2,w,q2⟩|⟨a2,w⟩
 show name_of_addr ok.apart q1 q2;show absurd (f y c (a y c a2 w)) (Nat.not_lt.mpr (Kr (Ml _ 2) b1));show absurd (f x c (a x c a1 b1)) (Nat.not_lt.mpr (Kr (Ml _ 2) w));show I.ok.inj x y c (a x c a1 b1) (a y c a2 w);cases q:sc.names.lookup x with
 |none =>
  let z:=xm (C:=(~~~s)+1) (env:=X.env) q;rcases hx with hx|hx;show absurd (hx.symm.trans z) (!1);show absurd (hx.symm.trans z) (!1)
 |some k =>
  let z:=fJ (C:=(~~~s)+1) (env:=X.env) q;cases k with
  |free=>show(_,gy S q)
  |cell=>show um q
  |_ =>
   rcases hx with hx|hx;let:=hx.symm.trans z;simp at this;let:=hx.symm.trans z;simp at this
 let B:sc.names.lookup x=OV .cell:=of_decide_eq_true hx;rcases kc S h with⟨_,b1,_⟩|⟨a1,_⟩
 show Kr (by lia:(~~~s)<=(~~~s)+1+1) b1;rw[B]at a1;cases a1;show KO (Mh (t b l));let(L,D,E,n,F,M):=A b l;rcases kc S h with⟨_,b1,_⟩|⟨a1,b1⟩
 show Lh (Ku (t b l) (Kr (Ml _ 2) b1));show F x c (a x c a1 b1);let(L,D,E,n,F,M):=A b l;rcases n with n|n;show I.ok.noex b o e n;show absurd (Ku (KB e) (Kr I.ok.bsz n)) (LF _);let(L,D,E,n,F,M):=A b l;intro z;rcases Kt.mp (I.stkSub b z) with z|z;show D z;show E z;let q:=(Heap.Ns.new (s.heap.push { cls:=.type "list",data:=.seq #[] }) (.type "dict")).keeps (Zi sc.names _);rw[g]at q;show q
 .let hi:i< -ix:=by
   let z:=(Kx.mp e2).1;simpa[fh] using z
  let G:(fh σ ix)[i]?=(ix[i]?).map λo=>o.bind λj=>(σ[j]?).join:=KM ..;rw[G,Kk hi]at e2;let e2:(ix[i]).bind (λj=>(σ[j]?).join)=OV v:=di e2;cases q:ix[i] with
  |none=>rw[q]at e2;cases e2
  |some j =>
   rw[q]at e2;let e2:(σ[j]?).join=OV v:=e2;let e2:σ[j]?=OV (OV v):=by
    cases z:σ[j]? with
    |none=>rw[z]at e2;cases e2
    |some w'=>rw[z]at e2;let e2:w'=OV v:=e2;rw[e2]
   cbv;let(y,c1,c2,J):=S.cap i j (by rw[Kk hi,q]);let K:x=y:=di (e1.symm.trans c1);subst K;let kd:=S.free (x,.free) (mem_of_lookup J) rfl;let(m,hn,Q):=I.loc;let(u,R,U):=Q j x v c2 e2 (by rcases kd with k|k;show .inr (.inl k);show .inr (.inr k))
   w_up;show(u,R,.inr (?_,?_));rw[show(bCx X N' sc s H ((~~~s)+1) fp).env.kindOf x=_ from fJ (C:=(~~~s)+1) (env:=X.env) J];split;show .inl rfl;show .inr rfl;rcases U with⟨k,_⟩|⟨_,c,hc,r⟩
   rcases kd with k'|k' <;> rw[k]at k' <;> cases k'
   show(c,?_,r.keeps keep);let:=gy S (C:=(~~~s)+1) J;rw[hc]at this;show this
 rcases kc S h with⟨_,b1,q⟩|⟨a1,b1⟩
 show(OW,(ok.empty x c q).1);let(v,q):=I.cell x c (a x c a1 b1);show(v,q.keeps keep);rcases kc S h with⟨_,b1,q⟩|⟨a1,b1⟩
 show I.hok.fresh (Kr (Ml _ 2) b1);show I.freeC x c (a x c a1 b1);show(fh σ ix).length=-N';simp[fh,S.len]
def ka{pins pins':Oq}{σ d:St}{H H':Hp}{s s':az}{fp:OO}{C:ac}(S:dB X.N X.env N' ix sc)(I:Inv X pins σ H s)(n:∀b∈fp,kj X pins H b)
  (a:Inv (bCx X N' sc s H C fp) pins' d H' s'):Inv (bCx X N' sc s H C fp) pins' (fh σ ix) H' s':=by
 show(a.ok,a.os,a.bare,a.base,?_,a.cell,a.free,a.freeC,a.pin,a.hok,by show(fh σ ix).length=-N';simp[fh,S.len]);let(p,f,_):=a.loc;show(p,f,λi x v e1 e2 e3=>?_);let hi:i< -ix:=by let z:=(Kx.mp e2).1;simpa[fh] using z
 let g:(fh σ ix)[i]?=(ix[i]?).map λo=>o.bind λj=>(σ[j]?).join:=KM ..;rw[g,Kk hi]at e2;let e2:(ix[i]).bind (λj=>(σ[j]?).join)=OV v:=di e2;cases q:ix[i] with
 |none=>rw[q]at e2;cases e2
 |some j =>
  rw[q]at e2;let e2:(σ[j]?).join=OV v:=e2;let e2:σ[j]?=OV (OV v):=by
   cases z:σ[j]? with
   |none=>rw[z]at e2;cases e2
   |some w'=>rw[z]at e2;let e2:w'=OV v:=e2;rw[e2]
  cbv;let(y,c1,c2,h):=S.cap i j (by rw[Kk hi,q]);let l:x=y:=di (e1.symm.trans c1);subst l;let kd:=S.free (x,.free) (mem_of_lookup h) rfl;let(m,hn,r):=I.loc;let(u,t,w):=r j x v c2 e2 (by rcases kd with k|k;show .inr (.inl k);show .inr (.inr k))
  w_up;show(u,t,.inr (?_,?_));rw[show(bCx X N' sc s H C fp).env.kindOf x=_ from fJ (C:=C) (env:=X.env) h];split;show .inl rfl;show .inr rfl;rcases w with⟨k,_⟩|⟨_,c,hc,o,ho,hd⟩
  rcases kd with k'|k' <;> rw[k]at k' <;> cases k'
  show(c,?_,?_);let:=gy S (C:=C) h;rw[hc]at this;show this;let(sl,e):=a.base.any ho (I.freeC x c hc) λz=>(n c z).2.2.2.2.1 x c hc rfl;show(_,e,hd)
def PIf(X:Cx)(ifs:OS)(t:TT):Prop :=
 ∀(pins:Oq) (s:az) (σ:St) (H:Hp) (Q:Bool->Hp->Prop),Inv X pins σ H s->t σ H Q ->
  j4 (kq X.prog X.w) X.A (forIn ifs OX λc r=>if r=OX then do let ok <-Zo c X.env (eval c X.env);pure (ForInStep.yield ok) else pure (ForInStep.yield r)) (TP X pins σ Q) X.xe s
def JH:TT:=λY H Q=>Q OX H
def BM:PIf X [] JH:=λY Y Y H Y I h=>wpAny_tests_nil (H,I,h)
def BL(h:PT X c t):PIf X [c] t:=λpins s σ H Q I hw=>wpAny_tests_one (h pins s σ H Q I hw)
def oB(I:Nat->az->Prop)
  (turn : ∀n s,I n s->j4 (kq prog w) A (Q3 it) (λr b=>match r with
   |none=>R (.ok .next) b
   |some v=>j4 (kq prog w) A (Zj a it v) (λY d=>j4 (kq prog w) A (assign a env v) (λY f =>
     j4 (kq prog w) A (forIn ifs OX λc r=>if r=OX then do let ok <-Zo c env (eval c env);pure (ForInStep.yield ok) else pure (ForInStep.yield r)) (λok e =>
      if ok=OX then j4 (kq prog w) A (eval elt env) (λx g =>
       j4 (kq prog w) A (call (.builtin "list.append") [k,x]) (λY i=>∃m,m<n/\I m i) (λY Y=>False) g) (λY Y=>False) e
      else ∃m,m<n/\I m e) (λY Y=>False) f) (λY Y=>False) d) (λY Y=>False) b) (λY Y=>False) s)
  (n : Nat) (h:I n s):Qx (kq prog w) A (.compLoop (.ListComp elt [(a,iter,ifs,0)] scope pos) 0 it k env) R s:=by
 show codeAny_loop rfl I (λn s t=>?_) n h;show j4 _ A ((compTurn (.ListComp elt [(a,iter,ifs,0)] scope pos) 0 it k env).onRaise (λx=>do noteFrame x env;theTreesLotGoes x)) _ _ s;show wpAny_noted ?_;rw[compTurn_list];show jj (Q6 (jj (KX (turn n s t) (λr b h₁=>?_) λY Y h'=>h'.elim)));cases r with
 |none=>show js h₁
 |some v =>
  show jj (KX h₁ (λY d l=>jj (KX l (λY f o=>jj (KX o (λok e j=>?_) λY Y h'=>h'.elim)) λY Y h'=>h'.elim)) λY Y h'=>h'.elim);cases ok with
  |false=>show js (rfl,j)
  |true =>
   show jj (jj (KX j (λx g p=>jj (KX p (λY i q=>js (js (rfl,q))) λY Y h'=>h'.elim)) λY Y h'=>h'.elim))
def zO(J:It)(σ0:St)(g:TG)(tt:TT)(te:TE)(H1:Hp)(f:OU->Hp->Prop):Prop :=
 ∃W : Nat->Nat->OU->Hp->Prop,(∃m,W 0 m [] H1)/\∀i m ys H,W i m ys H ->
  (J.stop i H/\f ys H) \/
  (J.go i H/\ys.length<sizeLine/\∃N:OU->Hp->Prop,(∀a H',N a H'->∃d,d<m/\W (i+1) d a H') /\
   ∀x H',J.yld i H x H'->g x σ0 H' λc H2=>tt c H2 λb e=>if b=OX then te c e λy h=>N (ys++[y]) h else N ys e)
def sU{tg iter elt:ba}{ifs:OS}{pos:Pos}{g:TG}{tt:TT}{te:TE}{pins:Oq}{σ:St}{H:Hp}{s:az}{it:ac}{fp:OO}{tn:Nat->bb->Prop}{J:It}{Qe:OU->Hp->Prop}
  {RR:ao->ac->Z5->az->Prop}{E:ao->az->Prop}
  (hc:X.calm=true) (S:dB X.N X.env N' ix sc) (hg:∀s H C fp,PG (bCx X N' sc s H C fp) tg g) (ht:∀s H C fp,PIf (bCx X N' sc s H C fp) ifs tt) (he:∀s H C fp,PE (bCx X N' sc s H C fp) elt te)
  (I : Inv X pins σ H s) (T:Df X.prog X.w X.K tg J fp it tn) (st:tn 0 s.heap) (R:∀b∈fp,kj X pins H b) (hw:zO J (fh σ ix) g tt te H Qe)
  (fin:∀s' H' ys m,s'.heap.Ns (s.heap.objs.size+1) m->H' s.heap.objs.size=none->H' (s.heap.objs.size+1)=none->Qe ys H'->Inv X pins σ (upd H' s.heap.objs.size (.lst ys)) s'->RR (.ref s.heap.objs.size) (s.heap.objs.size+1) (.ok .next) s') :
  j4 (kq X.prog X.w) X.A (newList []) (λU Y=>j4 (kq X.prog X.w) X.A (Z0 sc X.env.globals (cU X.env sc.names []) [] X.env.qual none .none (some X.env)) (λD Z =>
   Qx (kq X.prog X.w) X.A (.compStart (.ListComp elt [(tg,iter,ifs,0)] sc pos) 0 (.ref it) U { D with scope:=relabel sc X.env }) (RR U D.locals) Z) E Y) E s:=by
 let a3:∀b∈fp,b<(~~~s):=λb a=>by
  let(o,e,_):=T.obj _ _ st b a;show KB e
 show Ql (pX ?_);let b4:(s.heap.push { cls:=.type "list",dict:=OW,data:=.seq ([]:ON).toArray }).objs.size=(~~~s)+1:=LK ..;let I0:=qD S I R a3;let(W,(m0,w0),turn):=hw;let nD:∀b∈fp,(~~~s)≠b:=λb a=>Lh (a3 b a);let B:H (~~~s)=OW:=I.hok.fresh (Kz _);let F:∀x c,(uy sc ((~~~s)+1) X.env).cells.lookup x=OV c->c≠(~~~s):=λx c h=>by
  rcases kc S h with⟨_,b1,_⟩|⟨a1,b1⟩
  show Lh (Ku (Mh (ci _)) b1);let(d,hd):=I.ok.has x (S.free (x,.free) (mem_of_lookup a1) rfl);rw[hd]at b1;let(v,q):=I.cell x d hd;let e:c=d:=b1;rw[e];show KO q.lt
 let a4:(~~~s) ∉ frs X.stack:=λz=>by
  rcases Kt.mp (I.stkSub _ z) with z|z;show absurd I.lt (by rw[<-z];show LF _);show I.nofs (Kz _) z
 let a5:∀{pins':Oq}{H':Hp},(∀b∈fp,H' b=OW)->(∀p∈pins',∀b∈fp,p.1≠b)->∀b∈fp,kj (bCx X N' sc s H ((~~~s)+1) fp) pins' H' b:=λ{pins' H'} h1 h2 b a =>
  (h1 b a,(I0.ok.exf b a).1,I0.ok.exfs b a,.inl a,(I0.ok.exf b a).2,λp f=>h2 p (by simpa[bCx] using f) b a)
 let G:(Za ((s.heap.push { cls:=.type "list",data:=.seq #[] }).push { cls:=.type "dict",data:=.dict #[] }) sc.names).get? (~~~s)=OV { cls:=.type "list",data:=.seq #[] } :=
  Zi _ _ _ _ (Kq _ (KF _ rfl))
 let b5:Inv (bCx X N' sc s H ((~~~s)+1) fp) [((~~~s),{ cls:=.type "list",data:=.seq #[] })] (fh σ ix) H _:=I0.pins_of (pins':=[((~~~s),{ cls:=.type "list",data:=.seq #[] })]) λp f=>by
  let e:p=((~~~s),{ cls:=.type "list",data:=.seq #[] }):=by simpa using f
  subst e;show(G,B,KO (ci _),a4,λv z=>by cases z)
 let a6:tn 0 (Za ((s.heap.push { cls:=.type "list",data:=.seq #[] }).push { cls:=.type "dict",data:=.dict #[] }) sc.names):=T.keep _ _ _ st λb a o e=>Zi _ _ _ _ (Kq _ (Kq _ e));let loop:∀P:az,P={ s with heap:=Za ((s.heap.push { cls:=.type "list",data:=.seq #[] }).push { cls:=.type "dict",data:=.dict #[] }) sc.names } ->
   Qx (kq X.prog X.w) X.A (.compLoop (.ListComp elt [(tg,iter,ifs,0)] sc pos) 0 (.ref it) (.ref (~~~s)) (uy sc ((~~~s)+1) X.env)) (RR (.ref (~~~s)) ((~~~s)+1)) P:=by
  rintro P rfl;show oB (λn s'=>∃(i:Nat) (ys:OU) (its:ON) (k:Nat) (H':Hp),Inv (bCx X N' sc s H ((~~~s)+1) fp) [((~~~s),{ cls:=.type "list",data:=.seq its.toArray k })] (fh σ ix) H' s' /\
   tn i s'.heap/\(∀b∈fp,H' b=OW)/\aS ys its/\ys.length<=sizeLine/\W i n ys H') ?_ m0 (0,[],[],0,H,b5,a6,λb a=>(R b a).1,.nil,KG _,w0)
  rintro n s3 ⟨i,ys,its,k,H3,I3,a7,b6,rv,hz,w3⟩;let b0:=a5 (pins':=[((~~~s),{ cls:=.type "list",data:=.seq its.toArray k })]) b6 (λp f b a=>by
   let e:p=((~~~s),{ cls:=.type "list",data:=.seq its.toArray k }):=by simpa using f
   rw[e];show nD b a)
  rcases turn i n ys H3 w3 with⟨stop,qe⟩|⟨go,g0,N,hN,step⟩
  .show thn (T.done (bCx X N' sc s H ((~~~s)+1) fp) rfl rfl rfl hc i _ s3 _ H3 (λV V=>False) I3 b0 a7 stop) λr P c3=>?_
   cbv;let(hr,j):=c3;subst hr;let(pg,pn,_):=j.pin ((~~~s),{ cls:=.type "list",data:=.seq its.toArray k }) (Kl _ Ks);let(m,hm,_):=j.loc
   w_up;show fin P H3 ys m hm pn j.free qe ?_;show I.call' (ch:=fp) j.os (j.base.keep,j.base.slot,λb o e n hx=>?_,j.base.there,λb xs q=>?_,λb o u q=>?_,λb ps q=>?_) (λb o e=>?_) j.bare λb a=>?_;rw[aw (KO (KB e))];show j.base.free b o e n hx;let q':=j.base.tups b xs q;rw[aw (aL q' pn)];show q';let q':=j.base.frzs b o u q;rw[aw (aL q' pn)];show q';let q':=j.base.tbls b ps q;rw[aw (aL q' pn)];show q'
   .by_cases a:b=(~~~s)
    .cbv;subst a;rw[aC]at e;cases e
     w_up;show(hz,its,k,rv,pg)
    rw[aw a]at e;show(j.hok b o e).stay (λc v V q=>q) (λc q=>by rw[aw (aL q pn)];show q) λc xs V q=>by rw[aw (aL q pn)];show q
   let(f0,f1,f2,f3,f4,f5):=R b a;show(f3,f1,f4,f5)
  .show thn (T.item (bCx X N' sc s H ((~~~s)+1) fp) rfl rfl rfl hc i _ s3 _ H3 (λV V=>False) I3 b0 a7 go) λr P c4=>?_;let(u,hr,h4):=c4;subst hr;show thn h4 λV s5 c5=>?_;let(x,H5,I5,r5,y5,L,c6):=c5;let d0:=a5 (pins':=[((~~~s),{ cls:=.type "list",data:=.seq its.toArray k })]) c6 (λp f b a=>by
    let e:p=((~~~s),{ cls:=.type "list",data:=.seq its.toArray k }):=by simpa using f
    rw[e];show nD b a)
   let d3:=I5.pinned d0 (T.obj _ _ L);show thn (hg s H _ fp _ s5 _ H5 x u _ d3 r5 (step x H5 y5)) λV s6 d4=>?_;let(t,H6,I6,q6):=d4;let back:∀{b2:St}{Q:Hp}{s7:az},Inv (bCx X N' sc s H ((~~~s)+1) fp) ([((~~~s),{ cls:=.type "list",data:=.seq its.toArray k })]++iI fp s5.heap) b2 Q s7 ->
     tn (i+1) s7.heap/\(∀b∈fp,Q b=OW):=λ{b2 Q s7} M=>by
    show(T.keep _ _ _ L λb a o e=>(M.pin (b,o) (Kl _ (Kl _ (fT a e)))).1,λb a=>?_);let(o,e,d):=T.obj _ _ L b a;show(M.pin (b,o) (Kl _ (Kl _ (fT a e)))).2.1
   show thn (ht s H _ fp _ s6 t H6 _ I6 q6) λok s7 e0=>?_;let(Q,M,q7):=e0;cases ok with
   |false =>
    rw[N7 KH]at q7 ⊢;let(m',O,w7):=hN _ _ q7;show(m',O,i+1,ys,its,k,Q,ka S I R M.unpinned,(back M).1,(back M).2,rv,hz,w7)
   |true =>
    rw[N6 rfl]at q7 ⊢;show thn (he s H _ fp _ s7 t Q _ M q7) λxv s8 e5=>?_
    cbv;let(y,H8,I8,r8,q8):=e5;let(m',O,w8):=hN _ _ q8;let(pg,pn,_):=I8.pin ((~~~s),{ cls:=.type "list",data:=.seq its.toArray k }) (Kl _ (Kp _ Ks))
    w_up;show wpAny_list_append_plain (l:=(~~~s)) (items:=its.toArray) (k,pg) (λh9 e6 b3=>?_) (by let:=-rv;simp;lia);let(k9,g9):=e6;let e7:Inv (bCx X N' sc s H ((~~~s)+1) fp) (iI fp s5.heap) t H8 s8:=I8.pins_of λp f=>I8.pin p (Kl _ (Kl _ f));let I9:Inv (bCx X N' sc s H ((~~~s)+1) fp) (iI fp s5.heap) t H8 { s8 with heap:=h9 }:=e7.turned (t':=s8.toks) (it:=(~~~s)) (λb o a e=>b3.extBut b o a e) pn (KO (ci _)) (.inr (Kz _)) F
     λp f=>by
      let e8:p∈iI fp s5.heap:=by simpa[bCx] using f
      show(nD _ (nz e8).1).symm
    let e9:Inv (bCx X N' sc s H ((~~~s)+1) fp) [((~~~s),{ cls:=.type "list",data:=.seq (its++[xv]).toArray k9 })] t H8 { s8 with heap:=h9 }:=I9.pins_of λp f=>by
     let e:p=((~~~s),{ cls:=.type "list",data:=.seq (its++[xv]).toArray k9 }):=by simpa using f
     subst e;show(?_,pn,KO (ci _),a4,λv z=>by cases z);simpa using g9
    show(m',O,i+1,ys++[y],its++[xv],k9,H8,ka S I R e9,?_,(back I8).2,rv.append (.cons r8 .nil),by simp;lia,w8);show T.keep _ _ _ (back I8).1 λb a o e=>b3.extBut b o (nD b a).symm e
 let key:=codeAny_compStart_list (iter:=iter) (loop _ rfl) (T.self X.A 0 { s with heap:=Za ((s.heap.push { cls:=.type "list",data:=.seq #[] }).push { cls:=.type "dict",data:=.dict #[] }) sc.names } _ _ a6 (loop _ rfl));simpa only[newEnv,b4,uy,compEnvC] using key
def xV(a:TI)(ix:Og)(g:TG)(tt:TT)(te:TE):TE:=λσ H Q=>a σ H λJ H1=>zO J (fh σ ix) g tt te H1 λys H2=>∀p,H2 p=OW->Q (.ref p) (upd H2 p (.lst ys))
def dB.clos{pins:Oq}{σ:St}{H:Hp}{s:az}(S:dB X.N X.env N' ix sc)(I:Inv X pins σ H s):QV sc X.env=pure (cU X.env sc.names []) :=
 mr λy a e=>by
  let(c,hc):=I.ok.has y.1 (S.free y a e);rw[hc];rfl
def vI(hc:X.calm=true)(S:dB X.N X.env N' ix sc)(hi:PI X tg iter f)
  (hg:∀s H C fp,PG (bCx X N' sc s H C fp) tg g) (ht:∀s H C fp,PIf (bCx X N' sc s H C fp) ifs tt) (k:∀s H C fp,PE (bCx X N' sc s H C fp) elt te)
  (hs:∀x,Qm iter X.env x=pure x:=by intro _;rfl):PE X (.ListComp elt [(tg,iter,ifs,0)] sc pos) (xV f ix g tt te):=by
 intro pins s σ H Q I h;rw[eval_ListComp];show Z7 (use:=OW) rfl hs (S.clos I) S.kind S.names (thn (hi pins s σ H _ I h) λv s1 h1=>thn h1 λl s2 a=>?_);let(it,fp,tn,J,H2,e,i,T,st2,j,hw):=a;subst e;show sU (RR:=λc C=>compPost (kq X.prog X.w) X.A X.xe OW (EP X pins σ Q) c C) hc S hg ht k i T st2 j hw λs' H' ys m hn hD hC q n=>?_;show(m,hn,λh' d=>?_);let p:(upd H' (~~~s2) (.lst ys)) ((~~~s2)+1)=OW:=by rw[aw (Lh (ci _))];show hC
 let(r,t,j,u,y,z):=i.fpOk (H':=upd H' (~~~s2) (.lst ys)) (b:=(~~~s2)+1) (LD _) p;show(.ref (~~~s2),_,n.turned (t':=s'.toks) (it:=(~~~s2)+1) (λb o B e=>d.extBut b o B e) r t u y z,rfl,q _ hD)
def kK{pos c d:Pos}(hN:X.N.Nodup)(f:X.N[i]?=some y)(E:X.env.scope.names.lookup y=some .local)
  (hc:X.calm=true) (S:dB X.N X.env N' ix sc) (hi:PI X tg iter B)
  (hg:∀s H C fp,PG (bCx X N' sc s H C fp) tg g) (ht:∀s H C fp,PIf (bCx X N' sc s H C fp) ifs tt) (M:∀s H C fp,PE (bCx X N' sc s H C fp) elt te)
  (j:Q9 (.ListComp elt [(tg,iter,ifs,0)] sc pos) (some (.Name y d)) c.line X.env=pure true:=by rfl)
  (hs:∀x,Qm iter X.env x=pure x:=by intro _;rfl):PS X (.Assign [.Name y d] (.ListComp elt [(tg,iter,ifs,0)] sc pos) c) (DW (xV B ix g tt te) (og i)):=by
 intro pins s σ H D I h;rw[exec_Assign_Name_used _ _ _ _ j];show jj (Q6 (jj ?_));show j4 _ X.A (do let _ <-comprehension (.ListComp elt [(tg,iter,ifs,0)] sc pos) sc X.env _ (newList []) OY (eval iter X.env) (OV (assign (.Name y d) X.env))) _ _ s;show jj (KX (Z7 (use:=OV (assign (.Name y d) X.env)) (Q:=λ_ s'=>SP X pins D .next s') rfl hs (S.clos I) S.kind S.names
  (thn (hi pins s σ H _ I h) λv s1 h1=>thn h1 λO s2 hz=>?_)) (λ_ s' P=>js (js P)) λ_ _ e=>e)
 let(it,fp,tn,J,H2,e,F,T,st2,G,hw):=hz;subst e;show sU (RR:=λk C=>compPost (kq X.prog X.w) X.A X.xe (OV (assign (.Name y d) X.env)) (λ_ s'=>SP X pins D .next s') k C) hc S hg ht M F T st2 G hw λs' H' ys m hn hD hC q R=>?_;let U:(upd H' (~~~s2) (.lst ys)) ((~~~s2)+1)=OW:=by rw[aw (Lh (ci _))];show hC
 let(V,K,G,W,L,Y):=F.fpOk (H':=upd H' (~~~s2) (.lst ys)) (b:=(~~~s2)+1) (LD _) U;show j4 _ X.A (assign (.Name y d) X.env (.ref (~~~s2))) _ _ _;show wpAny_assign_Name (mS (v:=.ref (~~~s2)) R hN f (.inl E) rfl (λl n p=>?_) (.inr E));let(a,r,t):=p;let ne:(~~~s2)+1≠a:=by
  rcases t with rfl|t;show K
  exactλz=>L y a t z.symm
 show(m,hn.sameBut r ne,λh' u=>?_);show(_,_,n.turned (t':=l.toks) (it:=(~~~s2)+1) (λb o Z e=>u.extBut b o Z e) V K W L Y,q _ hD)
end
open Sem (wp)
section
def cQ(prog:k5)(w:q3)(h:bb)(k:Int×OD)(a:ac):Prop :=
 ∃o t b n,h.get? a=OV o/\o.cls=.type "tuple" /\ o.data=.seq #[.int k.1 t,.ref b] n/\IsTupleKey (Qf prog w) h k.2 b
def bT(i:Int)(t:Tok):(Qf prog w).is i (.int i t)=OX:=by simp[Qf,NZ]
def cQ.typeIs{s:az}(x:cQ prog w s.heap k a):s.TypeIs (.ref a) "tuple":=by let(o,_,_,_,ho,hc,_):=x;show(o,ho,hc)
theorem cQ.inj(hx:cQ prog w h x a)(f:cQ prog w h y a):x=y:=by
 cbv;let(x1,x2):=x;let(y1,g):=y;let(o,t,b,n,ho,_,hd,hi):=hx;let(o',t',i,j,d,_,c,e):=f;obtain rfl:o=o':=di (ho.symm.trans d);rw[hd]at c;injection c with h1 _;simp only[Array.mk.injEq,lp,Value.int.injEq,Value.ref.injEq,and_true]at h1;let((e1,_),e2):=h1;subst e2
 w_up;let e3:x2=g:=hi.inj e;rw[e1,e3]
theorem cQ.keeps(x:cQ prog w h k a)(ho:h.get? d=OV o)(hd:o.data=.dict es ep)(hs:gk d h h') :
  cQ prog w h' k a:=by
 let(o',t,b,n,e,hc,c,hi):=x;let f:a≠d:=by rintro rfl;obtain rfl:o'=o:=di (e.symm.trans ho);rw[hd]at c;show nomatch c
 show(o',t,b,n,(hs.2 a f).trans e,hc,c,hi.keeps ho hd hs)
noncomputable def o5(prog:k5)(w:q3)(k:Int×OD):Int:=ZZ (eS [ZC k.1,Yh (Qf prog w) k.2])
def tK(i:A.units+1<KI)(hk:cQ prog w s.heap k a)(h:Q (o5 prog w k) { s with toks:=s.toks+(k.2.length+3) }) :
  j4 (kq prog w) A (pyHash (.ref a)) Q E s:=by
 let hT:=hk.typeIs;let(f,k2):=k;let(o,t,g,n,ho,_,hd,hi):=hk;unfold pyHash
 first|unfold pyHashByItsType|skip
 first|show jj (wpAny_cRoomFor_or (.inr (!0)) ?_)|skip
 show jj (Qn hT F.slot_tuple_hash.lookup ?_);show j4 _ _ (if (OV (NK "tuple.__hash__")==OV du)=OX then _ else _) Q E s;rw[N7 (by rw[beq_builtin_none];show KH)];show jj (Qn hT F.slot_tuple_hash.lookup ?_);show j4 _ _ (callSpecialIfBoundUnlessNone? (.ref a) "__hash__" _ >>= _) Q E s;show jj (wpAny_callSpecialIfBoundUnlessNone?_slot hT F.slot_tuple_hash (Qb F.slot_tuple_hash hT F.entry_tuple_hash ?_ (F.args_tuple_hash_1 _)));show j4 _ _ (Builtin.Tuple.tupleItemsOf (.ref a) >>= _) _ _ s;show jj (Zz ho hd ?_);show jj ?_;rw[<-ms];show QT _
  (λrest (b:Array Int) s'=>(rest=[.int f t,.ref g]/\b.toList=[]/\s'=s)\/(rest=[.ref g]/\b.toList=[ZC f]/\s'={ s with toks:=s.toks+1 })\/(rest=[]/\b.toList=[ZC f,Yh (Qf prog w) k2]/\s'={ s with toks:=s.toks+1+(-k2+1) }))
  _ ?_ ?_ _ _ (.inl (rfl,rfl,rfl))
 rintro x rest b s' (⟨c,d,rfl⟩|⟨c,d,rfl⟩|⟨c,d,rfl⟩);injection c with e1 e2;subst e1 e2;show jj ((Qf prog w).pyHash (bT f t) ?_)
 first
  |show js (.inr (.inl ⟨rfl,by simp[d,Qf],rfl⟩))
  |show jj (js (js (.inr (.inl ⟨rfl,by simp[d,Qf],rfl⟩))))
 injection c with e1 e2;subst e1 e2;show jj (wpAny_pyHash_tuple (knd:=Qf prog w) i hi ?_)
 first
  |show js (.inr (.inr ⟨rfl,by simp[d],rfl⟩))
  |show jj (js (js (.inr (.inr ⟨rfl,by simp[d],rfl⟩))))
 cases c;rintro b s' (⟨c,d,rfl⟩|⟨c,d,rfl⟩|⟨c,d,rfl⟩);cases c;cases c;show j4 _ _ (retInt (eS b.toList)) _ _ _;rw[d];show wpAny_ret_mkInt ?_;show j4 _ _ (if (decide (-(2:Int) ^ 63<=eS _)&&decide (eS _<2 ^ 63))=OX then _ else _) Q E _;unfold o5 ZZ at h;generalize eS [ZC f,Yh (Qf prog w) k2]=z at *;by_cases c:(decide (-(2:Int) ^ 63<=z)&&decide (z<2 ^ 63))=OX;rw[N6 c];rw[N6 c]at h;show js ?_;let e:s.toks+1+(-k2+1)+1=s.toks+(-k2+3):=!0
 simpa[e] using h;rw[N7 c];rw[N7 c]at h;show jj (Qa (js ?_));let e:s.toks+1+(-k2+1)+1=s.toks+(-k2+3):=!0
 simpa[e] using h
def o4(q:A.units<KI)(hx:cQ prog w s.heap x a)(n:cQ prog w s.heap y b)(h:P (.done (.ret (.bool (decide (x=y))))) s) :
  j4 (kq prog w) A (Builtin.«tuple.__eq__» ⟨[.ref a,.ref b],[]⟩) P E s:=by
 let d:=n.typeIs
 cbv;let(x1,x2):=x;let(y1,c):=y;let(t,ta,o,z,e,_,f,g):=hx;let(ob,tb,p,B,i,_,j,k):=n
 w_up;show j4 _ _ (isInstance (.ref b) (.type "tuple") >>= _) _ _ s;show jj (QE d Zl ?_);simp only[LW,KW,if_false];show jj (Zz e f ?_);show jj (Zz i j ?_);show jj ?_;show QT _
  (λrest r s'=>r.1=OW/\s'=s/\(rest=[(Pm (.int x1 ta) (.int y1 tb)),(Pm (.ref o) (.ref p))]\/(rest=[(Pm (.ref o) (.ref p))]/\x1=y1)\/(rest=[]/\x1=y1/\x2=c)))
  _ ?_ ?_ _ _ ⟨rfl,rfl,.inl rfl⟩
 rintro⟨u,v⟩ rest r s' ⟨l,rfl,(hz|⟨hz,e1⟩|⟨hz,_⟩)⟩;simp only[lp,m7]at hz;let((rfl,rfl),rfl):=hz;show jj ((Qf prog w).eqBool (bT x1 ta) (bT y1 tb) ?_);by_cases hk:x1=y1;subst hk;rw[decide_eq_true rfl];simp only[LW,KW,if_false];show js ⟨rfl,rfl,.inr (.inl (!1))⟩;rw[decide_eq_false hk];simp only[NP,if_true];let m:decide ((Pm x1 x2)=(Pm y1 c))=OY:=by simp[hk]
 rw[m]at h;show jj (js (js (js h)));simp only[lp,m7]at hz;let((rfl,rfl),rfl):=hz;show jj (wpAny_eqBool_tuple q g k ?_);by_cases hk:x2=c;rw[decide_eq_true hk];simp only[LW,KW,if_false];show js ⟨rfl,rfl,.inr (.inr (by simp[e1,hk]))⟩;rw[decide_eq_false hk];simp only[NP,if_true];let m:decide ((Pm x1 x2)=(Pm y1 c))=OY:=by simp[hk]
 rw[m]at h;show jj (js (js (js h)));cases hz;rintro⟨C,D⟩ s' ⟨l,rfl,(hz|⟨hz,e1⟩|⟨hz,e1,e2⟩)⟩;cases hz;cases hz;simp only at l;subst l;show js ?_;rw[decide_eq_true (by rw[e1,e2])]at h;show h
def tL(f:A.units+1<KI)(hx:cQ prog w s.heap x a)(d:cQ prog w s.heap y b)(h:Q (decide (x=y)) s) :
  j4 (kq prog w) A (eqBool (.ref a) (.ref b)) Q E s:=by
 unfold eqBool
 try with_reducible show q4 ?_
 show j4 _ _ (if (cu a==cu b)=OX then _ else _) Q E s;by_cases c:(cu a==cu b)=OX;rw[N6 c];let e:a=b:=by let:=eq_of_beq c;injection this
 subst e;obtain rfl:=hx.inj d;show jj (Qa (js (by simpa using h)));rw[N7 c];show jj (wpAny_richCompare_same_room (op:=.Eq) hx.typeIs d.typeIs F.slot_tuple_eq
  (Qb F.slot_tuple_eq hx.typeIs F.entry_tuple_eq (o4 f hx d (_,rfl,(λe=>nomatch e),QK h)) (F.args_tuple_eq_2 _ _)) (!0))
def vi(hk:IsTupleKey (Qf prog w) s.heap ks a)(h:Q OX s):j4 (kq prog w) A (Yd (n+1) (.ref a)) Q E s:=by let hT:=hk.typeIs;let(o,items,m,ho,_,hd,hi):=hk;unfold Yd;show jj (Qn hT F.slot_tuple_eq.lookup ?_);show j4 _ _ (isInstance (.ref a) (.type "tuple") >>= _) _ _ s;show jj (QE hT Zl ?_);simp only[LW,KW,if_false];show jj (QB ho hd ?_);show jj ?_;show j4 _ _ (forIn items _ _) _ _ s;rw[<-ms];show QT _ (λrest r s'=>r.1=OW/\s'=s/\∀v∈rest,carriedByValue v=OX) _ ?_ ?_ _ _ (rfl,rfl,hi.byValue);rintro v rest r s' ⟨c,rfl,b⟩;rw[eqIsQuiet_byValue _ (b v Ks)];show jj (js ?_);simp only[LW,KW,if_false];show js (rfl,rfl,λu d=>b u (Kv _ d));rintro⟨e,f⟩ s' ⟨c,rfl,_⟩;simp only at c;subst c;show js h
def uN(hk:cQ prog w s.heap k a)(h:Q OX s):j4 (kq prog w) A (Yd 8 (.ref a)) Q E s:=by let hT:=hk.typeIs;let(o,t,b,n,ho,_,hd,hi):=hk;unfold Yd;show jj (Qn hT F.slot_tuple_eq.lookup ?_);show j4 _ _ (isInstance (.ref a) (.type "tuple") >>= _) _ _ s;show jj (QE hT Zl ?_);simp only[LW,KW,if_false];show jj (QB ho hd ?_);show jj ?_;show j4 _ _ (forIn _ _ _) _ _ s;rw[<-ms];show QT _ (λrest r s'=>r.1=OW/\s'=s/\∀v∈rest,carriedByValue v=OX\/v=.ref b) _ ?_ ?_ _ _ (rfl,rfl,λv hv=>?_);rintro v rest r s' ⟨e,rfl,c⟩;rcases c v Ks with hv|rfl;rw[eqIsQuiet_byValue _ hv];show jj (js ?_);simp only[LW,KW,if_false];show js (rfl,rfl,λu d=>c u (Kv _ d));show jj (vi hi ?_);simp only[LW,KW,if_false];show js (rfl,rfl,λu d=>c u (Kv _ d));rintro⟨f,g⟩ s' ⟨e,rfl,_⟩;simp only at e;subst e;show js h;simp at hv;rcases hv with rfl|rfl;show .inl rfl;show .inr rfl
end
def a8(prog:k5)(w:q3):HeapKind prog w (Int×OD) where
 is := cQ prog w
 hash:=o5 prog w
 draws:=λk=>k.2.length+3
 room:=λA=>A.units+1<KI
 inj:=λhx a=>hx.inj a
 keeps:=λx ho hd hs=>x.keeps ho hd hs
 pyHash:=λb hk h=>tK b hk h
 eqBool:=λb hx a h=>tL b hx a h
 quiet:=λhk h=>uN hk h
abbrev ar:=Int×OD
abbrev On:=List (ar×ac×ao)
abbrev Oo:=List (ar×ac×V)
abbrev Ot:=List (ar×Int)
abbrev Ou:=List (ar×ab)
abbrev OQ:=List ar
noncomputable def xZ(k:ar):Int:=ZZ (eS [ZC k.1,ZZ (eS (k.2.map ZC))])
def jZ(x:ar×ac×ao):Q1:=(xZ x.1,.ref x.2.1,x.2.2)
def eG{A:Around}(a:A.units+2<KI):(a8 prog w).room A.in1:=a
section
variable{prog:k5}{w:q3}{A:Around}{E:ao->az->Prop}{s:az}{d a:ac}{xs:On}{k:ar}{v:ao}
def fZ(prog:k5)(w:q3)(h:bb)(d:ac)(xs:On):Prop :=
 ∃o ds ep,h.get? d=OV o/\o.ExactDict/\o.data=.dict ds ep/\ds.toList=xs.map jZ/\(∀x∈xs,cQ prog w h x.1 x.2.1)/\(xs.map (·.1)).Nodup/\ep=-xs
def fZ.of(x:fZ prog w h d xs):h.DictOfH (a8 prog w) d xs:=by let(o,ds,ep,h1,h2,h3,h4,h5,h6,_):=x;show(o,ds,ep,h1,h2,h3,h4,h5,h6)
def j6(m:A.units+1<KI)(b:cQ prog w s.heap k a)(q:fZ prog w s.heap d xs)
  (hQ:∀h',fZ prog w h' d (ZS xs k a v)->gk d s.heap h'->Q () { s with heap:=h',toks:=s.toks+(k.2.length+3) }) (hsz:xs.length<=sizeLine) :
  j4 (kq prog w) A (dictSet d (.ref a) v) Q E s:=by
 let(o,es,ep,ho,hc,hd,h,c,hn,n):=q;unfold dictSet
 try with_reducible show q4 ?_
 show jj ((a8 prog w).pyHash m b ?_);unfold dictSetHashed
 try with_reducible show q4 ?_
 show jj (wpAny_dictFind_heap (knd:=a8 prog w) (s:={ s with toks:=s.toks+(a8 prog w).draws k }) m b ho hd h c hn ?_ ?_)
 .intro f;let g:k ∉ xs.map (·.1):=not_mem_keys_of_get f;show jj (Qa (wpAny_updateDictKeys (hz:=by let e:=size_of_entries (knd:=a8 prog w) h;lia) (s:={ s with toks:=s.toks+(a8 prog w).draws k }) ho hd (hQ _ (_,_,ep+1,K9 _ ho (sj (np hd _)),
   hc.mapDictKeys _,np hd _,?_,?_,?_,?_) (dk ..))))
  all_goals rw[storedH_new (Q5 f)]
  simp[h,jZ,entryOfKey];rfl;intro x hx;rcases Km.mp hx with hx|hx;show(a8 prog w).keeps (c x hx) ho hd (dk ..);simp only[Kj]at hx;subst hx;show(a8 prog w).keeps b ho hd (dk ..);rw[KC,Ky];show(hn,!1,λx hx y i=>?_);simp only[Kw,LQ,Kj]at i;subst i
  exactλe=>g (e▸hx)
  rw[n];simp
 .intro j p hj;show jj (Qa (jj (wpAny_updateDict (s:={ s with toks:=s.toks+(a8 prog w).draws k }) ho hd (wpAny_point (hQ _ (_,_,ep,K9 _ ho (sj (NF hd _)),
   hc.mapDict _,NF hd _,?_,?_,?_,?_) (dk ..))))))
  all_goals rw[storedH_old (atKey_of_get hn hj)]
  let:=modify_map_putAt jZ (λe:Q1=>{ e with val:=v }) k v (λY Y=>rfl) hn hj;rw[<-h]at this;let⟨l⟩:=es;simpa using this;intro x hx;let(y,i,rfl):=Ko.mp hx;unfold putAt;split <;> show(a8 prog w).keeps (c y i) ho hd (dk ..)
  rw[keys_map_putAt];show hn;rw[n];simp
def u7(g:A.in1.units+1<KI)(b:cQ prog w s.heap k a)(f:fZ prog w s.heap d xs)
  (hQ:∀h',fZ prog w h' d (ZS xs k a v)->gk d s.heap h'->Q () { s with heap:=h',toks:=s.toks+(k.2.length+3) }) (hsz:xs.length<=sizeLine) :
  j4 (kq prog w) A (Ze (.ref d) (.ref a) v) Q E s:=by
 let hT:=f.of.typeIs;unfold Ze
 try with_reducible show q4 ?_
 show jj (wpAny_sequenceKey hT (!2) ?_);show jj (K0 (name:=fI "__setitem__") hT slot_dict_setitem (Qb slot_dict_setitem hT entry_dict_setitem ?_ (args_dict_setitem _ _ _)));show j4 _ _ (Builtin.Dict.notOrdered "__setitem__" ([.ref d,.ref a,v],[]) >>= _) _ _ s;show jj (QR hT ?_);show j4 _ _ (dictSet d (.ref a) v >>= _) _ _ s;show jj (j6 g b f (λh' c e=>js (.none,rfl,js (hQ h' c e))) hsz)
variable{o od:Obj}{es:Array Q1}{ep i:Nat}{it:ac}
def nO(b:(d==Qd)=false)(ho:s.heap.get? d=some o)(hc:o.ExactDict)(a:o.data=.dict es ep)
  (hQ:Q (.ref s.heap.objs.size) { s with heap:=s.heap.push { cls:=.type "dict_keyiterator",data:=.fields #[.ref d,.int 0 0,.int es.size 0,.int ep 0] } }) :
  j4 (kq prog w) A (pyIter (.ref d)) Q E s:=by
 let hT:s.TypeIs (.ref d) "dict" := (o,ho,hc.1)
 show wpAny_pyIter_slot hT F.slot_dict_iter (Qb F.slot_dict_iter hT F.entry_dict_iter ?_ (F.args_dict_iter_1 _));unfold Builtin.«dict.__iter__»;show jj ?_;unfold Builtin.Dict.dictSlotNone;show jj (QR hT ?_);show j4 _ _ (pure (cu d)) _ _ s;show js ?_;show j4 _ _ (yl d >>= _) _ _ s;unfold yl;rw[N7 (by rw[b];show KH)];show jj (js ?_);show jj (QN ho a ?_);show jj (ZR ho a ?_);show jj (Ql (js (_,rfl, "dict_keyiterator",_,(_,KF _ rfl,rfl),F.slot_dict_keyiterator_next.lookup,?_)));simpa[Qt] using hQ
def rT(a:s.heap.IsKeyIter it d i es.size ep)(c:s.heap.get? d=some od)(e:od.data=.dict es ep)(g:i<es.size)
  (hQ:∀h',h'.IsKeyIter it d (i+1) es.size ep->gk it s.heap h'->Q (some es[i].key) { s with heap:=h' }) :
  j4 (kq prog w) A (Q3 (.ref it)) Q E s:=by
 let(o,ho,hc,hd):=id a;unfold Q3;show jj (QW (K0 (name:=fI "__next__") a.typeIs F.slot_dict_keyiterator_next
  (Qb F.slot_dict_keyiterator_next a.typeIs F.entry_dict_keyiterator_next ?_ (F.args_dict_keyiterator_next_1 _))))
 show jj (js ?_);show jj ?_;show jj ?_
 first|show jj (Qv a.typeIs (js ?_))|show jj (QF a.typeIs (js ?_))
 show jj (wpAny_fieldsOf ho hd ?_);let f:py "dict_keyiterator" = OY:=!2
 simp -iota only[f,KW,if_false];show j4 _ _ (if (cu d==du)=OX then _ else _) _ _ s;rw[N7 (show ¬((cu d==du)=OX) from KH)];show jj (js ?_);show jj (QN c e ?_);rw[N7 (!1)];show jj (js ?_);show jj (ZR c e ?_);rw[N7 (!1)];show js ?_;dsimp only;simp -iota only[show ¬((i:Int)<0) from by lia,if_false,K2,gf g];show jj ?_
 first|show jj (Qv a.typeIs (js ?_))|show jj (QF a.typeIs (js ?_))
 show jj (wpAny_isOneOf_keyiter a.typeIs ?_);show j4 _ _ (setField (.ref it) 1 (Qt ((i:Int)+1)) >>= _) _ _ s;show jj (Zn ho hd (!1) ?_);let b:(s.heap.update it (N2 (·.setIfInBounds 1 (Qt ((i:Int)+1))))).IsKeyIter it d (i+1) es.size ep :=
  (_,K9 _ ho (M5 (n6 hd _)),(Nu ..).trans hc,by rw[n6 hd];simp[Qt])
 show jj (q4 ?_);show jj (wpAny_isOneOf_keyiter (s:={ s with heap:=s.heap.update it (N2 (·.setIfInBounds 1 (Qt ((i:Int)+1)))) }) b.typeIs ?_);show j4 _ _ (pure es[i].key) _ _ _;show js (js (_,rfl,js (hQ _ b (dk ..))))
def sM(j:A.handled=none)(c:s.heap.IsKeyIter it d i es.size ep)(e:s.heap.get? d=some od)(f:od.data=.dict es ep)(h:es.size<=i)
  (hQ:∀h',yb it s.heap h'->Q none { s with heap:=h' }):j4 (kq prog w) A (Q3 (.ref it)) Q E s:=by
 let(o,ho,hc,hd):=id c;unfold Q3;show jj (QW (K0 (name:=fI "__next__") c.typeIs F.slot_dict_keyiterator_next
  (Qb F.slot_dict_keyiterator_next c.typeIs F.entry_dict_keyiterator_next ?_ (F.args_dict_keyiterator_next_1 _))))
 show jj (js ?_);show jj ?_;show jj ?_
 first|show jj (Qv c.typeIs (js ?_))|show jj (QF c.typeIs (js ?_))
 show jj (wpAny_fieldsOf ho hd ?_);let g:py "dict_keyiterator" = OY:=!2
 simp -iota only[g,KW,if_false];show j4 _ _ (if (cu d==du)=OX then _ else _) _ _ s;rw[N7 (show ¬((cu d==du)=OX) from KH)];show jj (js ?_);show jj (QN e f ?_);rw[N7 (!1)];show jj (js ?_);show jj (ZR e f ?_);rw[N7 (!1)];show js ?_;dsimp only;simp -iota only[show ¬((i:Int)<0) from by lia,if_false,K2,pw h];show jj ?_
 first|show jj (Qv c.typeIs (js ?_))|show jj (QF c.typeIs (js ?_))
 show j4 _ _ (setField (.ref it) 0 .none >>= _) _ _ s;show jj (Zn ho hd (!1) ?_);show j4 _ _ (newExc (.type "StopIteration") [] >>= _) _ _ _;show jj ?_;simp -iota only[newExc,newTuple];show jj (Ql ?_ (by size_fits));show jj (m:=Zp _ _) (wpAny_of_eq (a:=du) (by first|rfl|(simp only[Zp];rfl)) ?_);show Ql ?_ (by size_fits);simp -iota only[raiseNew];show jj (wpAny_handled ?_);rw[show A.in1.handled=OW from j];show jj (js (wpAny_throw ?_));show jj (QE (T := "StopIteration") (b:=OX) (_,KF _ rfl,rfl) isSubtype_stop ?_);show js (hQ _ (((dk ..).extBut.push _).push _))
end
def bf(a:ac)(es:Oo)(h:bb):Prop :=
 (-es)<=sizeLine/\(a==Qd)=OY/\∃xs:On,Paired (λ(p:ar×ac×V) (q:ar×ac×ao)=>p.1=q.1/\p.2.1=q.2.1/\bE p.2.2 q.2.2) es xs /\
  ∃o ds ep,h.get? a=OV o/\o.ExactDict/\o.data=.dict ds ep/\ds.toList=xs.map jZ/\(xs.map (·.1)).Nodup/\ep=-xs
abbrev aN(k:ar):ab:=.tuple [.int k.1,.tuple (k.2.map .int)]
abbrev br(kvs:Ou):ab:=.dict (kvs.map λp=>(aN p.1,p.2))
abbrev fzD(ds:OM):ab:=.dict [(.none,.list ds)]
def be(a:ac)(es:Ow)(h:bb):Prop :=
 (-es)<=sizeLine/\(a==Qd)=OY/\∃xs:List (Int×ao),Paired (λ(p:Int×V) (q:Int×ao)=>p.1=q.1/\bE p.2 q.2) es xs/\∀prog w,h.DictOf (Qf prog w) a xs
def be.keep(x:be a es h)(k:∀o,h.get? a=OV o->h'.get? a=OV o):be a es h':=by let(a1,a2,xs,b,c):=x;show(a1,a2,xs,b,λp w=>?_);let(o,es,ep,h1,h2):=c p w;show(o,es,ep,k _ h1,h2)
abbrev dY(kvs:Os):ab:=.dict ((.none,.none)::kvs.map λp=>(.int p.1,p.2))
def F4{α:Type}{n:Nat}{l:List α}(h:-l=n+1):∃a t,l=a::t:=List.exists_cons_of_length_eq_add_one h
def kB{α:Type}{l:List α}(h:-l=1):∃a,l=[a]:=List.length_eq_one_iff.mp h
def F6{α:Type}{l:List α}(h:-l=2):∃a b,l=[a,b]:=by let(a,t,rfl):=F4 h;let(b,rfl):=kB (l:=t) (MA h);show(a,b,rfl)
def IE{α:Type}{l:List α}(h:-l=3):∃a b c,l=[a,b,c]:=by let(a,t,rfl):=F4 h;let(b,c,rfl):=F6 (l:=t) (MA h);show(a,b,c,rfl)
def JX{α:Type}{l:List α}(h:-l=4):∃a b c d,l=[a,b,c,d]:=by let(a,t,rfl):=F4 h;let(b,c,d,rfl):=IE (l:=t) (MA h);show(a,b,c,d,rfl)
mutual
inductive DV (K:bg) (H:Hp):V->ab->Prop
 |non:DV K H .non .none
 |bl (b:Bool):DV K H (.bl b) (.bool b)
 |int (i:Int):DV K H (.int i) (.int i)
 |lst {a:ac}{xs:OU}{ds:OM}:SqL K H a xs->DVs K H xs ds->DV K H (.ref a) (.list ds)
 |tup {a:ac}{xs:OU}{ds:OM}:SqT K H a xs->DVs K H xs ds->DV K H (.ref a) (.tuple ds)
 |dct {a:ac}{es:Oo}{kvs:Ou}:H a=some (.ext (bf a es))->DVs K H (es.map λp=>V.ref p.2.1) (kvs.map λp=>aN p.1)->DVs K H (es.map λp=>p.2.2) (kvs.map λp=>p.2)->es.map (λp=>p.1)=kvs.map (λp=>p.1)->DV K H (.ref a) (br kvs)
 |idc {a:ac}{es:Ow}{kvs:Os}:H a=some (.ext (be a es))->DVs K H (es.map λp=>p.2) (kvs.map λp=>p.2)->es.map (λp=>p.1)=kvs.map (λp=>p.1)->DV K H (.ref a) (dY kvs)
 |fz {v:V}{ds:OM}:DV K H v (.list ds)->DV K H v (fzD ds)
inductive DVs (K:bg) (H:Hp):OU->OM->Prop
 |nil:DVs K H [] []
 |cons {x:V}{xs:OU}{d:ab}{ds:OM}:DV K H x d->DVs K H xs ds->DVs K H (x::xs) (d::ds)
end
def DV.tupI{K:bg}{H:Hp}{v:V}{ds:OM}(h:DV K H v (.tuple ds)):∃a xs,v=.ref a/\SqT K H a xs/\DVs K H xs ds:=by
 cases h with
 |tup h q=>show(_,_,rfl,h,q)
def DV.lstI{K:bg}{H:Hp}{v:V}{ds:OM}(h:DV K H v (.list ds)):∃a xs,v=.ref a/\SqL K H a xs/\DVs K H xs ds:=by
 cases h with
 |lst h q=>show(_,_,rfl,h,q)
def DV.intI{K:bg}{H:Hp}{v:V}{i:Int}(h:DV K H v (.int i)):v=.int i:=by cases h;rfl
def DVs.twoI{K:bg}{H:Hp}{vs:OU}{d e:ab}(h:DVs K H vs [d,e]):∃x y,vs=[x,y]/\DV K H x d/\DV K H y e:=by
 cases h with
 |cons h q =>
  cases q with
  |cons h2 q=>cases q;show(_,_,rfl,h,h2)
section
variable{X:Cx}{pins:Oq}{σ:St}{H:Hp}{s:az}
def DVs.ind{K:bg}{H:Hp}{C:OU->OM->Prop}(n:C [] [])(c:∀{x:V}{xs:OU}{d:ab}{ds:OM},DV K H x d->DVs K H xs ds->C xs ds->C (x::xs) (d::ds)){v:OU}{d:OM}(h:DVs K H v d):C v d :=
 DVs.rec (motive_1:=λY Y Y=>True) (motive_2:=λv d Y=>C v d) trivial (λY=>trivial) (λY=>trivial)
 (λY Y Y=>trivial) (λY Y Y=>trivial)
 (λY Y Y Y Y Y=>trivial) (λY Y Y Y=>trivial) (λY Y=>trivial) n (λh q Y i=>c h q i) h
def DV.reads(I:Inv X pins σ H s)(h:DV X.K H x d):bE x u->d.canLay0=OX->∃as,Reads s.heap u d as :=
 DV.rec (motive_1:=λx d Y=>∀u:ao,bE x u->d.canLay0=OX->∃as,Reads s.heap u d as) (motive_2:=λxs ds Y=>∀us:ON,aS xs us->ew ds=OX->∃as,ReadsAll s.heap us ds as)
 (λu r Y=>by cases (show _=du from r);show(_,.none))
 (λb u r Y=>by cases (show _=hU b from r);show(_,.bool b))
 (λi u r Y=>by let(t,rfl):=r;show(_,.int i t))
 (λ{a xs ds} h q i u r l=>by
  cases (show _=cu a from r);let(its,rv,(o,n,e,c,_,hd),_):=I.list h;let(as,ra):=i _ rv (by simpa only[dy] using l);show(_,.list e c hd (by simpa using ra)))
 (λ{a xs ds} h q i u r l=>by
  cases (show _=cu a from r);let(its,rv,(o,e,c,n,hd),_):=I.tuple h;let(as,ra):=i _ rv (by simpa only[dy] using l);show(_,.tuple e c hd (by simpa using ra)))
 (λY Y Y Y Y Y Y Y l=>by simp[dy]at l) (λY Y Y Y Y Y l=>by simp[dy]at l) (λY Y Y Y l=>by simp[dy]at l)
 (λus r Y=>by rw[aS.zero r];show(_,.nil))
 (λY Y i j us r l=>by
  simp only[ew,Ll]at l
  cbv;let(u,vs,rfl,f,g):=aS.consI r;let(as,ra):=i u f l.1;let(bs,rb):=j vs g l.2
  w_up;show(_,.cons ra rb)) h u
theorem bY:∀ns:OD,ew (ns.map db)=OX
 |[]=>rfl
 |n::ns=>by simp only[Kw,ew,dy,NW,bY ns]
abbrev shp(d:ab):Prop:=ir d=OX
def GT(K:bg):R2:=λx y H Q=>∃d e,DV K H x d/\DV K H y e/\shp d/\shp e/\Q (.bl (eu d e)) H
def GR(K:bg):R2:=λx y H Q=>∃d e,DV K H x d/\DV K H y e/\shp d/\shp e/\Q (.bl (!PyData.eqv d e)) H
def EJ(a:X.A.units+64<KI):OpR X (zs .Eq) (GT X.K):=by
 intro pins s σ H x y v u Q I b c h
 cbv;let(d,e,h1,h2,s1,s2,q):=h;let(as,ra):=h1.reads I b (gt s1);let(bs,rb):=h2.reads I c (gt s2)
 w_up;show eq_dataH ra rb s1 s2 a (.bl _,H,I,rfl,q)
def EG(a:X.A.units+64<KI):OpR X (zs .NotEq) (GR X.K):=by
 intro pins s σ H x y v u Q I b c h
 cbv;let(d,e,h1,h2,s1,s2,q):=h;let(as,ra):=h1.reads I b (gt s1);let(bs,rb):=h2.reads I c (gt s2)
 w_up;show ne_dataH ra rb s1 s2 a (.bl _,H,I,rfl,q)
def D7(K:bg):R2:=λx y H Q=>∃a b xs ys,x=.ref a/\y=.ref b/\SqT K H a xs/\SqT K H b ys/\xs.length+-ys<=sizeLine /\
 (xs=[]->Q (.ref b) H)/\(xs≠[]->ys=[]->Q (.ref a) H)/\(xs≠[]->ys≠[]->∀p,H p=OW->Q (.ref p) (upd H p (.tup (xs++ys))))
def B0:OpR X (Qs .Add) (D7 X.K):=by
 intro pins s σ H x y v u Q I j k h;let(a,b,xs,ys,rfl,rfl,l,m,hz,q0,q1,q2):=h;by_cases hx:xs=[]
 .subst hx;cases (show v=cu a from j);cases (show u=cu b from k)
  cbv;let(its,v1,p,_):=I.tuple l;let(c,r,p2,_):=I.tuple m;cases v1;let((cls,dd,data,sl),ho,hc,n,hd):=id p;let((o,g,data2,i),d,e,q,f):=id p2;simp only at hc hd e f;subst hc hd e f
  w_up;show ZD (_,ho,rfl) (_,d,rfl) ZL Z8 oS om (n5 _ _)
   (tuple_addW0 a b #[] c.toArray n q dd g sl i rfl) (ho,d,.ref b,H,I,rfl,q0 rfl)
 show BZ pins s σ H _ _ v u Q I j k (a,b,xs,ys,rfl,rfl,l,m,hx,hz,q1 hx,q2 hx)
end
def iU:Bool->bb->ac->OF->Prop
 |false,h,a,xs=>h.IsList a xs
 |true,h,a,xs=>h.IsTuple a xs
def iV:Bool->bb->ac->ac->Nat->Prop
 |false,h,it,a,i=>h.IsListIter it a i
 |true,h,it,a,i=>h.IsTupleIter it a i
def iU.at(p:iU b h a xs)(k:∀o,h.get? a=OV o->h'.get? a=OV o):iU b h' a xs:=by
 cases b with
 |false=>let(o,e,r):=p;show(o,k o e,r)
 |true=>let(o,e,r):=p;show(o,k o e,r)
def iV.at(p:iV b h it a i)(k:∀o,h.get? it=OV o->h'.get? it=OV o):iV b h' it a i:=by
 cases b with
 |false=>let(o,e,r):=p;show(o,k o e,r)
 |true=>let(o,e,r):=p;show(o,k o e,r)
def iU.obj(p:iU b h a xs):∃o n,h.get? a=OV o/\o.data=.seq xs n:=by
 cases b with
 |false=>let(o,e,_,n,d):=p;show(o,n,e,d)
 |true=>let(o,e,_,n,d):=p;show(o,n,e,d)
def iV.obj(p:iV b h it a i):∃o,h.get? it=OV o/\o.data=.fields #[.ref a,.int i 0]:=by
 cases b with
 |false=>let(o,e,_,d):=p;show(o,e,d)
 |true=>let(o,e,_,d):=p;show(o,e,d)
section
def yB(a:s.heap.IsTupleIter it t i)(ht:s.heap.IsTuple t items)(hx:items[i]?=some x)
  (hQ:∀h',h'.IsTupleIter it t (i+1)->gk it s.heap h'->Q x { s with heap:=h' }):j4 (kq prog w) A (eg (.ref it)) Q E s:=by let(o,ho,hc,hd):=id a;let(d,b,_,e,c):=ht;unfold eg;show jj (K0 (name:=fI "__next__") a.typeIs F.slot_tuple_iterator_next (Qb F.slot_tuple_iterator_next a.typeIs F.entry_tuple_iterator_next ?_ (F.args_tuple_iterator_next_1 _)));show j4 _ _ (Yc (.ref it) 0 >>= _) _ _ s;show jj (Qw ho hd (x:=.ref t) rfl ?_);show j4 _ _ (if (cu t==du)=OX then _ else _) _ _ s;rw[N7 (show ¬((cu t==du)=OX) from KH)];show j4 _ _ (Yc (.ref it) 1 >>= _) _ _ s;show jj (Qw ho hd (x:=.int i 0) rfl ?_);show j4 _ _ (seqItems? (.ref t) >>= _) _ _ s;show jj (QB b c ?_);simp only[K2,hx];show jj (Zn ho hd (!1) (js (x,rfl,js (hQ _ ?_ (dk ..)))));show(_,K9 _ ho (M5 (n6 hd _)),(Nu ..).trans hc,?_);rw[n6 hd];simp[Qt]
def pV(f:A.handled=none)(b:s.heap.IsTupleIter it t i)(ht:s.heap.IsTuple t items)(hx:items[i]?=none)
  (hE:∀h' e,yb it s.heap h'->(∃o,h'.get? e=some o/\o.cls=.type "StopIteration")->E (.ref e) { s with heap:=h' }):j4 (kq prog w) A (eg (.ref it)) Q E s:=by
 let(o,ho,hc,hd):=id b;let(g,c,_,h,d):=ht;unfold eg;show jj (K0 (name:=fI "__next__") b.typeIs F.slot_tuple_iterator_next (Qb F.slot_tuple_iterator_next b.typeIs F.entry_tuple_iterator_next ?_ (F.args_tuple_iterator_next_1 _)));show j4 _ _ (Yc (.ref it) 0 >>= _) _ _ s;show jj (Qw ho hd (x:=.ref t) rfl ?_);show j4 _ _ (if (cu t==du)=OX then _ else _) _ _ s;rw[N7 (show ¬((cu t==du)=OX) from KH)];show j4 _ _ (Yc (.ref it) 1 >>= _) _ _ s;show jj (Qw ho hd (x:=.int i 0) rfl ?_);show j4 _ _ (seqItems? (.ref t) >>= _) _ _ s;show jj (QB c d ?_);simp only[K2,hx];show jj (Qa (jj (Zn ho hd (!1) ?_)));show j4 _ _ (newExc (.type "StopIteration") [] >>= _) _ _ _;show jj ?_;simp only[newExc,newTuple];show jj (Ql ?_ (by size_fits));show jj (m:=Zp _ _) (wpAny_of_eq (a:=du) (by first|rfl|(simp only[Zp];rfl)) ?_);show Ql ?_ (by size_fits);simp only[raiseNew];show jj (wpAny_handled ?_)
 first|rw[show A.in1.handled=OW from f]|rw[f]
 show jj (js (wpAny_throw (hE _ _ (((dk ..).extBut.push _).push _) (_,KF _ rfl,rfl))))
def yC(c:iV b s.heap it a i)(d:iU b s.heap a items)(hx:items[i]?=some x)
  (hQ:∀h',iV b h' it a (i+1)->gk it s.heap h'->Q x { s with heap:=h' }):j4 (kq prog w) A (eg (.ref it)) Q E s:=by
 cases b with
 |false=>show QM c d hx hQ
 |true=>show yB c d hx hQ
def pW(d:A.handled=none)(c:iV b s.heap it a i)(f:iU b s.heap a items)(hx:items[i]?=none)
  (hE:∀h' e,yb it s.heap h'->(∃o,h'.get? e=some o/\o.cls=.type "StopIteration")->E (.ref e) { s with heap:=h' }):j4 (kq prog w) A (eg (.ref it)) Q E s:=by
 cases b with
 |false=>show Zk d c f hx hE
 |true=>show pV d c f hx hE
end
def ou(b:Bool)(f:A.handled=OW)(it a:ac)(c:a≠it)(items:OF) :
  Draws prog w A it [it,a] items.size (λi v=>items[i]?=OV v) (λi h=>iV b h it a i/\iU b h a items) where
 live:=λY Y st=>by let(o,e,_):=st.1.obj;show(o,e)
 frame:=λY Y Y st hk=>(st.1.at λo e=>hk it (!1) o e,st.2.at λo e=>hk a (!1) o e)
 item:=λi s Q E hi st hQ=>yC st.1 st.2 (x:=items[i]) (by simp[hi]) λh' st' d=>hQ _ h' s.toks (by simp[hi]) (st',st.2.at λo e=>d.extBut a o c e) d
 done:=λs Q E st hE=>pW f st.1 st.2 (!1) hE
def SqB(K:bg)(H:Hp):Bool->ac->OU->Prop
 |false,a,xs=>SqL K H a xs
 |true,a,xs=>SqT K H a xs
section
variable{X:Cx}{pins:Oq}{σ:St}{H:Hp}{s:az}
def Inv.seq(I:Inv X pins σ H s)(h:SqB X.K H b a xs):∃its:ON,aS xs its/\iU b s.heap a its.toArray:=by
 cases b with
 |false=>let(its,r,p,_):=I.list h;show(its,r,p.isList)
 |true=>let(its,r,p,_):=I.tuple h;show(its,r,p)
def Inv.seq_inj(I:Inv X pins σ H s)(h:SqB X.K H b a xs)(h':SqB X.K H b a ys):xs=ys:=by
 cases b with
 |false=>show I.list_inj h h'
 |true=>show I.tuple_inj h h'
def Inv.turnedN{fp:OO}{h':bb}{t':Nat}(I:Inv X pins σ H s)(d:∀b∈fp,kj X pins H b)(k:∀b o,b ∉ fp->s.heap.get? b=some o->h'.get? b=some o):Inv X pins σ H { s with heap:=h',toks:=t' }:=by
 let a:∀b u,H b=OV u->b ∉ fp:=λb u e z=>by rw[(d b z).1]at e;cases e
 show I.step (g':=s.gens) (d':=s.drawn) (ch:=fp) (λb f=>?_) (λb o Y Y hc e Y=>k b o hc e) (λb o Y Y hc e Y=>(o.slots,k b o hc e)) (λY Y Y Y n=>n) (λb o hc e=>(o,k b o hc e)) (λY Y e=>e) (λY Y Y e=>e)
  (λY Y e=>e) (λm g=>?_) (λb u e=>?_) I.bare
 let(p,h,t,i,j,l):=d b f;show(i,h,j,l);let(o,es,ep,ho,r):=g;show(o,es,ep,k _ o (λz=>(d _ z).2.1 rfl) ho,r);show(I.hok b u e).stay (λc v hc q=>k c v ?_ q) (λY q=>q) λY Y Y q=>q;rcases hc with z|z;rw[z];show a b u e;show a c _ z
def Inv.track(I:Inv X pins σ H s)(f:kj X pins H T)(new:fL X.prog X.w (upd H T o) s.heap T o):Inv X pins σ (upd H T o) s:=by
 cbv;let(g,h,p,i,j,k):=f;let a:∀b u,H b=OV u->b≠T:=λb u e z=>by rw[z,g]at e;cases e
 w_up;let q:=I.step (h':=s.heap) (H':=upd H T o) (g':=s.gens) (d':=s.drawn) (t':=s.toks) (ch:=[T]) (λb d=>by
   let e:b=T:=by simpa using d
   rw[e];show(i,h,j,k)) (λb o Y Y Y e Y=>e) (λb o Y Y Y e Y=>(o.slots,e)) (λb o' hc Y n=>by rw[aw (λz=>hc (by simp[z]))];show n) (λb o' Y e=>(o',e))
  (λb xs e=>by rw[aw (a b _ e)];show e) (λb o' u e=>by rw[aw (a b _ e)];show e) (λb ps e=>by rw[aw (a b _ e)];show e) (λm l=>l) (λb u e=>?_) I.bare
 show q;by_cases d:b=T;subst d;rw[aC]at e;cases e;show new;rw[aw d]at e;show(I.hok b u e).stay (λY Y Y q=>q) (λc q=>by rw[aw (a c _ q)];show q) λc xs Y q=>by rw[aw (a c _ q)];show q
end
def Ite(K:bg)(b:Bool)(a:ac):It :=
 (λi H=>∃xs x,SqB K H b a xs/\xs[i]?=OV x,λi H v H'=>∃p x,v=.ref p/\H p=OW/\H'=upd H p (.tup [.int i,x])/\∀xs,SqB K H b a xs->xs[i]?=OV x,λi H=>∃xs,SqB K H b a xs/\xs.length=i)
def uG{P:k5}{w:q3}{K:bg}{es:OS}{S:Nat}{pos:Pos}(b:Bool)(a it e:ac)(f:e≠it) :
  Df P w K (.Tuple es S pos) (Ite K b a) [e,it] e (λi h=>(∃old,IsEnum h e it i old)/\iV b h it a i) where
 mem:=!1
 obj := λi h st c hc=>by
  let((old,d),st):=st;rcases Kt.mp hc with rfl|hc;show(_,d,λv z=>by
   let U:Data.fields _=Data.cell v:=z;cases U)
  let C:c=it:=by simpa using hc
  subst C;let(o,ho,hd):=st.obj;show(o,ho,λv z=>by rw[hd]at z;cases z)
 keep:=λi h h' st k=>by
  let((old,d),st):=st;show((old,k e (!1) _ d),st.at λo q=>k it (!1) o q)
 item := by
  intro X hP hw hK hc i pins s σ H E I r st hg
  cbv;subst hP hw hK;let(xs,x,t,hx):=hg;let((old,d),st):=st;let(its,rv,n):=I.seq t;let(u,R,V):=rv.get hx;let(Y,Z,g,m):=n.obj;let(oi,B,D):=st.obj;let j:a≠it:=λz=>by rw[z,B]at g;cases g;rw[D]at m;cases m
  let F:e≠a:=λz=>by rw[<-z,d]at g;cases g;cases m
  w_up;let G:i<its.toArray.size:=by let:=(Kx.mp R).1;simpa using this
  show wpAny_pyNext_enum_itemD (ou (A:=X.A.in1) b (I.ok.hd hc) it a j its.toArray) d (st,n) G f (by simp[f,F]) λy h1 tk J p L hT hz hk=>?_;let ey:y=u:=by
   let:its[i]?=OV y:=by simpa using J
   rw[R]at this;show(di this).symm
  subst ey;show(_,rfl,wpAny_letOwnedTupleGo_enum p λh2 M l=>?_);let elt:e<(~~~s):=KB d;let N:it<(~~~s):=KB B;let I2:Inv X pins σ H { s with heap:=h2,toks:=tk+1 }:=I.turnedN r λc o hc q=>l.extBut c o (λz=>hc (by simp[z])) (hk c o (λz=>hc (by simp[z])) (λz=>hc (by simp[z])) q);let g2:h2.get? (~~~s)=OV { cls:=.type "tuple",data:=.seq #[.int i tk,y] }:=l.extBut _ _ (Lh elt) hT;let hn:H (~~~s)=OW:=I.hok.fresh (Kz _);show(.ref (~~~s),upd H (~~~s) (.tup [.int i,x]),I2.track (T:=(~~~s)) (o:=.tup [.int i,x]) (I.fpOk (Kz _) hn) ?_,rfl,?_,((y,M),?_),λc hc=>?_);show(by show 2<=sizeLine;decide,[.int i tk,y],.cons (tk,rfl) (.cons V .nil),_,g2,rfl,(_,rfl),rfl);show(_,x,rfl,hn,rfl,λys J=>by rw[I.seq_inj J t];show hx);show L.1.at λo q=>l.extBut it o (Ne.symm f) q;let:c<(~~~s):=by
   rcases Kt.mp hc with rfl|hc;show elt;let C:c=it:=by simpa using hc
   rw[C];show N
  rw[aw (KO this)];show(r c hc).1
 done:=by
  intro X hP hw hK hc i pins s σ H E I r st hg
  cbv;subst hP hw hK;let(xs,t,hx):=hg;let((old,d),st):=st;let(its,rv,n):=I.seq t;let(Y,Z,g,m):=n.obj;let(oi,B,D):=st.obj;let j:a≠it:=λz=>by rw[z,B]at g;cases g;rw[D]at m;cases m
  w_up;let hl:=-rv;let ez:its.toArray.size=i:=by simp;lia
  show wpAny_pyNext_enum_endD (ou (A:=X.A.in1) b (I.ok.hd hc) it a j its.toArray) d (by rw[ez];show(st,n)) λh' O=>(rfl,?_)
  show I.turnedN (t':=s.toks) r λc o hc q=>O c o (λz=>hc (by simp[z])) q
 self:=λA i s Q E st h=>by
  let((old,d),st):=st;show wpAny_pyIter_enum d h
abbrev qc(b:Bool)(a:ac):Obj:={ cls:=.type (if b then "tuple_iterator" else "list_iterator"),data:=.fields #[.ref a,.int 0 0] }
def yZ(e:h.get? it=OV (qc b a)):iV b h it a 0:=by
 cases b with
 |false=>show(_,e,rfl,rfl)
 |true=>show(_,e,rfl,rfl)
def nM(c:iU b s.heap a items)
  (hQ:Q (.ref s.heap.objs.size) { s with heap:=s.heap.push (qc b a) }):j4 (kq prog w) A (pyIter (.ref a)) Q E s:=by
 cases b with
 |false=>show QL c hQ
 |true=>show wpAny_pyIter_tuple c hQ
open AutoSeq1 (wpAny_loadPart') in
def Jsv{mm aa}{α}{vv:α}{qq ee ss}(h:∀v,qq v ss):j4 mm aa (pure vv) qq ee ss:=js (h _)
def wM(l:ac)(items:OF)(n:Nat)(dct:OC)(sl:Oh) :
  Meets (Builtin.«enumerate.__new__» ([.type "enumerate",.ref l],[])) (λY R s=>s.heap.get? l=some { cls:=.type "tuple",dict:=dct,data:=.seq items n,slots:=sl } /\
   R (.ok (.ret (.ref (s.heap.push (qc true l)).objs.size))) { s with heap:=(s.heap.push (qc true l)).push { cls:=.type "enumerate",data:=.fields #[.none,.bool false,.ref s.heap.objs.size,Qt 0,.none,.none] } }) :=
 .of_wp λprog w A R s h=>by
  let(e,g,d,tk,os):=s;let(a,h):=h;let b:=sub_enumerate;let hL:iU OX (Shared.heap (e,g,d,tk,os)) l items:=(_,a,rfl,n,rfl)
  wp_walk using wpAny_loadPart' a
  show wpAny_stack_any λst=>Jsv λc=>?_;cases c <;> (wp_walk using wpAny_loadPart' a,nM hL) <;> show(_,rfl,h)
section
variable{prog:k5}{w:q3}{A:Around}{E:ao->az->Prop}{s:az}
def wN(hL:iU b s.heap l items)
  (h : ∀h',IsEnum h' (s.heap.objs.size+1) s.heap.objs.size 0 .none->iV b h' s.heap.objs.size l 0->h'.objs.size=s.heap.objs.size+2->(∀c o,s.heap.get? c=some o->h'.get? c=some o)->Q (.ref (s.heap.objs.size+1)) { s with heap:=h' }) :
  j4 (kq prog w) A (call (.type "enumerate") [.ref l]) Q E s:=by
 cases b with
 |false=>show call_enumerate_list hL h
 |true =>
  let((c,dct,d,sl),e,hc,n,hd):=hL;replace hc:c=.type "tuple" := hc;replace hd:d=.seq items n:=hd;subst hc hd;show callType_new F.called_enumerate (!2) (F.typeCall_enumerate_1 _) (F.newCall_enumerate_1 _) (λobj=>F.args_object_init_2 obj _) F.entry_enumerate_new (wM l items n dct sl) (e,?_);let hz:(s.heap.push (qc OX l)).objs.size=(~~~s)+1:=LK ..;show _/\_;rw[hz];let a:IsEnum ((s.heap.push (qc OX l)).push { cls:=.type "enumerate",data:=.fields #[.none,.bool OY,.ref (~~~s),Qt 0,.none,.none] }) ((~~~s)+1) (~~~s) 0 .none:=by let q:=KF (s.heap.push (qc OX l)) (o:={ cls:=.type "enumerate",data:=.fields #[.none,.bool OY,.ref (~~~s),Qt 0,.none,.none] }) rfl;rw[hz]at q;show q
  show((_,a,rfl),h _ a (yZ (Kq _ (KF _ rfl))) (by rw[LK,hz]) λc o x=>Kq _ (Kq _ x))
end
section
def Fj(K:bg)(b:Bool)(ta:TA):TI:=λσ H R=>ta σ H λvs H1=>∃a xs,vs=[.ref a]/\SqB K H1 b a xs/\R (Ite K b a) H1
def BN(b:Bool)(hg:Gl X "enumerate")(n:X.mg "enumerate" = none)(g:Qz "enumerate" = some (.type "enumerate"))(o:PA X [a] ta)(hs:j0 [a] X.env=[(false,eval a X.env)]:=by rfl) :
  PI X (.Tuple es m f) (.Call (.Name "enumerate" p) [a] [] pos) (Fj X.K b ta):=by
 intro pins s σ H R I h;show Call_ (gS I hg n g (fx (thn (o pos pins s σ H _ I h) λus s1 i=>?_) hs rfl))
 cbv;let(vs,H1,d,r,q1):=i;let(l,xs,rfl,t,q):=q1;let(u,rfl,v):=iQ r
 w_up;cases (show u=cu l from v);let(its,rv,hL):=d.seq t;show wN hL λh' k j hz hk=>wpAny_pyIter_enum k ?_;let w:Inv X pins σ H1 { s1 with heap:=h' }:=d.kept (t':=s1.toks) hk;show((~~~s1)+1,[(~~~s1)+1,(~~~s1)],_,_,H1,rfl,w,uG b l (~~~s1) ((~~~s1)+1) (Lh (ci _)),((_,k),j),λc hc=>?_,q);rcases Kt.mp hc with rfl|hc;show d.fpOk (LD _) (d.hok.fresh (LD _));let e:c=(~~~s1):=by simpa using hc
 rw[e];show d.fpOk (Kz _) (d.hok.fresh (Kz _))
end
def SnL(K:bg)(N:ac->Prop)(H:Hp)(a:ac)(xs:OU):Prop :=
 (Rd H a (.lst xs)/\¬N a)\/∃(o:Obj) (its:OF) (n:Nat),K.lookup a=OV o/\o.cls=.type "list" /\ o.dict=OW/\o.data=.seq its n/\its.size<=sizeLine/\aS xs its.toList
def SnT(K:bg)(N:ac->Prop)(H:Hp)(a:ac)(xs:OU):Prop :=
 (Rd H a (.tup xs)/\¬N a)\/∃(o:Obj) (its:OF) (n:Nat),K.lookup a=OV o/\(o.cls=.type "tuple" /\ o.dict=OW)/\o.data=.seq its n/\its.size<=sizeLine/\aS xs its.toList
def bd(N:ac->Prop)(H H':Hp):Prop:=∀b o,¬N b->H b=OV o->H' b=OV o
def bd.refl:bd N H H:=λY Y Y e=>e
def bd.trans(a:bd N H H1)(b:bd N H1 H2):bd N H H2:=λc o n e=>b c o n (a c o n e)
def bd.own(h:N p):bd N H (upd H p o):=λb u n e=>by
 let q:b≠p:=λz=>n (by rw[z];show h);rw[aw q];show e
def bd.mono(a:bd N H H')(h:∀b,N b->M b):bd M H H':=λb o n e=>a b o (λz=>n (h b z)) e
def bd.same(a:bh H H'):bd N H H':=λb o Y e=>a b o e
abbrev N0:ac->Prop:=λY=>False
abbrev N1(d:ac):ac->Prop:=λb=>b=d
def bd.none(a:bd N0 H H'):bh H H':=λb o e=>a b o (λz=>z) e
section
variable{K:bg}{N M:ac->Prop}{H H':Hp}{a:ac}{xs:OU}
def SnL.of(h:H a=OV (.lst xs))(n:¬N a):SnL K N H a xs:=.inl (.inl h,n)
def SnT.of(h:H a=OV (.tup xs))(n:¬N a):SnT K N H a xs:=.inl (.inl h,n)
def SnL.sq(h:SnL K N H a xs):SqL K H a xs:=by rcases h with⟨h,_⟩|h;show .inl h;show .inr h
def SnT.sq(h:SnT K N H a xs):SqT K H a xs:=by rcases h with⟨h,_⟩|h;show .inl h;show .inr h
def SnL.keep(h:SnL K N H a xs)(k:bd N H H'):SnL K N H' a xs:=by rcases h with⟨h|⟨o,h⟩,n⟩|h;show .inl (.inl (k _ _ n h),n);show .inl (.inr (o,k _ _ n h),n);show .inr h
def SnT.keep(h:SnT K N H a xs)(k:bd N H H'):SnT K N H' a xs:=by rcases h with⟨h|⟨o,h⟩,n⟩|h;show .inl (.inl (k _ _ n h),n);show .inl (.inr (o,k _ _ n h),n);show .inr h
def SnL.to(h:SnL K N H a xs)(m:∀b o,H b=OV o->M b->N b):SnL K M H a xs:=by rcases h with⟨h|⟨o,h⟩,n⟩|h;show .inl (.inl h,λz=>n (m _ _ h z));show .inl (.inr (o,h),λz=>n (m _ _ h z));show .inr h
def SnT.to(h:SnT K N H a xs)(m:∀b o,H b=OV o->M b->N b):SnT K M H a xs:=by rcases h with⟨h|⟨o,h⟩,n⟩|h;show .inl (.inl h,λz=>n (m _ _ h z));show .inl (.inr (o,h),λz=>n (m _ _ h z));show .inr h
end
mutual
inductive DN (K:bg) (N:ac->Prop) (H:Hp):V->ab->Prop
 |non:DN K N H .non .none
 |bl (b:Bool):DN K N H (.bl b) (.bool b)
 |int (i:Int):DN K N H (.int i) (.int i)
 |lst {a:ac}{xs:OU}{ds:OM}:SnL K N H a xs->DNs K N H xs ds->DN K N H (.ref a) (.list ds)
 |tup {a:ac}{xs:OU}{ds:OM}:SnT K N H a xs->DNs K N H xs ds->DN K N H (.ref a) (.tuple ds)
 |dct {a:ac}{es:Oo}{kvs:Ou}:¬N a->H a=some (.ext (bf a es))->DNs K N H (es.map λp=>V.ref p.2.1) (kvs.map λp=>aN p.1)->DNs K N H (es.map λp=>p.2.2) (kvs.map λp=>p.2)->es.map (λp=>p.1)=kvs.map (λp=>p.1)->DN K N H (.ref a) (br kvs)
 |idc {a:ac}{es:Ow}{kvs:Os}:¬N a->H a=some (.ext (be a es))->DNs K N H (es.map λp=>p.2) (kvs.map λp=>p.2)->es.map (λp=>p.1)=kvs.map (λp=>p.1)->DN K N H (.ref a) (dY kvs)
 |fz {v:V}{ds:OM}:DN K N H v (.list ds)->DN K N H v (fzD ds)
inductive DNs (K:bg) (N:ac->Prop) (H:Hp):OU->OM->Prop
 |nil:DNs K N H [] []
 |cons {x:V}{xs:OU}{d:ab}{ds:OM}:DN K N H x d->DNs K N H xs ds->DNs K N H (x::xs) (d::ds)
end
section
variable{K:bg}{N M:ac->Prop}{H H':Hp}
def DN.dv(h:DN K N H v d):DV K H v d :=
 DN.rec (motive_1:=λv d Y=>DV K H v d) (motive_2:=λv d Y=>DVs K H v d)
 .non (λb=>.bl b) (λi=>.int i)
 (λh Y q=>.lst h.sq q) (λh Y q=>.tup h.sq q)
 (λY h Y Y e q r=>.dct h q r e) (λY h Y e q=>.idc h q e) (λY h=>.fz h) .nil (λY Y h q=>.cons h q) h
def DNs.dv(h:DNs K N H v d):DVs K H v d :=
 DNs.rec (motive_1:=λv d Y=>DV K H v d) (motive_2:=λv d Y=>DVs K H v d)
 .non (λb=>.bl b) (λi=>.int i)
 (λh Y q=>.lst h.sq q) (λh Y q=>.tup h.sq q)
 (λY h Y Y e q r=>.dct h q r e) (λY h Y e q=>.idc h q e) (λY h=>.fz h) .nil (λY Y h q=>.cons h q) h
theorem DN.keep(k:bd N H H')(h:DN K N H v d):DN K N H' v d :=
 DN.rec (motive_1:=λv d Y=>DN K N H' v d) (motive_2:=λv d Y=>DNs K N H' v d)
 .non (λb=>.bl b) (λi=>.int i)
 (λh Y q=>.lst (h.keep k) q) (λh Y q=>.tup (h.keep k) q)
 (λn h Y Y e q r=>.dct n (k _ _ n h) q r e) (λn h Y e q=>.idc n (k _ _ n h) q e) (λY h=>.fz h) .nil (λY Y h q=>.cons h q) h
theorem DNs.keep(k:bd N H H')(h:DNs K N H v d):DNs K N H' v d :=
 DNs.rec (motive_1:=λv d Y=>DN K N H' v d) (motive_2:=λv d Y=>DNs K N H' v d)
 .non (λb=>.bl b) (λi=>.int i)
 (λh Y q=>.lst (h.keep k) q) (λh Y q=>.tup (h.keep k) q)
 (λn h Y Y e q r=>.dct n (k _ _ n h) q r e) (λn h Y e q=>.idc n (k _ _ n h) q e) (λY h=>.fz h) .nil (λY Y h q=>.cons h q) h
theorem DN.to(m:∀b o,H b=OV o->M b->N b)(h:DN K N H v d):DN K M H v d :=
 DN.rec (motive_1:=λv d Y=>DN K M H v d) (motive_2:=λv d Y=>DNs K M H v d)
 .non (λb=>.bl b) (λi=>.int i)
 (λh Y q=>.lst (h.to m) q) (λh Y q=>.tup (h.to m) q)
 (λn h Y Y e q r=>.dct (λz=>n (m _ _ h z)) h q r e) (λn h Y e q=>.idc (λz=>n (m _ _ h z)) h q e) (λY h=>.fz h) .nil (λY Y h q=>.cons h q) h
theorem DNs.to(m:∀b o,H b=OV o->M b->N b)(h:DNs K N H v d):DNs K M H v d :=
 DNs.rec (motive_1:=λv d Y=>DN K M H v d) (motive_2:=λv d Y=>DNs K M H v d)
 .non (λb=>.bl b) (λi=>.int i)
 (λh Y q=>.lst (h.to m) q) (λh Y q=>.tup (h.to m) q)
 (λn h Y Y e q r=>.dct (λz=>n (m _ _ h z)) h q r e) (λn h Y e q=>.idc (λz=>n (m _ _ h z)) h q e) (λY h=>.fz h) .nil (λY Y h q=>.cons h q) h
def DNs.ind{C:OU->OM->Prop}(n:C [] [])(c:∀{x:V}{xs:OU}{d:ab}{ds:OM},DN K N H x d->DNs K N H xs ds->C xs ds->C (x::xs) (d::ds)){v:OU}{d:OM}(h:DNs K N H v d):C v d :=
 DNs.rec (motive_1:=λY Y Y=>True) (motive_2:=λv d Y=>C v d) trivial (λY=>trivial) (λY=>trivial)
 (λY Y Y=>trivial) (λY Y Y=>trivial)
 (λY Y Y Y Y Y Y=>trivial) (λY Y Y Y Y=>trivial) (λY Y=>trivial) n (λh q Y i=>c h q i) h
def DNs.len(h:DNs K N H v d):-v=-d:=DNs.ind (C:=λv d=>-v=-d) rfl (λY Y i=>by rw[K4,K4,i]) h
def DNs.get{v:OU}{d:OM}{i:Nat}{x:V}(h:DNs K N H v d):v[i]?=OV x->∃e,d[i]?=OV e/\DN K N H x e :=
 DNs.ind (C:=λv d=>∀i,v[i]?=OV x->∃e,d[i]?=OV e/\DN K N H x e) (λi e=>by simp at e) (λh Y z i e=>by
  cases i with
  |zero=>simp at e;subst e;show(_,rfl,h)
  |succ i=>let(d,h1,h2):=z i (by simpa using e);show(d,by simpa using h1,h2)) h i
def DNs.app(h:DNs K N H v d)(q:DNs K N H w e):DNs K N H (v++w) (d++e):=DNs.ind (C:=λv d=>DNs K N H (v++w) (d++e)) q (λh Y i=>.cons h i) h
abbrev pI(ns:OD):ab:=.list (ns.map .int)
abbrev pT(ns:OD):ab:=.tuple (ns.map .int)
theorem sO:∀ns:OD,DNs K N H (ns.map V.int) (ns.map .int)
 |[]=>.nil
 |n::r=>.cons (.int n) (sO r)
def DVs.map_int{K:bg}{H:Hp}{ns:OD}{xs:OU}(h:DVs K H xs (ns.map .int)):xs=ns.map V.int:=by
 induction ns generalizing xs with
 |nil=>cases h;rfl
 |cons n ns i =>
  cases h with
  |cons h t=>rw[i t,h.intI];rfl
def DNs.ints{ns:OD}{v:OU}(h:DNs K N H v (ns.map .int)):v=ns.map V.int:=h.dv.map_int
def DN.ofI(h:SnL K N H a (ns.map V.int)):DN K N H (.ref a) (pI ns):=.lst h (sO ns)
theorem DN.list(h:DN K N H v (.list ds)):∃a xs,v=.ref a/\SnL K N H a xs/\DNs K N H xs ds:=by cases h with|lst h q=>show(_,_,rfl,h,q)
theorem DN.tuple(h:DN K N H v (.tuple ds)):∃a xs,v=.ref a/\SnT K N H a xs/\DNs K N H xs ds:=by cases h with|tup h q=>show(_,_,rfl,h,q)
def DN.of2(s:SnT K N H a [x,y])(h1:DN K N H x d)(h2:DN K N H y e):DN K N H (.ref a) (.tuple [d,e]):=.tup s (.cons h1 (.cons h2 .nil))
abbrev Iz(S:Int×OD):ab:=.tuple [.int S.1,pT S.2]
end
theorem gu:∀a b:OD,ef (a.map .int) (b.map .int)=decide (a=b)
 |[],[]=>by simp[ef]
 |[],_::_=>by simp[ef]
 |_::_,[]=>by simp[ef]
 |x::a,y::b=>by
  rw[Kw,Kw,ef,gu a b];simp only[eu];by_cases h:x=y <;> by_cases h':a=b <;> simp[h,h']
def Fw(a b:OD):eu (pI a) (pI b)=decide (a=b):=by show ef _ _=_;show gu a b
def Fv(a b:OD):eu (pT a) (pT b)=decide (a=b):=by show ef _ _=_;show gu a b
def wL(S T:Int×OD):eu (Iz S) (Iz T)=decide (S=T):=by show ef [.int S.1,pT S.2] [.int T.1,pT T.2]=_;let e1:eu (.int S.1) (.int T.1)=(S.1==T.1):=rfl;rw[ef,ef,ef,Fv,e1];by_cases h:S.1=T.1 <;> by_cases h':S.2=T.2 <;> simp[h,h',Prod.ext_iff]
def se(a:OD):ew (a.map .int)=OX:=PySem.W.ke_canLayAll0 a
def mj(a:OD):nn (a.map .int)=0:=PySem.W.ke_depthAll a
def GL(a:OD):shp (pI a):=by simp[shp,ir,dy,m3,se,mj]
def GK(a:OD):shp (pT a):=by simp[shp,ir,dy,m3,se,mj]
def Cal(P:k5)(w:q3)(K:bg)(mg:bc->OB)(base:bb)(x:bc)(k:Nat)(sp:Sp):Prop :=
 ∃(f:ac) (fd:k3) (ps:OP),cg P w K mg base CX0 k f fd ps sp/\gY K fd ps []/\mu K (.ref f)=OX/\mg x=OV (.ref f)
section
variable{X:Cx}{x:bc}{p pos:Pos}{e:ba}{es:OS}{t:TA}{k:Nat}{sp:Sp}
def vJ(C:Cal X.prog X.w X.K X.mg X.base x k sp)(c:fb k X.A)(hg:Gl X x)(d:PA X (e::es) t)(hd:(x==("__debug__" : bc))=false:=by decide)
  (g:j0 (e::es) X.env=(false,eval e X.env)::j0 es X.env:=by rfl) (a:(z4 pos (j0 es X.env)).any (·.1)=false:=by rfl):PE X (.Call (.Name x p) (e::es) [] pos) (uK sp [] E0 t):=by let(f,fd,ps,F,b,kp,m):=C;show BU F c hg m kp b .nil G6 d hd g a
end
noncomputable def bOk(N:OP)(sc0:Qq)(N':OP)(ix:Og)(sc:Qq):Bool :=
 decide (sc.kind=.function)&&decide ((sc.names.map (·.1)).Nodup)&&sc.names.all (λy=>!(y.2==.free) ||decide (sc0.names.lookup y.1=OV .cell) ||decide (sc0.names.lookup y.1=OV .free))&&decide (-ix=-N') &&
 (ix.zip N').all λq=>match q.1 with
  |none=>OX
  |some j=>decide (N[j]?=OV q.2)&&decide (sc.names.lookup q.2=OV .free)
def zF{X:Cx}(hN:X.N=N)(h0:X.env.scope=sc0)(h:bOk N sc0 N' ix sc=OX):dB X.N X.env N' ix sc:=by
 rw[<-hN]at h;unfold bOk at h;simp only[Ll,decide_eq_true_eq]at h;let((((h1,h2),h3),h4),h5):=h;show(h1,h2,λy c d=>?_,h4,λi j a=>?_);let q:=Mm.mp h3 y c;rw[d]at q;let e:∀z,X.env.kindOf z=sc0.names.lookup z:=λz=>by
  show X.env.scope.names.lookup z=_;rw[h0]
 rw[e];simpa using q;let hi:i< -ix:=(Kx.mp a).1;let b:i< -N':=!0
 let f:(OV j,N'[i])∈ix.zip N':=by rw[Mj];show(i,?_);rw[LG];show(a,Kk b)
 let q:=Mm.mp h5 _ f;simp only[Ll,decide_eq_true_eq]at q;show(N'[i],Kk b,q.1,q.2)
def HX{X:Cx}{N1 N':OP}{ix:Og}{a sc:Qq}{s:az}{H:Hp}{C:ac}{fp:OO}(h:bOk N1 a N' ix sc=OX):dB (bCx X N1 a s H C fp).N (bCx X N1 a s H C fp).env N' ix sc:=by
 unfold bOk at h;simp only[Ll,decide_eq_true_eq]at h;let((((h1,h2),h3),h4),h5):=h;show(h1,h2,λy d e=>?_,h4,λi j b=>?_);let q:=Mm.mp h3 y d;rw[e]at q;let q':a.names.lookup y.1=OV .cell\/a.names.lookup y.1=OV .free:=by simpa using q
 rcases q' with q'|q';show .inl (by rw[show(bCx X N1 a s H C fp).env.kindOf y.1=_ from fJ (C:=C) (env:=X.env) q'];rfl);rw[show(bCx X N1 a s H C fp).env.kindOf y.1=_ from fJ (C:=C) (env:=X.env) q'];split;show .inl rfl;show .inr rfl;let hi:i< -ix:=(Kx.mp b).1;let c:i< -N':=!0
 let f:(OV j,N'[i])∈ix.zip N':=by rw[Mj];show(i,?_);rw[LG];show(b,Kk c)
 let q:=Mm.mp h5 _ f;simp only[Ll,decide_eq_true_eq]at q;show(N'[i],Kk c,q.1,q.2)
structure Bn(mg:bc->OB):Prop where
 len:mg "len" = none
 range:mg "range" = none
 min:mg "min" = none
 max:mg "max" = none
 enumerate:mg "enumerate" = none
 zip:mg "zip" = none
 all:mg "all" = none
 any:mg "any" = none
 isinstance:mg "isinstance" = none
 bool:mg "bool" = none
 int:mg "int" = none
 list:mg "list" = none
 tuple:mg "tuple" = none
 sorted:mg "sorted" = none
 str:mg "str" = none
 sum:mg "sum" = none
 abs:mg "abs" = none
 reversed:mg "reversed" = none
 dict:mg "dict" = none
def bh.new(h:H p=OW):bh H (upd H p o):=λb u e=>by rw[aw (aL e h)];show e
def Cal.mk{P:k5}{w:q3}{K:bg}{mg:bc->OB}{base:bb}{x:bc}{st:Stmt}{f:ac}{fd:k3}{k:Nat}{ps:OP}{sp:Sp}(F:Fun K x x st f fd)(m:mg x=OV (.ref f))(b:gY K fd ps [])
  (G : cg P w K mg base CX0 k f fd ps sp):Cal P w K mg base x k sp:=(f,fd,ps,G,b,F.kp,m)
def ai:1000000<=sizeLine:=!2
section
variable{X:Cx}{K:bg}(hK:X.K=K)
include hK
def J1:fM X (.builtin "len") (λxs H Q=>∃p ys,xs=[.ref p]/\(SqL K H p ys\/SqT K H p ys)/\Q (.int (-ys)) H):=by subst hK;show oH
def J0:SlR X (Iv K):=by subst hK;show Bf
def Hm:OpR X (Qs .Add) (D7 K):=by subst hK;show B0
def F9(a:X.A.units+64<KI):OpR X (zs .Eq) (GT K):=by subst hK;show EJ a
def Fd(a:X.A.units+64<KI):OpR X (zs .NotEq) (GR K):=by subst hK;show EG a
def kIn:OpR X (zs .In) (rIn K OY):=by subst hK;show vQ
def Fc:OpR X (zs .NotIn) (rIn K OX):=by subst hK;show ng
def Hk:fM X (.type "list") (λxs H Q=>∃p ys,xs=[.ref p]/\(SqL K H p ys\/SqT K H p ys)/\∀l,H l=OW->Q (.ref l) (upd H l (.lst ys))):=by subst hK;show oG
def Fb:fM X (.type "tuple") (λxs H Q=>∃p ys,xs=[.ref p]/\((SqL K H p ys/\∀l,H l=OW->Q (.ref l) (upd H l (.tup ys)))\/(SqT K H p ys/\Q (.ref p) H))):=by subst hK;show mx
variable{tg:ba}
def EX(a:PE X l tl):PI X tg l (y3 K tl):=by subst hK;show vD a
def EY(b:Bool)(hg:Gl X "enumerate")(e:X.mg "enumerate" = none)(f:PA X [a] ta)(hs:j0 [a] X.env=[(false,eval a X.env)]:=by rfl) :
  PI X (.Tuple es d c) (.Call (.Name "enumerate" p) [a] [] pos) (Fj K b ta):=by subst hK;show BN b hg e PyProof.Rows.boot_enumerate f hs
def Hj{pos:Pos}{es:OS}{k:Nat}{t:TGs}{n:Nat}(hc:X.calm=true)(h:PGs X es t)(hn:(Qh es X.env).length=n:=by rfl)(a:(Qh es X.env).findIdx? (·.1)=none:=by rfl):PG X (.Tuple es k pos) (IL K n t):=by subst hK;show Ew hc h hn a
def Ao(c:PE X a ta)(d:∀b,Zo a X.env b=(do let v <-b;Q0 a.pos;Qo [v] (ZX v))):PT X a (λσ H Q=>ta σ H λx H'=>∃k,Gq K x H' k/\Q k H'):=by subst hK;show yo c d
variable{o e:ba}{es:OS}{to:TE}{t:TA}{name:bc}{apos cpos:Pos}{T id:String}{r:V->OU->Hp->VK->Prop}
def Hn(pa:Zf T)(slot:Slot T name id)(c:Yg (.builtin id)=pure (.type "method_descriptor"))(d:MtR X id r)(ho:PE X o to)
  (a:z5 o name X.env (eval o X.env)=eval o X.env:=by rfl) (b:(apos.endLine==cpos.line)=true:=by rfl):PE X (.Call (.Attribute o name apos) [] [] cpos) (Iq K T r to):=by subst hK;show EC pa slot c d ho a b
def kBm(pa:Zf T)(slot:Slot T name id)(f:Yg (.builtin id)=pure (.type "method_descriptor"))(g:MtR X id r)(ho:PE X o to)(h:PA X (e::es) t)
  (b:z5 o name X.env (eval o X.env)=eval o X.env:=by rfl)
  (d:((z4 cpos (j0 (e::es) X.env)).all (λx=>!x.1)&&(QD cpos (Qk [] X.env)).all (λx=>x.1.isSome)&&decide ((e::es).length+([]:OR).length+(if ([]:OR).isEmpty then 0 else 1)<30))=true:=by rfl)
  (c:(apos.endLine==cpos.line)=true:=by rfl) (hs:j0 (e::es) X.env=(false,eval e X.env)::j0 es X.env:=by rfl) (a:(z4 cpos (j0 es X.env)).any (·.1)=false:=by rfl) :
  PE X (.Call (.Attribute o name apos) (e::es) [] cpos) (tBM K T r to t):=by subst hK;show ED pa slot f g ho h b d c hs a
end
def iG(a:fb k A):A.units+80<KI:=by let:=a.un;lia
def wu(h:j<n):ixN n (j:Int)=OV j:=by unfold ixN;rw[N6 (!0),N6 (!0),K2]
def JL(t u:TS):TS:=λD σ H=>∃R:St->Hp->Prop,t { D with nx:=R } σ H/\∀σ' H',R σ' H'->u D σ' H'
def BE{X:Cx}{st:Stmt}{rest:List Stmt}{t u:TS}(h1:PS X st t)(h2:PSs X rest u):PSs X (st::rest) (JL t u):=by
 intro pins s σ H D I h;let(R,h,hR):=h;show ZJ (thn (h1 pins s σ H { D with nx:=R } I h) λf s1 q=>?_);cases f with
 |next =>
  let(σ',H',a,q):=q;show h2 pins s1 σ' H' D a (hR _ _ q)
 |ret v=>show q
 |brk=>show q
 |cont=>show q
def nB{α:Type}{x:α}{l:List α}(h:x∈l.dropLast):x∈l:=by rw[ri]at h;show LX h
def bd.put(k:bd N H H')(h:H p=Option.none):bd N H (upd H' p o):=λb u n e=>by
 rw[aw (aL e h)];show k b u n e
def DN.sqL{K:bg}{H:Hp}{a:ac}{ns:OD}(h:SqL K H a (ns.map V.int)):DN K N0 H (.ref a) (pI ns):=DN.ofI (by
 rcases h with h|h;show .inl (h,λz=>z);show .inr h)
section
variable{κ β:Type}[DecidableEq κ]
noncomputable def aJ(kvs:List (κ×β))(k:κ):Option β:=(kvs.find? λp=>decide (p.1=k)).map (·.2)
def c7(kvs:List (κ×β))(k:κ)(v:β):List (κ×β):=if (aJ kvs k).isSome=OX then kvs.map λp=>if p.1=k then (p.1,v) else p else kvs++[(k,v)]
def zb(k:κ):aJ ([]:List (κ×β)) k=OW:=rfl
def aq(p:κ×β)(kvs:List (κ×β))(k:κ):aJ (p::kvs) k=if p.1=k then OV p.2 else aJ kvs k:=by unfold aJ;rw[Lc];by_cases h:p.1=k <;> simp[h]
def rn(kvs:List (κ×β))(k:κ)(v:β):(c7 kvs k v).length<=-kvs+1:=by unfold c7;split <;> simp
end
def Ih(K:bg)(H:Hp)(v:V)(kvs:Ou):Prop :=
 ∃a es,v=.ref a/\H a=OV (.ext (bf a es))/\DVs K H (es.map λp=>V.ref p.2.1) (kvs.map λp=>aN p.1)/\DVs K H (es.map λp=>p.2.2) (kvs.map λp=>p.2)/\es.map (λp=>p.1)=kvs.map (λp=>p.1)
section
variable{X:Cx}{pins:Oq}{σ:St}{H:Hp}{s:az}{a b:ac}{k:ar}
theorem qJ:∀{ns:OD}{us:ON},aS (ns.map V.int) us->ItemsAre (Qf X.prog X.w) ns us
 |[],us,h=>by cases h;show .nil
 |n :: ns,us,h=>by
  cases h with
  |cons r t =>
   let(tt,rfl):=r;show .cons (bT n tt) (qJ t)
def fe(I:Inv X pins σ H s)(h:DV X.K H x (aN k))(r:bE x u):∃b,x=.ref b/\u=.ref b/\cQ X.prog X.w s.heap k b:=by
 cbv;let(d,l):=k;let(b,xs,rfl,sq,q):=DV.tupI (h:DV X.K H x (.tuple _));let(v1,A,rfl,h1,h2):=q.twoI;let(c,ys,rfl,g,q2):=h2.tupI;let(its,rv,(o,e,cl,n,hd),_):=I.tuple sq;let(a,f,(p,e2,i,v,j),_):=I.tuple g;rw[DVs.map_int q2]at f;let(B,y,rfl,m,z):=tH rv;rw[h1.intI]at m;let(t,rfl):=m;let e3:y=cu c:=z;let e4:u=cu b:=r;subst e3 e4
 w_up;show(b,rfl,rfl,o,t,c,n,e,cl,hd,p,a.toArray,v,e2,i,j,by simpa using qJ f)
def sk(I:Inv X pins σ H s){es:Oo}{xs:On}{kvs:Ou}(h:Paired (λ(p:ar×ac×V) (q:ar×ac×ao)=>p.1=q.1/\p.2.1=q.2.1/\bE p.2.2 q.2.2) es xs):DVs X.K H (es.map λp=>V.ref p.2.1) (kvs.map λp=>aN p.1)->es.map (λp=>p.1)=kvs.map (λp=>p.1) ->
  ∀x∈xs,cQ X.prog X.w s.heap x.1 x.2.1:=by
 induction h generalizing kvs with
 |nil=>exactλY Y x hx=>by cases hx
 |@cons p q _ _ r t z =>
  intro h e;cases kvs with
  |nil=>simp at e
  |cons kv kvs =>
   rw[Kw,Kw]at h e;injection e with e1 e2;cases h with
   |cons h1 h2 =>
    intro x hx;rcases Kt.mp hx with rfl|hx
    .cbv;let(b,z,_,st):=fe I h1 (u:=.ref p.2.1) rfl;cases z
     w_up;rw[<-r.1,<-r.2.1,e1];show st
    show z h2 e2 x hx
def dct_of(I:Inv X pins σ H s){es:Oo}{kvs:Ou}(b:H a=OV (.ext (bf a es)))(hk:DVs X.K H (es.map λp=>V.ref p.2.1) (kvs.map λp=>aN p.1))(e:es.map (λp=>p.1)=kvs.map (λp=>p.1)) :
  (-es)<=sizeLine/\(a==Qd)=OY/\∃xs,Paired (λ(p:ar×ac×V) (q:ar×ac×ao)=>p.1=q.1/\p.2.1=q.2.1/\bE p.2.2 q.2.2) es xs/\fZ X.prog X.w s.heap a xs:=by let((z,y,xs,r,o,ds,ep,h1,h2,h3,h4,h5),_):=I.hok a _ b;show(z,y,xs,r,o,ds,ep,h1,h2,h3,h4,sk I r hk e,h5)
def xp{es:Oo}{xs:On}{kvs:Ou}{K:bg}(k:ar)
  (c:Paired (λ(p:ar×ac×V) (q:ar×ac×ao)=>p.1=q.1/\p.2.1=q.2.1/\bE p.2.2 q.2.2) es xs) (e:es.map (λp=>p.1)=kvs.map (λp=>p.1)) (h:DVs K H (es.map λp=>p.2.2) (kvs.map λp=>p.2)) :
  (aJ kvs k=OW/\QJ xs k=OW)\/∃(i:Nat) (d:ab) (v:V) (b:ac) (u:ao),aJ kvs k=OV d/\QJ xs k=OV (b,u)/\(es.map λp=>p.2.2)[i]?=OV v/\(kvs.map λp=>p.2)[i]?=OV d/\bE v u:=by
 induction c generalizing kvs with
 |nil =>
  cases kvs with
  |nil=>show .inl (rfl,rfl)
  |cons kv kvs=>simp at e
 |@cons p q es xs r t f =>
  cases kvs with
  |nil=>simp at e
  |cons kv kvs =>
   rw[Kw,Kw]at e h;injection e with e1 e2;cases h with
   |cons h1 h2 =>
    by_cases hk:kv.1=k;let a:q.1=k:=by rw[<-r.1,e1,hk]
    show .inr (0,kv.2,p.2.2,q.2.1,q.2.2,by rw[aq,N6 hk],?_,rfl,rfl,r.2.2);simp[QJ,Lc,a];let a:¬q.1=k:=λz=>hk (by rw[<-e1,r.1,z]);let g:aJ (kv::kvs) k=aJ kvs k:=by rw[aq,N7 hk]
    let j:QJ (q::xs) k=QJ xs k:=by simp[QJ,Lc,a]
    rw[g,j];rcases f e2 h2 with z|⟨i,d,v,b,u,z1,z2,z3,l,m⟩
    show .inl z;show .inr (i+1,d,v,b,u,z1,z2,by simpa using z3,by simpa using l,m)
end
section
def GS(K:bg):R2:=λx y H Q=>∃(k:ar) (kvs:Ou),DV K H x (aN k)/\Ih K H y kvs/\Q (.bl (aJ kvs k).isSome) H
def pE(K:bg):R2:=λx y H Q=>∃(k:ar) (kvs:Ou),DV K H x (aN k)/\Ih K H y kvs/\Q (.bl (!(aJ kvs k).isSome)) H
def EH(c:X.A.units+2<KI):OpR X (zs .In) (GS X.K):=by
 intro pins s σ H x y v u Q I f g h;let(k,kvs,j,(a,es,rfl,l,hk,hv,e),q):=h;cases (show u=cu a from g);let(b,rfl,rfl,st):=fe I j f;let(z,y,xs,r,dd):=dct_of I l hk e;show wpAny_in_heap (knd:=a8 X.prog X.w) (eG c) st y dd.of ?_;let:(QJ xs k).isSome=(aJ kvs k).isSome:=by
  rcases xp k r e hv with⟨z1,z2⟩|⟨i,d,v,b,u,z1,z2,_⟩
  rw[z1,z2];rfl;rw[z1,z2];rfl
 rw[this];show(.bl _,H,I.tok _,rfl,q)
def vP(c:X.A.units+2<KI):OpR X (zs .NotIn) (pE X.K):=by
 intro pins s σ H x y v u Q I f g h;let(k,kvs,j,(a,es,rfl,l,hk,hv,e),q):=h;cases (show u=cu a from g);let(b,rfl,rfl,st):=fe I j f;let(z,y,xs,r,dd):=dct_of I l hk e;show wpAny_notIn_heap (knd:=a8 X.prog X.w) (eG c) st y dd.of ?_;let:(QJ xs k).isSome=(aJ kvs k).isSome:=by
  rcases xp k r e hv with⟨z1,z2⟩|⟨i,d,v,b,u,z1,z2,_⟩
  rw[z1,z2];rfl;rw[z1,z2];rfl
 rw[this];show(.bl _,H,I.tok _,rfl,q)
def D3(K:bg):R2:=λx y H Q=>∃(k:ar) (a:ac) (es:Oo) (kvs:Ou),x=.ref a/\DV K H y (aN k)/\H a=OV (.ext (bf a es))/\DVs K H (es.map λp=>V.ref p.2.1) (kvs.map λp=>aN p.1)/\DVs K H (es.map λp=>p.2.2) (kvs.map λp=>p.2) /\
 es.map (λp=>p.1)=kvs.map (λp=>p.1)/\(aJ kvs k).isSome=OX/\∀(i:Nat) v d,aJ kvs k=OV d->(es.map λp=>p.2.2)[i]?=OV v->(kvs.map λp=>p.2)[i]?=OV d->Q v H
def IF(j:X.A.units+2<KI):IxR X (D3 X.K):=by
 intro f slice pins s σ H x y v u Q I l m h hs;let(k,a,es,kvs,rfl,n,o,hk,hv,e,c,q):=h;cases (show v=cu a from l);let(b,rfl,rfl,st):=fe I n m;let(z,y,xs,r,dd):=dct_of I o hk e;let hT:=dd.of.typeIs;unfold Q7;show jj ?_;rw[getitemInPython_of_ne hT.not_modules];show jj (Qn hT yn.lookup ?_);let fin:j4 (kq X.prog X.w) X.A (ZN slice OY (.ref a) (.ref b)) (λr g=>j4 (kq X.prog X.w) X.A (letTemporaryGo f (.ref a) r >>= λY=>pure r) (EP X pins σ Q) X.xe g) X.xe s:=by
  rw[hs];rcases xp k r e hv with⟨z1,_⟩|⟨i,d,v,B,u,z1,z2,z3,p,t⟩
  rw[z1]at c;cases c;show wpAny_operating (wpAny_getItem_heap (knd:=a8 X.prog X.w) (eG j) st dd.of z2 ?_);show jj (wpAny_letTemporaryGo (js (v,H,I.tok _,t,q i v d z1 z3 p)))
 first
  |show js (jj fin)
  |show jj (js (jj fin))
  |show jj fin
noncomputable def oQ(es:Oo)(k:ar)(b:ac)(v:V):Oo :=
 if (es.any λp=>decide (p.1=k))=OX then es.map (λp=>if p.1=k then (p.1,p.2.1,v) else p) else es++[(k,b,v)]
def jJ(r:Paired (λ(p:ar×ac×V) (q:ar×ac×ao)=>p.1=q.1/\p.2.1=q.2.1/\bE p.2.2 q.2.2) es xs)(k:ar)(rv:bE v u) :
  Paired (λ(p:ar×ac×V) (q:ar×ac×ao)=>p.1=q.1/\p.2.1=q.2.1/\bE p.2.2 q.2.2) (oQ es k b v) (ZS xs k b u):=by
 let e:(es.any λp=>decide (p.1=k))=(QJ xs k).isSome:=by
  induction r with
  |nil=>rfl
  |@cons p q ps qs h t a =>
   rw[LV,a];by_cases hk:p.1=k;let d:q.1=k:=by rw[<-h.1,hk]
   simp[QJ,Lc,hk,d];let d:¬q.1=k:=λz=>hk (by rw[h.1,z]);simp[QJ,Lc,hk,d]
 unfold oQ ZS;rw[e];by_cases c:(QJ xs k).isSome=OX;rw[N6 c,N6 c];clear e c
 induction r with
 |nil=>show .nil
 |@cons p q ps qs h t a =>
  rw[Kw,Kw];show .cons ?_ a;unfold putAt;by_cases hk:p.1=k;rw[N6 hk,N6 (show q.1=k by rw[<-h.1,hk])];show(h.1,h.2.1,rv);rw[N7 hk,N7 (λz=>hk (by rw[h.1,z]))];show h
 rw[N7 c,N7 c];show Paired.snoc r (rfl,rfl,rv)
def rJ(es:Oo)(k:ar)(b:ac)(v:V):(oQ es k b v).length<=-es+1:=by unfold oQ;split <;> simp
def GP(K:bg):Dh:=λx y v H Q=>∃(k:ar) (a b:ac) (es:Oo) (kvs:Ou),x=.ref a/\y=.ref b/\DV K H y (aN k)/\H a=OV (.ext (bf a es))/\DVs K H (es.map λp=>V.ref p.2.1) (kvs.map λp=>aN p.1) /\
 es.map (λp=>p.1)=kvs.map (λp=>p.1)/\es.length<sizeLine/\Q (upd H a (.ext (bf a (oQ es k b v))))
def DY(j:X.A.units+2<KI):FR X (GP X.K):=by
 intro pins s σ H x y v ov iv u Q I l m rv h;let(k,a,b,es,kvs,rfl,rfl,n,i,hk,e,L,q):=h;cases (show ov=cu a from l)
 cbv;let(M,p,t,st):=fe I n m;cases p;subst t;let(z,y,xs,r,dd):=dct_of I i hk e
 w_up;let hz:-xs<=sizeLine:=by rw[<-Paired.length r];show z
 show u7 (hsz:=hz) (eG (prog:=X.prog) (w:=X.w) j) st dd λh' c hs=>?_;let(o,d,ep,h1,h2,h3,h4,_,h5):=c;show(_,?_,q);show I.write (x:=a) (e:=a) (by rw[i];show True.intro) (.inl rfl) (λb q B z=>(hs.2 b B).trans z) (_,h1) ?_;let new:bf a (oQ es k b v) h':=(by let:=rJ es k b v;lia,y,_,jJ r k rv,o,d,ep,h1,h2,h3,h4,h5)
 show(new,(_,h1),λC D hx E=>?_);let(a1,a2,f,F,o',ds',g,G,J):=hx;show(a1,a2,f,F,o',ds',g,E _ G,J)
def DU:TE:=λY H Q=>∀p,H p=OW->Q (.ref p) (upd H p (.ext (bf p [])))
def oy(h:bb)(c:Qd<h.objs.size):fL P w H (h.push { cls:=.type "dict",data:=.dict #[] }) h.objs.size (.ext (bf h.objs.size [])):=by let e:=KF (o:=({ cls:=.type "dict",data:=.dict #[] }:Obj)) h rfl;show((KG _,beq_eq_false_iff_ne.mpr (Ne.symm (KO c)),[],.nil,_,#[],0,e,(rfl,rfl,rfl),rfl,rfl,LA,rfl),(_,e),λh1 h2 hx d=>?_);let(a1,a2,a,f,o',ds',b,g,i):=hx;show(a1,a2,a,f,o',ds',b,d _ g,i)
def Inv.big'{pins:Oq}{σ:St}{H:Hp}{s:az}(I:Inv X pins σ H s):Qd<(~~~s):=by let h:k0<(~~~s):=(I.mod.glob.keeps I.bk).lt;show tO (!2) h
def vH:PE X (.Dict [] [] pos) DU:=λpins s σ H Q I h =>
 wpAny_Dict_empty (.ref (~~~s),_,I.laid (a:=(~~~s)) (o:=.ext (bf (~~~s) [])) (t':=s.toks) (λY Y q=>Kq _ q) (Kz _) (oy s.heap I.big'),rfl,h _ (I.hok.fresh (Kz _)))
def GF(K:bg)(tk tv:TE):TE:=λσ H Q=>∀p,H p=OW->tk σ (upd H p (.ext (bf p []))) λx H1=>tv σ H1 λy H2=>∃k b,x=.ref b/\DV K H2 x (aN k)/\H2 p=OV (.ext (bf p []))/\Q (.ref p) (upd H2 p (.ext (bf p [(k,b,y)])))
def BS(n:X.A.units+1<KI)(hk:PE X e1 tk)(hv:PE X e2 tv):PE X (.Dict [OV e1] [e2] pos) (GF X.K tk tv):=by
 intro pins s σ H Q I h;let t:=I.laid (a:=(~~~s)) (o:=.ext (bf (~~~s) [])) (h':=s.heap.push { cls:=.type "dict",data:=.dict #[] }) (t':=s.toks) (λY Y q=>Kq _ q) (Kz _) (oy s.heap I.big');show wpAny_Dict_any rfl rfl (!1) (!1) (pairTrees_cons_walk (thn (hk pins _ σ _ _ t (h _ (I.hok.fresh (Kz _)))) λu s1 c=>?_));let(x,H1,v,B,q1):=c;show thn (hv pins s1 σ H1 _ v q1) λw s2 d=>?_;let(y,H2,f,C,k,b,ex,D,m,q):=d;show pairTrees_nil_walk ?_
 cbv;subst ex;let(P,E,rfl,st):=fe f D B;cases E;generalize (~~~s)=p at *;let(z,hd,xs,r,dd):=dct_of (kvs:=[]) f m .nil rfl;cases r
 w_up;unfold storeAll;rw[Mb];show jj (jj (j6 (hsz:=KG _) n st dd λh' g hs=>js ?_));dsimp only;rw[L4];show js (.ref p,_,?_,rfl,q);let(o,i,ep,h1,h2,h3,h4,_,h5):=g;show f.write (x:=p) (e:=p) (by rw[m];show True.intro) (.inl rfl) (λb q F z=>(hs.2 b F).trans z) (_,h1) ?_;let new:bf p [(k,b,y)] h':=(by rw[zg];simp,hd,_,.cons (rfl,rfl,C) .nil,o,i,ep,h1,h2,h3,h4,h5)
 show(new,(_,h1),λG J hx L=>?_);let(a1,a2,j,M,o',ds',l,N,O):=hx;show(a1,a2,j,M,o',ds',l,L _ N,O)
end
mutual
inductive OT (K:bg) (N:ac->Prop) (H:Hp):V->ab->OO->Prop
 |non:OT K N H .non .none []
 |bl (b:Bool):OT K N H (.bl b) (.bool b) []
 |int (i:Int):OT K N H (.int i) (.int i) []
 |lst {a:ac}{xs:OU}{ds:OM}{S:OO}:H a=some (.lst xs)->OTs K N H xs ds S->OT K N H (.ref a) (.list ds) (a::S)
 |tup {a:ac}{xs:OU}{ds:OM}{S:OO}:SnT K N H a xs->OTs K N H xs ds S->OT K N H (.ref a) (.tuple ds) S
 |dct {a:ac}{es:Oo}{kvs:Ou}:H a=some (.ext (bf a es))->DNs K N H (es.map λp=>V.ref p.2.1) (kvs.map λp=>aN p.1)->DNs K N H (es.map λp=>p.2.2) (kvs.map λp=>p.2)->es.map (λp=>p.1)=kvs.map (λp=>p.1)->OT K N H (.ref a) (br kvs) [a]
 |idc {a:ac}{es:Ow}{kvs:Os}:H a=some (.ext (be a es))->DNs K N H (es.map λp=>p.2) (kvs.map λp=>p.2)->es.map (λp=>p.1)=kvs.map (λp=>p.1)->OT K N H (.ref a) (dY kvs) [a]
 |fz {v:V}{ds:OM}:DN K N H v (.list ds)->OT K N H v (fzD ds) []
inductive OTs (K:bg) (N:ac->Prop) (H:Hp):OU->OM->OO->Prop
 |nil:OTs K N H [] [] []
 |cons {x:V}{xs:OU}{d:ab}{ds:OM}{S S':OO}:OT K N H x d S->OTs K N H xs ds S'->OTs K N H (x::xs) (d::ds) (S++S')
end
section
variable{K:bg}{N M:ac->Prop}{H H':Hp}
theorem OT.keep(k:bd N H H')(h:OT K N H v d S):(∀a∈S,H' a=H a)->OT K N H' v d S :=
 OT.rec (motive_1:=λv d S Y=>(∀a∈S,H' a=H a)->OT K N H' v d S) (motive_2:=λv d S Y=>(∀a∈S,H' a=H a)->OTs K N H' v d S)
 (λY=>.non) (λb Y=>.bl b) (λi Y=>.int i)
 (λh Y q s=>.lst ((s _ Ks).trans h) (q λa c=>s a (Kv _ c))) (λh Y q s=>.tup (h.keep k) (q s))
 (λh q r e s=>.dct ((s _ Ks).trans h) (q.keep k) (r.keep k) e) (λh q e s=>.idc ((s _ Ks).trans h) (q.keep k) e) (λh s=>.fz (h.keep k)) (λY=>.nil) (λY Y h q s=>.cons (h λa c=>s a (Kp _ c)) (q λa c=>s a (Kl _ c))) h
theorem OTs.keep(k:bd N H H')(h:OTs K N H v d S):(∀a∈S,H' a=H a)->OTs K N H' v d S :=
 OTs.rec (motive_1:=λv d S Y=>(∀a∈S,H' a=H a)->OT K N H' v d S) (motive_2:=λv d S Y=>(∀a∈S,H' a=H a)->OTs K N H' v d S)
 (λY=>.non) (λb Y=>.bl b) (λi Y=>.int i)
 (λh Y q s=>.lst ((s _ Ks).trans h) (q λa c=>s a (Kv _ c))) (λh Y q s=>.tup (h.keep k) (q s))
 (λh q r e s=>.dct ((s _ Ks).trans h) (q.keep k) (r.keep k) e) (λh q e s=>.idc ((s _ Ks).trans h) (q.keep k) e) (λh s=>.fz (h.keep k)) (λY=>.nil) (λY Y h q s=>.cons (h λa c=>s a (Kp _ c)) (q λa c=>s a (Kl _ c))) h
theorem OT.to(m:∀b o,H b=OV o->M b->N b)(h:OT K N H v d S):OT K M H v d S :=
 OT.rec (motive_1:=λv d S Y=>OT K M H v d S) (motive_2:=λv d S Y=>OTs K M H v d S)
 .non (λb=>.bl b) (λi=>.int i)
 (λh Y q=>.lst h q) (λh Y q=>.tup (h.to m) q)
 (λh q r e=>.dct h (q.to m) (r.to m) e) (λh q e=>.idc h (q.to m) e) (λh=>.fz (h.to m)) .nil (λY Y h q=>.cons h q) h
theorem OTs.to(m:∀b o,H b=OV o->M b->N b)(h:OTs K N H v d S):OTs K M H v d S :=
 OTs.rec (motive_1:=λv d S Y=>OT K M H v d S) (motive_2:=λv d S Y=>OTs K M H v d S)
 .non (λb=>.bl b) (λi=>.int i)
 (λh Y q=>.lst h q) (λh Y q=>.tup (h.to m) q)
 (λh q r e=>.dct h (q.to m) (r.to m) e) (λh q e=>.idc h (q.to m) e) (λh=>.fz (h.to m)) .nil (λY Y h q=>.cons h q) h
def OT.lives(h:OT K N H v d S):∀a∈S,∃o,H a=OV o :=
 OT.rec (motive_1:=λv d S Y=>∀a∈S,∃o,H a=OV o) (motive_2:=λv d S Y=>∀a∈S,∃o,H a=OV o)
 (λY h=>nomatch h) (λY Y h=>nomatch h) (λY Y h=>nomatch h)
 (λh Y q a b=>(Kt.mp b).elim (λe=>(_,e▸h)) (q a)) (λY Y q=>q)
 (λh Y Y Y a b=>(_,(Kj.mp b)▸h)) (λh Y Y a b=>(_,(Kj.mp b)▸h)) (λY Y h=>nomatch h) (λY h=>nomatch h) (λY Y h q a b=>(Km.mp b).elim (h a) (q a)) h
def OTs.lives(h:OTs K N H v d S):∀a∈S,∃o,H a=OV o :=
 OTs.rec (motive_1:=λv d S Y=>∀a∈S,∃o,H a=OV o) (motive_2:=λv d S Y=>∀a∈S,∃o,H a=OV o)
 (λY h=>nomatch h) (λY Y h=>nomatch h) (λY Y h=>nomatch h)
 (λh Y q a b=>(Kt.mp b).elim (λe=>(_,e▸h)) (q a)) (λY Y q=>q)
 (λh Y Y Y a b=>(_,(Kj.mp b)▸h)) (λh Y Y a b=>(_,(Kj.mp b)▸h)) (λY Y h=>nomatch h) (λY h=>nomatch h) (λY Y h q a b=>(Km.mp b).elim (h a) (q a)) h
def OT.dn(n:∀b,M b->N b)(h:OT K N H v d S):(∀a∈S,¬M a)->DN K M H v d :=
 OT.rec (motive_1:=λv d S Y=>(∀a∈S,¬M a)->DN K M H v d) (motive_2:=λv d S Y=>(∀a∈S,¬M a)->DNs K M H v d)
 (λY=>.non) (λb Y=>.bl b) (λi Y=>.int i)
 (λh Y q s=>.lst (SnL.of h (s _ Ks)) (q λa c=>s a (Kv _ c))) (λh Y q s=>.tup (h.to λb Y Y z=>n b z) (q s))
 (λh q r e s=>.dct (s _ Ks) h (q.to λb Y Y z=>n b z) (r.to λb Y Y z=>n b z) e) (λh q e s=>.idc (s _ Ks) h (q.to λb Y Y z=>n b z) e) (λh Y=>.fz (h.to λb Y Y z=>n b z)) (λY=>.nil) (λY Y h q s=>.cons (h λa c=>s a (Kp _ c)) (q λa c=>s a (Kl _ c))) h
def OTs.ind{C:OU->OM->OO->Prop}(n:C [] [] [])(c:∀{x:V}{xs:OU}{d:ab}{ds:OM}{S S':OO},OT K N H x d S->OTs K N H xs ds S'->C xs ds S'->C (x::xs) (d::ds) (S++S')){v:OU}{d:OM}{S:OO}(h:OTs K N H v d S):C v d S :=
 OTs.rec (motive_1:=λY Y Y Y=>True) (motive_2:=λv d S Y=>C v d S) trivial (λY=>trivial) (λY=>trivial)
 (λY Y Y=>trivial) (λY Y Y=>trivial) (λY Y Y Y=>trivial) (λY Y Y=>trivial) (λY=>trivial) n (λh q Y i=>c h q i) h
def OTs.len(h:OTs K N H v d S):-v=-d:=OTs.ind (C:=λv d Y=>-v=-d) rfl (λY Y i=>by rw[K4,K4,i]) h
def OTs.app(h:OTs K N H v d S)(q:OTs K N H w e T):OTs K N H (v++w) (d++e) (S++T):=OTs.ind (C:=λv d S=>OTs K N H (v++w) (d++e) (S++T)) q (λh Y i=>by rw[KU];show .cons h i) h
end
inductive Sl where
 |un|fr (d:ab)|ow (ds:OM)|io (ds:OM)|vw (i:Nat)|tr (S:OO) (d:ab)
abbrev Ox:=List (V×Sl)
abbrev OL:=List Sl
abbrev Ent:=Option V×Sl
abbrev OJ:=List Ent
noncomputable def dg:Ent->OO
 |(OV (.ref a),.ow _)=>[a]
 |(OV (.ref a),.io _)=>[a]
 |(OV _,.tr S _)=>S
 |_=>[]
def oas(E:OJ):OO:=E.flatMap dg
def Nw(M:ac->Prop)(E:OJ):ac->Prop:=λa=>M a\/a∈oas E
abbrev tmp(ts:Ox):OJ:=ts.map λt=>(OV t.1,t.2)
noncomputable def aK(σ:St)(env:OL)(ts:Ox):OJ:=σ.zip env++tmp ts
def am(A B:OJ):oas (A++B)=oas A++oas B:=List.flatMap_append
def au(e:Ent)(B:OJ):oas (e::B)=dg e++oas B:=List.flatMap_cons ..
def bu:a∈oas E↔∃e∈E,a∈dg e:=List.mem_flatMap
def ik(x:Option V):dg (x,.un)=[]:=by
 cases x with
 |none=>rfl
 |some v=>cases v <;> rfl
def jN(x:Option V)(i:Nat):dg (x,.vw i)=[]:=by
 cases x with
 |none=>rfl
 |some v=>cases v <;> rfl
def eW(x:Option V)(d:ab):dg (x,.fr d)=[]:=by
 cases x with
 |none=>rfl
 |some v=>cases v <;> rfl
def aZ(v:V)(S:OO)(d:ab):dg (OV v,.tr S d)=S:=by cases v <;> rfl
def nc(h:a∈dg e):(e.1=OV (.ref a)/\((∃ds,e.2=.ow ds)\/∃ds,e.2=.io ds))\/∃S d,e.2=.tr S d/\a∈S:=by
 let(x,s):=e;cases s with
 |un=>rw[ik]at h;show absurd h Ld
 |vw i=>rw[jN]at h;show absurd h Ld
 |fr d=>rw[eW]at h;show absurd h Ld
 |tr S d =>
  cases x with
  |none=>show absurd h Ld
  |some v=>rw[aZ]at h;show .inr (S,d,rfl,h)
 |ow ds =>
  cases x with
  |none=>show absurd h Ld
  |some v=>cases v with
   |ref b=>rw[Kj.mp h];show .inl (rfl,.inl (ds,rfl))
   |_=>show absurd h Ld
 |io ds =>
  cases x with
  |none=>show absurd h Ld
  |some v=>cases v with
   |ref b=>rw[Kj.mp h];show .inl (rfl,.inr (ds,rfl))
   |_=>show absurd h Ld
structure bS(K:bg)(M P:ac->Prop)(H0:Hp)(E:OJ)(H:Hp):Prop where
 keep:bd P H0 H
 live:∀a,H0 a≠none->H a≠none
 mt : ∀a,M a->H0 a≠none
 pm : ∀a,P a->M a
 fr : ∀x d,(x,Sl.fr d)∈E->∃v,x=some v/\DN K (Nw M E) H v d
 ow : ∀x ds,(x,Sl.ow ds)∈E->∃a vs,x=some (.ref a)/\H a=some (.lst vs)/\DNs K (Nw M E) H vs ds/\H0 a=none
 io : ∀x ds,(x,Sl.io ds)∈E->∃a vs,x=some (.ref a)/\H a=some (.lst vs)/\DNs K (Nw M E) H vs ds/\P a
 tr : ∀x S d,(x,Sl.tr S d)∈E->∃v,x=some v/\OT K (Nw M E) H v d S/\∀a∈S,H0 a=none
 nd : (oas E).Nodup
section
variable{K:bg}{M P:ac->Prop}{H0 H H':Hp}{E E' A B:OJ}{e:Ent}
def bS.own(h:bS K M P H0 E H)(f:a∈oas E):∃o,H a=OV o/\(H0 a=OW\/P a):=by
 let((x,s),c,g):=bu.mp f;rcases nc g with⟨e1,e2⟩|⟨S,d,e2,e⟩
 rotate_left
 .cbv;simp only at e2;subst e2;let(v,_,q,r):=h.tr _ _ _ c;let(vs,z):=q.lives a e
  w_up;show(vs,z,.inl (r a e))
 rcases e2 with⟨ds,e2⟩|⟨ds,e2⟩
 .cbv;simp only at e1 e2;subst e1 e2;let(b,vs,z,q,_,r):=h.ow _ _ c;cases z
  w_up;show(_,q,.inl r)
 .cbv;simp only at e1 e2;subst e1 e2;let(b,vs,z,q,_,r):=h.io _ _ c;cases z
  w_up;show(_,q,.inr r)
def Nw.sub(h:∀a,a∈oas E'->a∈oas E):∀b,Nw M E' b->Nw M E b:=λb z=>by
 rcases z with z|z;show .inl z;show .inr (h b z)
theorem bS.sub(h:bS K M P H0 E H)(c:∀x s,(x,s)∈E'->(x,s)∈E\/s=.un\/∃i,s=.vw i)(nd:(oas E').Nodup):bS K M P H0 E' H:=by
 let os:∀a,a∈oas E'->a∈oas E:=λa g=>by
  let((x,s),j,f):=bu.mp g;rcases c x s j with q|q|⟨i,q⟩
  show bu.mpr (_,q,f);subst q;rw[ik]at f;cases f;subst q;rw[jN]at f;cases f
 let up:=Nw.sub (M:=M) os;show(h.keep,h.live,h.mt,h.pm,λx d m=>?_,λx d m=>?_,λx d m=>?_,λx S d m=>?_,nd)
 rotate_right
 rcases c _ _ m with q|q|⟨i,q⟩
 let(v,e,dn,r):=h.tr x S d q;show(v,e,dn.to λb Y Y z=>up b z,r);cases q;cases q;rcases c _ _ m with q|q|⟨i,q⟩
 let(v,e,dn):=h.fr x d q;show(v,e,dn.to λb Y Y z=>up b z);cases q;cases q;rcases c _ _ m with q|q|⟨i,q⟩
 let(a,vs,e,e2,dn,r):=h.ow x d q;show(a,vs,e,e2,dn.to λb Y Y z=>up b z,r);cases q;cases q;rcases c _ _ m with q|q|⟨i,q⟩
 let(a,vs,e,e2,dn,r):=h.io x d q;show(a,vs,e,e2,dn.to λb Y Y z=>up b z,r);cases q;cases q
def bS.drop(h:bS K M P H0 (E++B) H):bS K M P H0 E H:=h.sub (λx s m=>.inl (Kp _ m)) (by
 let:=h.nd;rw[am]at this;show(Ky.mp this).1)
theorem bS.same(h:bS K M P H0 E H)(k:bh H H'):bS K M P H0 E H':=by
 show(h.keep.trans (bd.same k),λa q z=>?_,h.mt,h.pm,λx d m=>?_,λx d m=>?_,λx d m=>?_,λx S d m=>?_,h.nd)
 rotate_right
 let(v,e,dn,r):=h.tr x S d m;show(v,e,dn.keep (bd.same k) λa b=>by
  let(xs,z):=dn.lives a b;rw[k a _ z,z],r)
 let q1:=h.live a q;cases e:H a with
 |none=>show q1 e
 |some o=>rw[k a o e]at z;cases z
 let(v,e,dn):=h.fr x d m;show(v,e,dn.keep (bd.same k));let(a,vs,e,e2,dn,r):=h.ow x d m;show(a,vs,e,k _ _ e2,dn.keep (bd.same k),r);let(a,vs,e,e2,dn,r):=h.io x d m;show(a,vs,e,k _ _ e2,dn.keep (bd.same k),r)
def bS.addFr(h:bS K M P H0 E H)(dn:DN K (Nw M E) H v d):bS K M P H0 (E++[(OV v,.fr d)]) H:=by
 let a:oas (E++[(OV v,Sl.fr d)])=oas E:=by rw[am,au,eW];simp[oas]
 let ne:Nw M (E++[(OV v,Sl.fr d)])=Nw M E:=by unfold Nw;rw[a]
 show(h.keep,h.live,h.mt,h.pm,λx d' m=>?_,λx d' m=>?_,λx d' m=>?_,λx S d' m=>?_,by rw[a];show h.nd)
 rotate_right
 rw[ne];rcases Km.mp m with m|m;show h.tr x S d' m;rw[Kj]at m;cases m;rw[ne];rcases Km.mp m with m|m;show h.fr x d' m;rw[Kj]at m;cases m;show(v,rfl,dn);rw[ne];rcases Km.mp m with m|m;show h.ow x d' m;rw[Kj]at m;cases m;rw[ne];rcases Km.mp m with m|m;show h.io x d' m;rw[Kj]at m;cases m
def bS.addVw(h:bS K M P H0 E H):bS K M P H0 (E++[(OV v,.vw i)]) H:=by show h.sub (λx s m=>?_) ?_;rcases Km.mp m with m|m;show .inl m;rw[Kj]at m;cases m;show .inr (.inr (i,rfl));rw[am,au,jN];simpa[oas] using h.nd
def bS.addOw(h:bS K M P H0 E H)(c:H p=OW)(d:DNs K (Nw M E) H vs ds):bS K M P H0 (E++[(OV (.ref p),.ow ds)]) (upd H p (.lst vs)):=by
 let g:oas (E++[(OV (.ref p),Sl.ow ds)])=oas E++[p]:=by rw[am];rfl
 let i:p ∉ oas E:=λz=>by
  let(vs',q,_):=h.own z;rw[c]at q;cases q
 let h0:H0 p=OW:=by
  cases e:H0 p with
  |none=>rfl
  |some o=>show absurd c (h.live p (by rw[e];simp))
 let up:∀b o,H b=OV o->Nw M (E++[(OV (.ref p),Sl.ow ds)]) b->Nw M E b:=λb o e z=>by
  rcases z with z|z;show .inl z;rw[g]at z;rcases Km.mp z with z|z;show .inr z;rw[Kj.mp z,c]at e;cases e
 let h':=h.same (bh.new (o:=.lst vs) c);show(h'.keep,h'.live,h.mt,h.pm,λx d' m=>?_,λx d' m=>?_,λx d' m=>?_,λx S d' m=>?_,?_)
 rotate_right 2
 rcases Km.mp m with m|m;let(v,e,dn,r):=h.tr x S d' m;show(v,e,(dn.to up).keep (bd.same (bh.new c)) λa f=>by
  let(xs,z):=dn.lives a f;rw[bh.new c _ _ z,z],r)
 rw[Kj]at m;cases m
 rotate_left
 rcases Km.mp m with m|m;let(v,e,dn):=h.fr x d' m;show(v,e,(dn.to up).keep (bd.same (bh.new c)));rw[Kj]at m;cases m;rcases Km.mp m with m|m;let(a,ws,e,e2,dn,r):=h.ow x d' m;show(a,ws,e,bh.new c _ _ e2,(dn.to up).keep (bd.same (bh.new c)),r);rw[Kj]at m;cases m;show(p,vs,rfl,aC,(d.to up).keep (bd.same (bh.new c)),h0);rcases Km.mp m with m|m;let(a,ws,e,e2,dn,r):=h.io x d' m;show(a,ws,e,bh.new c _ _ e2,(dn.to up).keep (bd.same (bh.new c)),r);rw[Kj]at m;cases m;rw[g];show Ky.mpr (h.nd,!1,λa f b j=>by rw[Kj.mp j];exactλz=>i (z▸f))
def bS.freeze(h:bS K M P H0 (A++(Pm (OV (.ref a)) (.ow ds))::B) H):bS K M P H0 (A++(Pm (OV (.ref a)) (.fr (.list ds)))::B) H:=by
 let g:oas (A++(Pm (OV (.ref a)) (Sl.ow ds))::B)=oas A++a::oas B:=by rw[am,au];rfl
 let c:oas (A++(Pm (OV (.ref a)) (Sl.fr (.list ds)))::B)=oas A++oas B:=by rw[am,au];rfl
 let nd:=h.nd;rw[g]at nd
 cbv;let(j,k,i):=Ky.mp nd;let(l,n):=KY.mp k;let up:∀b,Nw M (A++(Pm (OV (.ref a)) (Sl.fr (.list ds)))::B) b->Nw M (A++(Pm (OV (.ref a)) (Sl.ow ds))::B) b:=Nw.sub λb z=>by
  rw[c]at z;rw[g];rcases Km.mp z with z|z;show Kp _ z;show Kl _ (Kv _ z)
 let o:(Pm (OV (.ref a)) (Sl.ow ds))∈A++(Pm (OV (.ref a)) (Sl.ow ds))::B:=Kl _ Ks;let(u,vs,z,p,f,h0):=h.ow _ _ o;cases z
 w_up;let q:¬Nw M (A++(Pm (OV (.ref a)) (Sl.fr (.list ds)))::B) a:=λz=>by
  rcases z with z|z;show h.mt a z h0;rw[c]at z;rcases Km.mp z with z|z;show i a z a Ks rfl;show l z
 let old:∀x s,(Pm x s)∈A++(Pm (OV (.ref a)) (Sl.fr (.list ds)))::B->(Pm x s)=(Pm (OV (.ref a)) (Sl.fr (.list ds)))\/(Pm x s)∈A++(Pm (OV (.ref a)) (Sl.ow ds))::B:=λx s m=>by
  rcases Km.mp m with m|m;show .inr (Kp _ m);rcases Kt.mp m with m|m;show .inl m;show .inr (Kl _ (Kv _ m))
 show⟨h.keep,h.live,h.mt,h.pm,λx d m=>?_,λx d m=>?_,λx d m=>?_,λx S d m=>?_,?_⟩
 rotate_right 2
 rcases old _ _ m with m|m;cases m;let(v,e,dn,r):=h.tr x S d m;show⟨v,e,dn.to λb Y Y z=>up b z,r⟩
 rotate_left
 rcases old _ _ m with m|m;cases m;show⟨_,rfl,.lst (SnL.of p q) (f.to λb Y Y z=>up b z)⟩;let(v,e,dn):=h.fr x d m;show⟨v,e,dn.to λb Y Y z=>up b z⟩;rcases old _ _ m with m|m;cases m;let(b,ws,e,e2,dn,r):=h.ow x d m;show⟨b,ws,e,e2,dn.to λb Y Y z=>up b z,r⟩;rcases old _ _ m with m|m;cases m;let(b,ws,e,e2,dn,r):=h.io x d m;show⟨b,ws,e,e2,dn.to λb Y Y z=>up b z,r⟩;rw[c];show Ky.mpr ⟨j,n,λx hx y t=>i x hx y (Kv _ t)⟩
def bS.freezeT(h:bS K M P H0 (A++(Pm (OV v) (.tr S d))::B) H):bS K M P H0 (A++(Pm (OV v) (.fr d))::B) H:=by
 let g:oas (A++(Pm (OV v) (Sl.tr S d))::B)=oas A++(S++oas B):=by rw[am,au,aZ]
 let c:oas (A++(Pm (OV v) (Sl.fr d))::B)=oas A++oas B:=by rw[am,au,eW];rfl
 let nd:=h.nd;rw[g]at nd
 cbv;let(j,k,i):=Ky.mp nd;let(t,l,n):=Ky.mp k;let up:∀b,Nw M (A++(Pm (OV v) (Sl.fr d))::B) b->Nw M (A++(Pm (OV v) (Sl.tr S d))::B) b:=Nw.sub λb z=>by
  rw[c]at z;rw[g];rcases Km.mp z with z|z;show Kp _ z;show Kl _ (Kl _ z)
 let o:(Pm (OV v) (Sl.tr S d))∈A++(Pm (OV v) (Sl.tr S d))::B:=Kl _ Ks;let(v',z,ot,h0):=h.tr _ _ _ o;cases z
 w_up;let p:∀a∈S,¬Nw M (A++(Pm (OV v) (Sl.fr d))::B) a:=λa f z=>by
  rcases z with z|z;show h.mt a z (h0 a f);rw[c]at z;rcases Km.mp z with z|z;show i a z a (Kp _ f) rfl;show n a f a z rfl
 let old:∀x s,(Pm x s)∈A++(Pm (OV v) (Sl.fr d))::B->(Pm x s)=(Pm (OV v) (Sl.fr d))\/(Pm x s)∈A++(Pm (OV v) (Sl.tr S d))::B:=λx s m=>by
  rcases Km.mp m with m|m;show .inr (Kp _ m);rcases Kt.mp m with m|m;show .inl m;show .inr (Kl _ (Kv _ m))
 show⟨h.keep,h.live,h.mt,h.pm,λx d' m=>?_,λx d' m=>?_,λx d' m=>?_,λx S' d' m=>?_,?_⟩;rcases old _ _ m with m|m;cases m;show⟨_,rfl,ot.dn up p⟩;let(v,e,dn):=h.fr x d' m;show⟨v,e,dn.to λb Y Y z=>up b z⟩;rcases old _ _ m with m|m;cases m;let(b,ws,e,e2,dn,r):=h.ow x d' m;show⟨b,ws,e,e2,dn.to λb Y Y z=>up b z,r⟩;rcases old _ _ m with m|m;cases m;let(b,ws,e,e2,dn,r):=h.io x d' m;show⟨b,ws,e,e2,dn.to λb Y Y z=>up b z,r⟩;rcases old _ _ m with m|m;cases m;let(v,e,dn,r):=h.tr x S' d' m;show⟨v,e,dn.to λb Y Y z=>up b z,r⟩;rw[c];show Ky.mpr ⟨j,l,λx hx y q=>i x hx y (Kl _ q)⟩
def Cp:Sl->OM->Sl->Prop
 |.ow _,ds',s'=>s'=.ow ds'
 |.io _,ds',s'=>s'=.io ds'
 |_,_,_=>False
def dM(h:Cp s l s'):(∃d,s=.ow d/\s'=.ow l)\/∃d,s=.io d/\s'=.io l:=by
 cases s with
 |ow d=>show .inl (d,rfl,h)
 |io d=>show .inr (d,rfl,h)
 |_=>show h.elim
def gU(h:Cp s l s'):dg (OV (.ref a),s)=[a]/\dg (OV (.ref a),s')=[a]:=by rcases dM h with⟨_,rfl,rfl⟩|⟨_,rfl,rfl⟩ <;> show(rfl,rfl)
def bS.muted(h:bS K M P H0 (A++(Pm (OV (.ref a)) s)::B) H)(hs:Cp s ds' s')(k:bd (λb=>b=a) H H')(y:∀b,H b≠OW->H' b≠OW)
  (n:H' a=OV (.lst vs')) (c:DNs K (Nw M (A++(Pm (OV (.ref a)) s)::B)) H' vs' ds'):bS K M P H0 (A++(Pm (OV (.ref a)) s')::B) H':=by
 let p:dg (Pm (OV (.ref a)) s)=[a]/\dg (Pm (OV (.ref a)) s')=[a]:=gU hs;let i:oas (A++(Pm (OV (.ref a)) s)::B)=oas A++a::oas B:=by rw[am,au,p.1];rfl
 let f:oas (A++(Pm (OV (.ref a)) s')::B)=oas A++a::oas B:=by rw[am,au,p.2];rfl
 let ne:Nw M (A++(Pm (OV (.ref a)) s')::B)=Nw M (A++(Pm (OV (.ref a)) s)::B):=by unfold Nw;rw[i,f]
 let C:Nw M (A++(Pm (OV (.ref a)) s)::B) a:=.inr (by rw[i];simp);let nd:=h.nd;rw[i]at nd;let(G,D,E):=Ky.mp nd;let(F,I):=KY.mp D;let j:bd (Nw M (A++(Pm (OV (.ref a)) s)::B)) H H':=k.mono λb z=>by rw[z];show C
 let(ws,hw,hP):=h.own (a:=a) (by rw[i];simp);let other:∀x t b,(Pm x t)∈A\/(Pm x t)∈B->b∈dg (Pm x t)->b≠a:=λx t b m u z=>by
  subst z;rcases m with m|m;show E b (bu.mpr ⟨_,m,u⟩) b Ks rfl;show F (bu.mpr ⟨_,m,u⟩)
 let old:∀x t,(Pm x t)∈A++(Pm (OV (.ref a)) s')::B->(Pm x t)=(Pm (OV (.ref a)) s')\/((Pm x t)∈A\/(Pm x t)∈B):=λx t m=>by
  rcases Km.mp m with m|m;show .inr (.inl m);rcases Kt.mp m with m|m;show .inl m;show .inr (.inr m)
 let back:∀x t,(Pm x t)∈A\/(Pm x t)∈B->(Pm x t)∈A++(Pm (OV (.ref a)) s)::B:=λx t m=>by
  rcases m with m|m;show Kp _ m;show Kl _ (Kv _ m)
 let J:(Pm (OV (.ref a)) s)∈A++(Pm (OV (.ref a)) s)::B:=Kl _ Ks;show⟨?_,λb q=>y b (h.live b q),h.mt,h.pm,λx d m=>?_,λx d m=>?_,λx d m=>?_,λx S d m=>?_,by rw[f];show nd⟩
 rotate_right
 rw[ne];rcases old _ _ m with m|m;rcases dM hs with⟨_,_,e⟩|⟨_,_,e⟩ <;> (rw[e]at m;cases m)
 let(v,e,dn,r):=h.tr x S d (back _ _ m);subst e;show⟨v,rfl,dn.keep j λb g=>?_,r⟩;let(xs,z):=dn.lives b g;rw[k _ _ (other _ _ b m (by rw[aZ];show g)) z,z];intro b o w e;by_cases g:b=a;subst g;rcases hP with q|q;rw[q]at e;cases e;show absurd q w;show k b o g (h.keep b o w e);rw[ne];rcases old _ _ m with m|m;rcases dM hs with⟨_,_,e⟩|⟨_,_,e⟩ <;> (rw[e]at m;cases m)
 let(v,e,dn):=h.fr x d (back _ _ m);show⟨v,e,dn.keep j⟩
 .rw[ne];rcases old _ _ m with m|m
  .rcases dM hs with⟨l,e1,e2⟩|⟨_,_,e2⟩ <;> (rw[e2]at m;cases m)
   cbv;let(b,us,e,_,_,r):=h.ow (OV (.ref a)) l (Kl _ (by rw[e1];show Ks));cases e
   w_up;show⟨a,vs',rfl,n,c,r⟩
  let(b,us,e,e2,dn,r):=h.ow x d (back _ _ m);subst e;show⟨b,us,rfl,k _ _ (other _ _ b m (Kj.mpr rfl)) e2,dn.keep j,r⟩
 .rw[ne];rcases old _ _ m with m|m
  .rcases dM hs with⟨_,_,e2⟩|⟨l,e1,e2⟩ <;> (rw[e2]at m;cases m)
   cbv;let(b,us,e,_,_,r):=h.io (OV (.ref a)) l (Kl _ (by rw[e1];show Ks));cases e
   w_up;show⟨a,vs',rfl,n,c,r⟩
  let(b,us,e,e2,dn,r):=h.io x d (back _ _ m);subst e;show⟨b,us,rfl,k _ _ (other _ _ b m (Kj.mpr rfl)) e2,dn.keep j,r⟩
def bS.mut(h:bS K M P H0 (A++(OV (.ref a),s)::B) H)(hs:Cp s ds' s')(d:DNs K (Nw M (A++(OV (.ref a),s)::B)) H vs' ds') :
  bS K M P H0 (A++(OV (.ref a),s')::B) (upd H a (.lst vs')) :=
 let f:dg (OV (.ref a),s)=[a]:=(gU hs).1
 h.muted hs (λb o c e=>by rw[aw c];show e) (λb q z=>by
  by_cases c:b=a;rw[c,aC]at z;cases z;rw[aw c]at z;show q z) aC (d.keep (bd.own (.inr (bu.mpr (_,Kl _ Ks,by rw[f];show Kj.mpr rfl)))))
def bS.move(h:bS K M P H0 (A++e::(B++[t])) H):bS K M P H0 (A++t::B) H:=by
 show h.sub (λx s m=>.inl ?_) ?_;rcases Km.mp m with m|m;show Kp _ m;rcases Kt.mp m with m|m;show Kl _ (Kv _ (Kl _ (by rw[m];simp)));show Kl _ (Kv _ (Kp _ m))
 .let nd:=h.nd;let b:oas (A++e::(B++[t]))=oas A++(oas [e]++(oas B++oas [t])):=by
   rw[am,show e::(B++[t])=[e]++(B++[t]) from rfl,am,am]
  let c:oas (A++t::B)=oas A++(oas [t]++oas B):=by rw[am,show t::B=[t]++B from rfl,am]
  rw[b]at nd;rw[c]
  cbv;let(d,f,g):=Ky.mp nd;let(_,i,_):=Ky.mp f;let(j,k,l):=Ky.mp i
  w_up;show Ky.mpr (d,Ky.mpr (k,j,λx hx y a z=>l y a x hx z.symm),λx hx y a=>?_);show g x hx y (Kl _ ?_);rcases Km.mp a with a|a;show Kl _ a;show Kp _ a
end
structure Rel(K:bg)(M P:ac->Prop)(H0:Hp)(σ0 σ:St)(env:OL)(ts:Ox)(H:Hp):Prop where
 e : bS K M P H0 (aK σ env ts) H
 len:σ.length=env.length
 vw : ∀(v:V) (i:Nat),(v,Sl.vw i)∈ts->σ[i]?=some (some v)
 ios:∀(i:Nat) (ds:OM),env[i]?=some (Sl.io ds)->σ[i]?=σ0[i]?
inductive Vw (K:bg) (N:ac->Prop) (H:Hp):V->ab->Prop
 |dn {v d}:DN K N H v d->Vw K N H v d
 |ow {a vs ds}:H a=some (.lst vs)->DNs K N H vs ds->Vw K N H (.ref a) (.list ds)
 |dct {a:ac}{es:Oo}{kvs:Ou}:H a=some (.ext (bf a es))->DNs K N H (es.map λp=>V.ref p.2.1) (kvs.map λp=>aN p.1)->DNs K N H (es.map λp=>p.2.2) (kvs.map λp=>p.2)->es.map (λp=>p.1)=kvs.map (λp=>p.1)->Vw K N H (.ref a) (br kvs)
 |idc {a:ac}{es:Ow}{kvs:Os}:H a=some (.ext (be a es))->DNs K N H (es.map λp=>p.2) (kvs.map λp=>p.2)->es.map (λp=>p.1)=kvs.map (λp=>p.1)->Vw K N H (.ref a) (dY kvs)
noncomputable def slD:Sl->Option ab
 |.fr d=>OV d
 |.ow ds=>OV (.list ds)
 |.io ds=>OV (.list ds)
 |.tr _ (.dict kvs)=>OV (.dict kvs)
 |_=>OW
def aV(env:OL):Sl->Option ab
 |.vw i=>(env[i]?).bind slD
 |.fr d=>OV d
 |.ow ds=>OV (.list ds)
 |.io ds=>OV (.list ds)
 |.tr _ (.dict kvs)=>OV (.dict kvs)
 |_=>OW
noncomputable def slK:Sl->Option ab
 |.fr d=>OV d
 |_=>OW
def aM(env:OL):Sl->Option ab
 |.vw i=>(env[i]?).bind slK
 |.fr d=>OV d
 |.ow ds=>OV (.list ds)
 |.tr _ d=>OV d
 |_=>OW
section
variable{K:bg}{M P N:ac->Prop}{H0 H H':Hp}{σ0 σ:St}{env:OL}{ts tt:Ox}{v:V}{s:Sl}{d:ab}
def aG:aK σ env (ts++tt)=aK σ env ts++tmp tt:=by unfold aK;rw[KU];simp[tmp]
def OT.dict_view(h:OT K N H v (.dict kvs) S):Vw K N H v (.dict kvs):=by
 generalize e:PyData.dict kvs=d at h;cases h with
 |dct h q r e2=>show .dct h q r e2
 |idc h q e2=>show .idc h q e2
 |fz h=>show .dn (.fz h)
 |_=>cases e
theorem Vw.dv(h:Vw K N H v d):DV K H v d:=by
 cases h with
 |dn h=>show h.dv
 |ow h q=>show .lst (SqL.of h) q.dv
 |dct h q r e=>show .dct h q.dv r.dv e
 |idc h q e=>show .idc h q.dv e
theorem Vw.list(h:Vw K N H v (.list ds)):∃a vs,v=.ref a/\SqL K H a vs/\DNs K N H vs ds:=by
 cases h with
 |dn h=>let(a,vs,e,s,q):=h.list;show(a,vs,e,s.sq,q)
 |ow h q=>show(_,_,rfl,SqL.of h,q)
theorem Vw.tuple(h:Vw K N H v (.tuple ds)):∃a vs,v=.ref a/\SqT K H a vs/\DNs K N H vs ds:=by
 cases h with
 |dn h=>let(a,vs,e,s,q):=h.tuple;show(a,vs,e,s.sq,q)
theorem Vw.int(h:Vw K N H v (.int i)):v=.int i:=by
 cases h with
 |dn h=>cases h;rfl
theorem Vw.bool(h:Vw K N H v (.bool i)):v=.bl i:=by
 cases h with
 |dn h=>cases h;rfl
theorem Vw.none(h:Vw K N H v .none):v=.non:=by
 cases h with
 |dn h=>cases h;rfl
def uB(h:-σ=-env){i:Nat}(e:env[i]?=OV s):∃x,σ[i]?=OV x/\(x,s)∈σ.zip env:=by
 let hi:i< -env:=(Kx.mp e).1;let hj:i< -σ:=!0
 show(σ[i],Kk hj,?_);let hz:i<(σ.zip env).length:=by rw[LN];lia
 let:=KL hz;rw[Mn]at this;rwa [(Kx.mp e).2]at this
def fF(m:(v,s)∈ts):((OV v,s):Ent)∈aK σ env ts:=Kl _ (Ko.mpr ((v,s),m,rfl))
def Rel.slot(h:Rel K M P H0 σ0 σ env ts H){i:Nat}(e:env[i]?=OV s):∃x,σ[i]?=OV x/\(x,s)∈aK σ env ts:=by let(x,e1,m):=uB h.len e;show(x,e1,Kp _ m)
def bS.viewE(h:bS K M P H0 E H)(m:(x,s)∈E)(e:slD s=OV d):∃v,x=OV v/\Vw K (Nw M E) H v d:=by
 cases s with
 |fr d' =>
  cbv;cases e;let(v,e1,dn):=h.fr _ _ m
  w_up;show(v,e1,.dn dn)
 |ow ds =>
  cbv;cases e;let(a,vs,e1,e2,dn,_):=h.ow _ _ m
  w_up;show(_,e1,.ow e2 dn)
 |io ds =>
  cbv;cases e;let(a,vs,e1,e2,dn,_):=h.io _ _ m
  w_up;show(_,e1,.ow e2 dn)
 |un=>cases e
 |vw i=>cases e
 |tr S d' =>
  cases d' with
  |dict kvs =>
   cbv;cases e;let(v,e1,ot,_):=h.tr _ _ _ m
   w_up;show(v,e1,ot.dict_view)
  |_=>cases e
def Rel.there(h:Rel K M P H0 σ0 σ env ts H){i:Nat}(e:(env[i]?).bind slD=OV d):∃v,σ[i]?=OV (OV v)/\Vw K (Nw M (aK σ env ts)) H v d:=by
 cases q:env[i]? with
 |none=>rw[q]at e;cases e
 |some s =>
  rw[q]at e;let(x,e1,m):=h.slot q;let(v,e2,w):=h.e.viewE m e;show(v,by rw[e1,e2],w)
def Rel.view(h:Rel K M P H0 σ0 σ env ts H)(m:(v,s)∈ts)(e:aV env s=OV d):Vw K (Nw M (aK σ env ts)) H v d:=by
 cases s with
 |vw i =>
  cbv;let(w,e1,q):=h.there e;rw[h.vw v i m]at e1;cases e1
  w_up;show q
 |un=>cases e
 |tr S d' =>
  cases d' with
  |dict kvs=>let(w,e1,q):=h.e.viewE (s:=.tr S (.dict kvs)) (fF m) e;cases e1;show q
  |_=>cases e
 |fr d'=>let(w,e1,q):=h.e.viewE (fF m) e;cases e1;show q
 |ow d'=>let(w,e1,q):=h.e.viewE (fF m) e;cases e1;show q
 |io d'=>let(w,e1,q):=h.e.viewE (fF m) e;cases e1;show q
def f6(h:Nw M E b):Nw M (E++B) b:=by rcases h with h|h;show .inl h;show .inr (by rw[am];show Kp _ h)
theorem Rel.drop(h:Rel K M P H0 σ0 σ env (ts++tt) H):Rel K M P H0 σ0 σ env ts H :=
 (by let:=h.e;rw[aG]at this;show this.drop,h.len,λv i m=>h.vw v i (Kp _ m),h.ios)
theorem Rel.same(h:Rel K M P H0 σ0 σ env ts H)(k:bh H H'):Rel K M P H0 σ0 σ env ts H':=(h.e.same k,h.len,h.vw,h.ios)
theorem Rel.addFr(h:Rel K M P H0 σ0 σ env ts H)(dn:DN K (Nw M (aK σ env ts)) H v d):Rel K M P H0 σ0 σ env (ts++[(v,.fr d)]) H :=
 (by rw[aG];show h.e.addFr dn,h.len,(λw i m=>by
  rcases Km.mp m with m|m;show h.vw w i m;rw[Kj]at m;cases m),h.ios)
theorem Rel.addVw(h:Rel K M P H0 σ0 σ env ts H)(e:σ[i]?=OV (OV v)):Rel K M P H0 σ0 σ env (ts++[(v,.vw i)]) H :=
 (by rw[aG];show h.e.addVw,h.len,(λw i m=>by
  rcases Km.mp m with m|m;show h.vw w i m;rw[Kj]at m;cases m;show e),h.ios)
theorem Rel.addOw(h:Rel K M P H0 σ0 σ env ts H)(b:H p=OW)(a:DNs K (Nw M (aK σ env ts)) H vs ds):Rel K M P H0 σ0 σ env (ts++[(.ref p,.ow ds)]) (upd H p (.lst vs)) :=
 (by rw[aG];show h.e.addOw b a,h.len,(λw i m=>by
  rcases Km.mp m with m|m;show h.vw w i m;rw[Kj]at m;cases m),h.ios)
def Rel.res(h:Rel K M P H0 σ0 σ env (ts++tt) H)(k:bh H H')(dn:DN K (Nw M (aK σ env (ts++tt))) H' v d):Rel K M P H0 σ0 σ env (ts++[(v,.fr d)]) H' :=
 (h.drop.same k).addFr (dn.to λb Y Y z=>by rw[aG];show f6 z)
def Rel.resOw(h:Rel K M P H0 σ0 σ env (ts++tt) H)(c:H p=OW)(a:DNs K (Nw M (aK σ env (ts++tt))) H vs ds):Rel K M P H0 σ0 σ env (ts++[(.ref p,.ow ds)]) (upd H p (.lst vs)) :=
 h.drop.addOw c (a.to λb Y Y z=>by rw[aG];show f6 z)
end
abbrev DE:=OL->(Sl->OL->Prop)->Prop
abbrev DT:=OL->(Bool->OL->Prop)->Prop
abbrev DA:=OL->(OL->OL->Prop)->Prop
structure Wn{α:Type}(a:α):Type
def dK(R:Sl->OL->Prop)(_:Wn R):Sl->OL->Prop:=R
def AF(R:Sl->OL->Prop)(w:Wn R)(s:Sl)(env:OL):dK R w s env=R s env:=rfl
def dI(W:OL->Prop)(_:Wn W):OL->Prop:=W
def FH(W:OL->Prop)(w:Wn W)(env:OL):dI W w env=W env:=rfl
abbrev Wk(G Q:Prop):Prop:=(G->Q)->(Q->G)->Q->G
def uC{c:Bool}{p A d B f:Prop} [Decidable p](e:c=decide p)(a:d->A)(b:f->B)(h:if p then d else f):if c=OX then A else B:=by subst e;by_cases q:p;rw[N6 q]at h;rw[N6 (decide_eq_true q)];show a h;rw[N7 q]at h;rw[N7 λz=>q (of_decide_eq_true z)];show b h
inductive up (K:bg) (t:DE) (σ:St) (H:Hp) (Q:VK):Prop
 |mk (M P:ac->Prop) (H0:Hp) (σ0:St) (env:OL) (ts:Ox) (R:Sl->OL->Prop):Rel K M P H0 σ0 σ env ts H->t env R ->
 (∀s env' v H',R s env'->Rel K M P H0 σ0 σ env' (ts++[(v,s)]) H'->Q v H')->up K t σ H Q
inductive upT (K:bg) (t:DT) (σ:St) (H:Hp) (Q:Bool->Hp->Prop):Prop
 |mk (M P:ac->Prop) (H0:Hp) (σ0:St) (env:OL) (ts:Ox) (R:Bool->OL->Prop):Rel K M P H0 σ0 σ env ts H->t env R ->
 (∀b env' H',R b env'->Rel K M P H0 σ0 σ env' ts H'->Q b H')->upT K t σ H Q
inductive upA (K:bg) (t:DA) (σ:St) (H:Hp) (Q:OU->Hp->Prop):Prop
 |mk (M P:ac->Prop) (H0:Hp) (σ0:St) (env:OL) (ts:Ox) (R:OL->OL->Prop):Rel K M P H0 σ0 σ env ts H->t env R ->
 (∀ss env' vs H',R ss env'->vs.length=ss.length->Rel K M P H0 σ0 σ env' (ts++vs.zip ss) H'->Q vs H')->upA K t σ H Q
def PE.imp(h:PE X e t)(k:∀σ H Q,t' σ H Q->t σ H Q):PE X e t':=λpins s σ H Q I hw=>h pins s σ H Q I (k σ H Q hw)
def PT.imp(h:PT X e t)(k:∀σ H Q,t' σ H Q->t σ H Q):PT X e t':=λpins s σ H Q I hw=>h pins s σ H Q I (k σ H Q hw)
def PW.imp(h:PW X e t)(k:∀σ H Q,t' σ H Q->t σ H Q):PW X e t':=λwh pins s σ H Q I hw=>h wh pins s σ H Q I (k σ H Q hw)
def PA.imp(h:PA X e t)(k:∀σ H Q,t' σ H Q->t σ H Q):PA X e t':=λpos pins s σ H Q I hw=>h pos pins s σ H Q I (k σ H Q hw)
section
variable{X:Cx}{K:bg}{pos:Pos}{a b c:ba}{ta tb:DE}{es:OS}{tA tB':DT}{tl:DA}
def Gf(i:Nat):DE:=λenv R=>∃d,(env[i]?).bind slD=OV d/\R (.vw i) env
def qv(i:Nat)(hN:X.N[i]?=some x:=by rfl)(hv:Vis X.env.scope x:=by walk_at"v0")(hd:(x==("__debug__" : bc))=false:=by decide)
  (b:(x==("__classdict__" : bc))=false:=by decide):PE X (.Name x pos) (up K (Gf i)):=(bJ hN hv hd b).imp λσ H Q h=>by
 let(M,P,H0,σ0,env,ts,R,a,(d,e,hR),c):=h;let(v,e1,_):=a.there e;show(v,e1,c _ _ _ _ hR (a.addVw e1))
theorem gP{α:Type}:∀{l:List α}{i:Nat}{x:α},l[i]?=OV x->∃A B,l=A++x::B/\∀y,l.set i y=A++y::B
 |[],i,x,h=>by simp at h
 |z::l,0,x,h=>by
  simp at h;subst h;show([],l,rfl,λy=>rfl)
 |z::l,i+1,x,h=>by
  let(A,B,e1,e2):=gP (l:=l) (i:=i) (x:=x) (by simpa using h);show(z::A,B,by rw[e1];rfl,λy=>by rw[List.set_cons_succ,e2 y];rfl)
def fm{α β:Type}(l:List α)(m:List β)(j:Nat):(l.zip m)[j]?=(l[j]?).bind λa=>(m[j]?).map λb=>(a,b):=by rw[pp,M1];cases l[j]? <;> cases m[j]? <;> rfl
def uA{σ:St}{env:OL}(h:σ[i]?=OV x):σ.zip (env.set i s')=(σ.zip env).set i (x,s'):=by apply sw;intro j;by_cases hj:i=j;subst hj;rw[L7,fm,fm,h];by_cases hi:i< -env;rw[KN hi,Kk hi];rfl;rw[Le (by simp;lia),Le (!0)];rfl;rw[KS hj,fm,fm,KS hj]
def Rel.split{M P:ac->Prop}{H0 H:Hp}{σ0 σ:St}{env:OL}{ts:Ox}{i:Nat}{s:Sl}(h:Rel K M P H0 σ0 σ env ts H)(e:env[i]?=OV s) :
  ∃x A B,σ[i]?=OV x/\aK σ env ts=A++(x,s)::B/\∀s',aK σ (env.set i s') ts=A++(x,s')::B:=by
 let(x,e1,m):=uB h.len e;let a:(σ.zip env)[i]?=OV (x,s):=by rw[pp,M1,e1,e]
 let(A,B,q1,q2):=gP a;show(x,A,B++tmp ts,e1,by unfold aK;rw[q1];simp,λs'=>?_);unfold aK;rw[uA e1,q2];simp
def zv(i:Nat):DE:=λenv R=>match env[i]? with
 |some (.fr d)=>R (.fr d) env
 |some (.tr _ d)=>R (.fr d) (env.set i (.fr d))
 |some (.ow ds)=>R (.fr (.list ds)) (env.set i (.fr (.list ds)))
 |_=>False
def Rel.frz(h:Rel K M P H0 σ0 σ env ts H)(e:env[i]?=OV (.ow ds)):Rel K M P H0 σ0 σ (env.set i (.fr (.list ds))) ts H:=by
 cbv;let(x,A,B,e1,q1,q2):=h.split e;let r:=h.e;rw[q1]at r;let(a,vs,z,_):=r.ow _ _ (Kl _ Ks);subst z
 w_up;show(by rw[q2];show r.freeze,by simp[h.len],h.vw,λj ds' b=>?_);by_cases hj:i=j;subst hj;let hi:i< -env:=(Kx.mp e).1;rw[KN hi]at b;cases b;rw[KS hj]at b;show h.ios j ds' b
def Rel.frzT(h:Rel K M P H0 σ0 σ env ts H)(e:env[i]?=OV (.tr S d)):Rel K M P H0 σ0 σ (env.set i (.fr d)) ts H:=by
 cbv;let(x,A,B,e1,q1,q2):=h.split e;let r:=h.e;rw[q1]at r;let(v,z,_):=r.tr _ _ _ (Kl _ Ks);subst z
 w_up;show(by rw[q2];show r.freezeT,by simp[h.len],h.vw,λj ds' a=>?_);by_cases hj:i=j;subst hj;let hi:i< -env:=(Kx.mp e).1;rw[KN hi]at a;cases a;rw[KS hj]at a;show h.ios j ds' a
set_option tactic.hygienic true in
def qf(i:Nat)(hN:X.N[i]?=some x:=by rfl)(hv:Vis X.env.scope x:=by walk_at"v0")(hd:(x==("__debug__" : bc))=false:=by decide)
  (c:(x==("__classdict__" : bc))=false:=by decide):PE X (.Name x pos) (up K (zv i)):=(bJ hN hv hd c).imp λσ H Q h=>by
 let(M,P,H0,σ0,env,ts,R,b,ht,f):=h;let key:∀env' d,Rel K M P H0 σ0 σ env' ts H->env'[i]?=OV (.fr d)->R (.fr d) env'->uu i σ H Q:=λenv' d a g hR=>by
  cbv;let(j,e1,m):=a.slot g;let(v,e2,dn):=a.e.fr _ _ m;subst e2
  w_up;show(v,e1,f _ _ _ _ hR (a.addFr dn))
 unfold zv at ht;split at ht;rename_i d e;show key env d b e ht;rename_i S d e;let hi:i< -env:=(Kx.mp e).1;show key _ _ (b.frzT e) (KN hi) ht;rename_i ds e;let hi:i< -env:=(Kx.mp e).1;show key _ _ (b.frz e) (KN hi) ht;show ht.elim
def dC(d:ab):DE:=λenv R=>R (.fr d) env
def aj:PE X (.Constant (.int i) j pos) (up K (dC (.int i))):=kL.imp λσ H Q h=>by
 let(M,P,H0,σ0,env,ts,R,a,ht,b):=h;show b _ _ _ _ ht (a.addFr (.int i))
def vv:PE X (.Constant (.bool i) j pos) (up K (dC (.bool i))):=G4.imp λσ H Q h=>by
 let(M,P,H0,σ0,env,ts,R,a,ht,b):=h;show b _ _ _ _ ht (a.addFr (.bl i))
def gM:PE X (.Constant .none j pos) (up K (dC .none)):=Ez.imp λσ H Q h=>by
 let(M,P,H0,σ0,env,ts,R,a,ht,b):=h;show b _ _ _ _ ht (a.addFr .non)
abbrev G2:=ab->ab->(ab->Prop)->Prop
def dOp(g:G2)(ta tb:DE):DE:=λenv R=>ta env λs1 b=>tb b λs2 a=>∃d1 d2,aV a s1=OV d1/\aV a s2=OV d2/\g d1 d2 λd=>R (.fr d) a
def cP(K:bg)(r:R2)(g:G2):Prop:=∀(N:ac->Prop) (H:Hp) (x y:V) (d1 d2:ab) (R:ab->Prop) (Q:VK),Vw K N H x d1->Vw K N H y d2->g d1 d2 R->(∀d v,R d->DN K N H v d->Q v H)->r x y H Q
def yx(m:cP K r g):∀σ H Q,up K (dOp g ta tb) σ H Q->tOp r (up K ta) (up K tb) σ H Q:=λσ H Q h=>by
 let(M,P,H0,σ0,env,ts,R,i,ht,k):=h;show(M,P,H0,σ0,env,ts,_,i,ht,λs1 c v1 H1 h1 e=>(M,P,H0,σ0,c,ts++[(v1,s1)],_,e,h1,λs2 f j H2 h2 a=>?_));let(d1,d2,e1,e2,g):=h2;show m _ H2 v1 j d1 d2 _ Q (a.view (!1) e1) (a.view (!1) e2) g λd v hR dn=>k _ _ _ _ hR ?_;let b:Rel K M P H0 σ0 σ f (ts++[(v1,s1),(j,s2)]) H2:=by simpa using a
 show b.res (bh.refl _) (by simpa using dn)
def aY(ho:OpR X (Qs op) r)(m:cP K r g)(c:PE X a (up K ta))(d:PE X b (up K tb)):PE X (.BinOp a op b pos) (up K (dOp g ta tb)):=(BQ ho c d).imp (yx m)
def Ej(ho:OpR X (zs op) r)(m:cP K r g)(c:PE X a (up K ta))(d:PE X b (up K tb))(e:QY op b=false:=by first|exact Ai _|with_unfolding_all rfl):PE X (.Compare a [op] [b] pos) (up K (dOp g ta tb)):=(BT ho c d e).imp (yx m)
def qr(t:DE):DT:=λenv R=>t env λs a=>∃k,aV a s=OV (.bool k)/\R k a
def uI{t:TE}{c:DE}(h:∀σ H Q,up K c σ H Q->t σ H Q):∀σ H Q,upT K (qr c) σ H Q->DP t σ H Q:=λσ H Q f=>by
 let(M,P,H0,σ0,env,ts,R,b,ht,g):=f;show h σ H _ (M,P,H0,σ0,env,ts,_,b,ht,λs1 d v1 H1 h1 a=>?_);let(k,e,hR):=h1;show(k,(a.view (!1) e).bool,g _ _ _ hR a.drop)
def aB(ho:OpR X (zs op) r)(m:cP K r g)(c:PE X a (up K ta))(d:PE X b (up K tb))(e:QY op b=false:=by first|exact Ai _|with_unfolding_all rfl):PT X (.Compare a [op] [b] pos) (upT K (qr (dOp g ta tb))):=(BC ho c d e).imp (uI (yx m))
def yj(c:IxR X r)(m:cP K r g)(d:PE X a (up K ta))(e:PE X b (up K tb))(hs:fK b:=by exactλY Y=>rfl):PE X (.Subscript a b pos) (up K (dOp g ta tb)):=(pL c d e hs).imp (yx m)
def rF(h:PE X e (up K t))(b:∀a,Zo e X.env a=(do let v <-a;Q0 e.pos;Qo [v] (ZX v)):=by intro _;rfl):PT X e (upT K (qr t)):=(Ep h b).imp (uI λY Y Y h=>h)
def HS(t u:DT):DT:=λenv R=>t env λk a=>if k=OX then u a R else R OY a
def dOr(t u:DT):DT:=λenv R=>t env λk a=>if k=OX then R OX a else u a R
def Gj(t:DT):DT:=λenv R=>t env λk a=>R (!k) a
def jE(b:PT X a (upT K tA)):PW X (.BoolOp .And [a] pos) (upT K tA):=BB b
def z0(b:PT X a (upT K tA)):PW X (.BoolOp .Or [a] pos) (upT K tA):=Em b
def mY(g:PT X a (upT K tA))(i:PW X (.BoolOp .And (b::es) pos) (upT K tB')):PW X (.BoolOp .And (a::b::es) pos) (upT K (HS tA tB')):=(Eo g i).imp λσ H Q h=>by
 let(M,P,H0,σ0,env,ts,R,e,ht,f):=h;show(M,P,H0,σ0,env,ts,_,e,ht,λk d H1 h1 c=>?_);cases k with
 |true=>show(M,P,H0,σ0,d,ts,R,c,h1,f)
 |false=>show f _ _ _ h1 c
def D8(g:PT X a (upT K tA))(i:PW X (.BoolOp .Or (b::es) pos) (upT K tB')):PW X (.BoolOp .Or (a::b::es) pos) (upT K (dOr tA tB')):=(G0 g i).imp λσ H Q h=>by
 let(M,P,H0,σ0,env,ts,R,e,ht,f):=h;show(M,P,H0,σ0,env,ts,_,e,ht,λk d H1 h1 c=>?_);cases k with
 |false=>show(M,P,H0,σ0,d,ts,R,c,h1,f)
 |true=>show f _ _ _ h1 c
def vk(e:PT X a (upT K tA)):PT X (.UnaryOp .Not a pos) (upT K (Gj tA)):=(Er e).imp λσ H Q h=>by
 let(M,P,H0,σ0,env,ts,R,c,ht,f):=h;show(M,P,H0,σ0,env,ts,_,c,ht,λk d H1 h1 b=>f _ _ _ h1 b)
def dIf(t:DT)(ta tb:DE):DE:=λenv R=>t env λk a=>if k=OX then ta a R else tb a R
def pF(hc:PT X c (upT K tA))(i:PE X a (up K ta))(j:PE X b (up K tb)):PE X (.IfExp c a b pos) (up K (dIf tA ta tb)):=(yv hc i j).imp λσ H Q h=>by
 let(M,P,H0,σ0,env,ts,R,f,ht,g):=h;show(M,P,H0,σ0,env,ts,_,f,ht,λk d H1 h1 e=>?_);cases k with
 |true=>show(M,P,H0,σ0,d,ts,R,e,h1,g)
 |false=>show(M,P,H0,σ0,d,ts,R,e,h1,g)
abbrev G1:=ab->(ab->Prop)->Prop
def dUn(g:G1)(ta:DE):DE:=λenv R=>ta env λs1 a=>∃d1,aV a s1=OV d1/\g d1 λd=>R (.fr d) a
def z6(ho:UnR X (unaryOp op) r)(m:∀(N:ac->Prop) (H:Hp) (x:V) (d1:ab) (R:ab->Prop) (Q:VK),Vw K N H x d1->g d1 R->(∀d v,R d->DN K N H v d->Q v H)->r x H Q)
  (f:PE X a (up K ta)):PE X (.UnaryOp op a pos) (up K (dUn g ta)):=(Ex ho f).imp λσ H Q h=>by
 let(M,P,H0,σ0,env,ts,R,c,ht,i):=h;show(M,P,H0,σ0,env,ts,_,c,ht,λs1 e v1 H1 h1 b=>?_);let(d1,e1,g):=h1;show m _ H1 v1 d1 _ Q (b.view (!1) e1) g λd v hR dn=>i _ _ _ _ hR (b.res (bh.refl _) dn)
def FG:DA:=λenv R=>R [] env
def w4(t:DE)(u:DA):DA:=λenv R=>t env λs a=>u a λss b=>R (s::ss) b
def ad:PA X [] (upA K FG):=d9.imp λσ H Q h=>by
 let(M,P,H0,σ0,env,ts,R,a,ht,b):=h;show b [] env [] H ht rfl (by simpa using a)
def aa(g:PE X a (up K ta))(i:PA X es (upA K tl))(hs:j0 (a::es) X.env=(false,eval a X.env)::j0 es X.env:=by rfl):PA X (a::es) (upA K (w4 ta tl)):=(b8 g i hs).imp λσ H Q h=>by
 let(M,P,H0,σ0,env,ts,R,f,ht,j):=h;show(M,P,H0,σ0,env,ts,_,f,ht,λs1 b v1 H1 h1 c=>(M,P,H0,σ0,b,ts++[(v1,s1)],_,c,h1,λss d vs H2 h2 k e=>?_));show j (s1::ss) d (v1::vs) H2 h2 (by simp[k]) (by simpa using e)
end
section
variable{K:bg}{M P N:ac->Prop}{H0 H:Hp}{σ0 σ:St}{env:OL}{ts tt:Ox}{v:V}{s:Sl}{d:ab}
def gI(f:Int->Int->Int):G2:=λd e R=>∃i j,d=.int i/\e=.int j/\R (.int (f i j))
def gIC(C:Int->Int->Prop)(f:Int->Int->Int):G2:=λd e R=>∃i j,d=.int i/\e=.int j/\C i j/\R (.int (f i j))
def gB(f:Int->Int->Bool):G2:=λd e R=>∃i j,d=.int i/\e=.int j/\R (.bool (f i j))
def mI:cP K (rI0 λi j=>.int (f i j)) (gI f):=by rintro N H x y d e R Q a b ⟨i,j,rfl,rfl,hR⟩ c;show(i,j,a.int,b.int,c _ _ hR (.int _))
def mIC:cP K (rI C λi j=>.int (f i j)) (gIC C f):=by rintro N H x y d e R Q a b ⟨i,j,rfl,rfl,hC,hR⟩ c;show(i,j,a.int,b.int,hC,c _ _ hR (.int _))
def mB:cP K (rI0 λi j=>.bl (f i j)) (gB f):=by rintro N H x y d e R Q a b ⟨i,j,rfl,rfl,hR⟩ c;show(i,j,a.int,b.int,c _ _ hR (.bl _))
def nC:cP K rEq (gB λi j=>decide (i=j)):=by rintro N H x y d e R Q a b ⟨i,j,rfl,rfl,hR⟩ c;rw[a.int,b.int];show(rfl,?_);let q:=c _ _ hR (.bl _);rwa [show decide (V.int i=V.int j)=decide (i=j) by simp]
def F2:cP K rNe (gB λi j=>!decide (i=j)):=by rintro N H x y d e R Q a b ⟨i,j,rfl,rfl,hR⟩ c;rw[a.int,b.int];show(rfl,?_);let q:=c _ _ hR (.bl _);rwa [show decide (V.int i=V.int j)=decide (i=j) by simp]
def gBB(f:Bool->Bool->Bool):G2:=λd e R=>∃i j,d=.bool i/\e=.bool j/\R (.bool (f i j))
def JV:cP K rEq (gBB λi j=>decide (i=j)):=by rintro N H x y d e R Q a b ⟨i,j,rfl,rfl,hR⟩ c;rw[a.bool,b.bool];show(rfl,?_);let q:=c _ _ hR (.bl _);rwa [show decide (V.bl i=V.bl j)=decide (i=j) by simp]
def gEq:G2:=λd e R=>shp d/\shp e/\R (.bool (eu d e))
def gNe:G2:=λd e R=>shp d/\shp e/\R (.bool (!PyData.eqv d e))
def mEq:cP K (GT K) gEq:=λN H x y d e R Q a b z c=>by let(h1,h2,hR):=z;show(d,e,a.dv,b.dv,h1,h2,c _ _ hR (.bl _))
def mNe:cP K (GR K) gNe:=λN H x y d e R Q a b z c=>by let(h1,h2,hR):=z;show(d,e,a.dv,b.dv,h1,h2,c _ _ hR (.bl _))
def l7:ab->Bool
 |.none=>OX
 |_=>OY
def Vw.isNon(w:Vw K N H v d):decide (v=.non)=l7 d:=by
 cases w with
 |dn h =>
  cases h with
  |fz h=>let(a,xs,e,_):=h.list;subst e;simp[l7]
  |_=>simp[l7]
 |ow h q=>simp[l7]
 |dct h q r e=>simp[l7]
 |idc h q e=>simp[l7]
def Gd:G2:=λd e R=>e=.none/\R (.bool (l7 d))
def zf:G2:=λd e R=>e=.none/\R (.bool (!l7 d))
def IC:cP K (λx y H Q=>y=.non/\Q (.bl (decide (x=.non))) H) Gd:=by rintro N H x y d e R Q a b ⟨rfl,hR⟩ c;show(b.none,by rw[a.isNon];show c _ _ hR (.bl _))
def v7:cP K (λx y H Q=>y=.non/\Q (.bl (!decide (x=.non))) H) zf:=by rintro N H x y d e R Q a b ⟨rfl,hR⟩ c;show(b.none,by rw[a.isNon];show c _ _ hR (.bl _))
def gb:ab->Oj
 |.list ds=>OV ds
 |.tuple ds=>OV ds
 |_=>OW
noncomputable def Fi:ab->Oy
 |.int i=>OV i
 |_=>OW
def fH:OM->Option OD
 |[]=>OV []
 |d::ds=>(Fi d).bind λi=>(fH ds).map (i::·)
theorem fV:∀ns:OD,fH (ns.map .int)=OV ns
 |[]=>rfl
 |n::ns=>by rw[Kw,fH,fV ns];rfl
theorem cH:∀{ds:OM}{ns:OD},fH ds=OV ns->ds=ns.map .int
 |[],ns,h=>by cases h;rfl
 |d::ds,ns,h=>by
  unfold fH at h;cases d <;> simp[Fi]at h
  let(a,h1,rfl):=h;rw[cH h1];rfl
def Vw.seq(w:Vw K N H v d)(e:gb d=OV ds):∃a vs,v=.ref a/\(SqL K H a vs\/SqT K H a vs)/\DNs K N H vs ds:=by
 cases d <;> simp[gb]at e
 subst e;let(a,vs,e1,s,q):=w.list;show(a,vs,e1,.inl s,q);subst e;let(a,vs,e1,s,q):=w.tuple;show(a,vs,e1,.inr s,q)
def sA(i:Int)(ns:OD):inV (.int i) (ns.map V.int)=decide (i∈ns):=by
 unfold inV
 induction ns with
 |nil=>rfl
 |cons n r a =>
  rw[Kw,LV,a];let:eqV (.int n) (.int i)=decide (n=i):=(show eqV (.int n) (.int i)=(n==i) from rfl).trans (by rw[L9];simp);rw[this];by_cases h1:n=i;simp[h1];let:¬i=n:=λz=>h1 z.symm;simp[h1,this]
def oq(ns:OD):(ns.map V.int).all l9=OX:=by rw[Mm];intro x hx;let(n,_,rfl):=Ko.mp hx;rfl
def gIn:G2:=λd e R=>∃i ds ns,d=.int i/\gb e=OV ds/\fH ds=OV ns/\R (.bool (decide (i∈ns)))
def wF:G2:=λd e R=>∃i ds ns,d=.int i/\gb e=OV ds/\fH ds=OV ns/\R (.bool (!decide (i∈ns)))
def mIn:cP K (rIn K OY) gIn:=by rintro N H x y d e R Q b c ⟨i,ds,ns,rfl,e1,e2,hR⟩ f;let(a,vs,rfl,s,q):=c.seq e1;rw[cH e2]at q;rw[q.ints]at s;rw[b.int];show(a,_,rfl,s,rfl,oq ns,?_);rw[sA];show f _ _ hR (.bl _)
def EO:cP K (rIn K OX) wF:=by rintro N H x y d e R Q b c ⟨i,ds,ns,rfl,e1,e2,hR⟩ f;let(a,vs,rfl,s,q):=c.seq e1;rw[cH e2]at q;rw[q.ints]at s;rw[b.int];show(a,_,rfl,s,rfl,oq ns,?_);rw[sA];show f _ _ hR (.bl _)
theorem DNs.atI(q:DNs K N H vs ds)(h:_L.atI ds i=OV e):∃v,_L.atI vs i=OV v/\DN K N H v e:=by
 unfold _L.atI at h ⊢;rw[q.len];cases hj:ixN (-ds) i with
 |none=>rw[hj]at h;cases h
 |some j =>
  rw[hj]at h;let h:ds[j]?=OV e:=h;let a:j< -vs:=by rw[q.len];show(Kx.mp h).1
  cbv;let(b,h1,h2):=q.get (Kk a);rw[h]at h1;cases h1
  w_up;show(vs[j],Kk a,h2)
def gIx:G2:=λd e R=>∃ds i x,gb d=OV ds/\e=.int i/\atI ds i=OV x/\R x
def Dk(K:bg):R2:=λx y H Q=>Ix K x y H Q\/Iw K x y H Q
def iM(hK:X.K=K):IxR X (Dk K):=by subst hK;show IxR.or Co Ff
def mIx:cP K (Dk K) gIx:=by rintro N H x y d e R Q f b ⟨ds,i,z,e1,rfl,e2,hR⟩ c;let(a,vs,rfl,s,q):=f.seq e1;let(u,e3,dn):=q.atI e2;rcases s with s|s;show .inl (a,vs,i,u,rfl,b.int,s,e3,c _ _ hR dn);show .inr (a,vs,i,u,rfl,b.int,s,e3,c _ _ hR dn)
inductive Vws (K:bg) (N:ac->Prop) (H:Hp):OU->OM->Prop
 |nil:Vws K N H [] []
 |cons {v d vs ds}:Vw K N H v d->Vws K N H vs ds->Vws K N H (v::vs) (d::ds)
def gC(env:OL):OL->Oj
 |[]=>OV []
 |s::ss=>(aV env s).bind λd=>(gC env ss).bind λds=>OV (d::ds)
theorem Rel.views(h:Rel K M P H0 σ0 σ env ts H):∀{vs:OU}{ss:OL}{ds:OM},-vs=-ss->(∀p∈vs.zip ss,p∈ts)->gC env ss=OV ds->Vws K (Nw M (aK σ env ts)) H vs ds
 |[],[],_,_,_,e=>by cases e;show .nil
 |v :: vs,s::ss,ds,a,b,e=>by
  unfold gC at e;cases e1:aV env s with
  |none=>rw[e1]at e;cases e
  |some d =>
   rw[e1]at e;cases e2:gC env ss with
   |none=>rw[e2]at e;cases e
   |some ds' =>
    rw[e2]at e;cases e;show .cons (h.view (b _ (!1)) e1) (h.views (by simpa using a) (λp c=>b p (by simp[c])) e2)
 |[],_::_,_,a,_,_=>by simp at a
 |_::_,[],_,a,_,_=>by simp at a
abbrev GB:=OM->(ab->Prop)->Prop
def dCB(g:GB)(t:DA):DE:=λenv R=>t env λss a=>∃ds,gC a ss=OV ds/\g ds λd=>R (.fr d) a
def kg(K:bg)(r:OU->Hp->VK->Prop)(g:GB):Prop:=∀(N:ac->Prop) (H:Hp) (xs:OU) (ds:OM) (R:ab->Prop) (Q:VK),Vws K N H xs ds->g ds R->(∀d v,R d->DN K N H v d->Q v H)->r xs H Q
def HV(m:kg K r g):∀σ H Q,up K (dCB g tl) σ H Q->tCB r (upA K tl) σ H Q:=λσ H Q h=>by
 let(M,P,H0,σ0,env,ts,R,b,ht,f):=h;show(M,P,H0,σ0,env,ts,_,b,ht,λss c vs H1 h1 i a=>?_);let(ds,e,g):=h1;show m _ H1 vs ds _ Q (a.views i (λp j=>Kl _ j) e) g λd v hR dn=>f _ _ _ _ hR (a.res (bh.refl _) dn)
section
variable{X:Cx}{x:bc}{p pos:Pos}{e:ba}{es:OS}{tl:DA}{id:String}{r:OU->Hp->VK->Prop}{g:GB}
def rG(hc:fM X (.builtin id) r)(m:kg K r g)(hg:Gl X x)(c:X.mg x=none)(hv:Qz x=some (.builtin id))(d:PA X (e::es) (upA K tl))(hn:x ≠ "__name__" := by decide)(a:(x==("__debug__" : bc))=false:=by decide)
  (f:j0 (e::es) X.env=(false,eval e X.env)::j0 es X.env:=by rfl) (b:(z4 pos (j0 es X.env)).any (·.1)=false:=by rfl):PE X (.Call (.Name x p) (e::es) [] pos) (up K (dCB g tl)) :=
 (ja hc hg c hv d hn a f b).imp (HV m)
end
def Fl:GB:=λds R=>∃d es,ds=[d]/\gb d=OV es/\R (.int (-es))
def JR:kg K (λxs H Q=>∃p ys,xs=[.ref p]/\(SqL K H p ys\/SqT K H p ys)/\Q (.int (-ys)) H) Fl:=by
 rintro N H xs ds R Q w ⟨d,es,rfl,e1,hR⟩ b;cases w with
 |cons c e =>
  cbv;cases e;let(a,vs,rfl,s,q):=c.seq e1
  w_up;show(a,vs,rfl,s,?_);rw[q.len];show b _ _ hR (.int _)
def Hw:GB:=λds R=>∃i j,ds=[.int i,.int j]/\R (.int (if j<i then j else i))
def Hd:kg K (λxs H Q=>∃i j,xs=[.int i,.int j]/\Q (.int (if j<i then j else i)) H) Hw:=by
 rintro N H xs ds R Q w ⟨i,j,rfl,hR⟩ b;cases w with
 |cons c a =>
  cases a with
  |cons a d =>
   cases d;show(i,j,by rw[c.int,a.int],b _ _ hR (.int _))
noncomputable def FK:ab->Option Bool
 |.bool i=>OV i
 |_=>OW
def qC:OM->Option (List Bool)
 |[]=>OV []
 |d::ds=>(FK d).bind λi=>(qC ds).map (i::·)
theorem gx:∀ns:List Bool,qC (ns.map .bool)=OV ns
 |[]=>rfl
 |n::ns=>by rw[Kw,qC,gx ns];rfl
def bH(env:OL):OL->Oj
 |[]=>OV []
 |s::ss=>(aM env s).bind λd=>(bH env ss).bind λds=>OV (d::ds)
def Rel.kept(h:Rel K M P H0 σ0 σ env (ts++tt) H)(m:(v,s)∈tt)(e:aM env s=OV d):DN K (Nw M (aK σ env ts)) H v d:=by
 let hE:=h.e;rw[aG]at hE;let sub:∀b,Nw M (aK σ env ts) b->Nw M (aK σ env ts++tmp tt) b:=λb z=>f6 z;let c:((OV v,s):Ent)∈aK σ env ts++tmp tt:=Kl _ (Ko.mpr ((v,s),m,rfl));cases s with
 |fr d' =>
  cbv;cases e;let(v',e1,dn):=hE.fr _ _ c;cases e1
  w_up;show dn.to λb Y Y z=>sub b z
 |ow ds =>
  cbv;cases e;let(a,vs,e1,e2,dn,h0):=hE.ow _ _ c;cases e1
  w_up;show .lst (SnL.of e2 ?_) (dn.to λb Y Y z=>sub b z);rintro(z|z);show hE.mt a z h0;let nd:=hE.nd;rw[am]at nd;show(Ky.mp nd).2.2 a z a (bu.mpr (_,Ko.mpr (_,m,rfl),Kj.mpr rfl)) rfl
 |tr S d' =>
  cbv;cases e;let(v',e1,ot,h0):=hE.tr _ _ _ c;cases e1
  w_up;show ot.dn sub λa f=>?_;rintro(z|z);show hE.mt a z (h0 a f);let nd:=hE.nd;rw[am]at nd;show(Ky.mp nd).2.2 a z a (bu.mpr (_,Ko.mpr (_,m,rfl),by rw[aZ];show f)) rfl
 |vw i =>
  let e:(env[i]?).bind slK=OV d:=e;cases q:env[i]? with
  |none=>rw[q]at e;cases e
  |some s' =>
   rw[q]at e;cases s' with
   |fr d' =>
    cbv;cases e;let(x,e1,m1):=h.slot q;rw[aG]at m1;let(v',e2,dn):=hE.fr _ _ m1;let e3:=h.vw v i (Kl _ m);rw[e1,e2]at e3;cases e3
    w_up;show dn.to λb Y Y z=>sub b z
   |_=>cases e
 |_=>cases e
theorem Rel.keptAll(h:Rel K M P H0 σ0 σ env (ts++tt) H):∀{vs:OU}{ss:OL}{ds:OM},-vs=-ss->(∀p∈vs.zip ss,p∈tt)->bH env ss=OV ds->DNs K (Nw M (aK σ env ts)) H vs ds
 |[],[],_,_,_,e=>by cases e;show .nil
 |v :: vs,s::ss,ds,a,b,e=>by
  unfold bH at e;cases e1:aM env s with
  |none=>rw[e1]at e;cases e
  |some d =>
   rw[e1]at e;cases e2:bH env ss with
   |none=>rw[e2]at e;cases e
   |some ds' =>
    rw[e2]at e;cases e;show .cons (h.kept (b _ (!1)) e1) (h.keptAll (by simpa using a) (λp c=>b p (by simp[c])) e2)
 |[],_::_,_,a,_,_=>by simp at a
 |_::_,[],_,a,_,_=>by simp at a
def Rel.newAddr(h:Rel K M P H0 σ0 σ env ts H)(a:H p=OW):¬Nw M (aK σ env ts) p:=by rintro(z|z);show h.e.live p (h.e.mt p z) a;let(vs,q,_):=h.e.own z;rw[a]at q;cases q
def Rel.resTup(h:Rel K M P H0 σ0 σ env (ts++tt) H)(a:H p=OW)(b:DNs K (Nw M (aK σ env ts)) H vs ds):Rel K M P H0 σ0 σ env (ts++[(.ref p,.fr (.tuple ds))]) (upd H p (.tup vs)) :=
 (h.drop.same (bh.new a)).addFr (.tup (SnT.of aC (h.drop.newAddr a)) (b.keep (bd.same (bh.new a))))
section
variable{X:Cx}{p pos:Pos}{e:ba}{es:OS}{tl:DA}
def Dp(t:DA):DE:=λenv R=>t env λss a=>∃ds,bH a ss=OV ds/\ss.length<=sizeLine/\R (.fr (.tuple ds)) a
def Gk(t:DA):DE:=λenv R=>t env λss a=>∃ds,bH a ss=OV ds/\ss.length<=sizeLine/\R (.ow ds) a
def bV(h:PA X es (upA K tl)):PE X (.Tuple es x1 pos) (up K (Dp tl)):=(Ey h).imp λσ H Q h=>by
 let(M,P,H0,σ0,env,ts,R,b,ht,f):=h;show(M,P,H0,σ0,env,ts,_,b,ht,λss d vs H1 h1 g a=>?_);let(ds,e,hz,hR):=h1;show(!0,λp c=>f _ _ _ _ hR (a.resTup c (a.keptAll g (λp c=>c) e)))
def bD(h:PA X es (upA K tl)):PE X (.List es pos) (up K (Gk tl)):=(vG h).imp λσ H Q h=>by
 let(M,P,H0,σ0,env,ts,R,b,ht,f):=h;show(M,P,H0,σ0,env,ts,_,b,ht,λss d vs H1 h1 g a=>?_);let(ds,e,hz,hR):=h1;show(!0,λp c=>f _ _ _ _ hR (a.drop.addOw c (a.keptAll g (λp c=>c) e)))
end
end
def D6(K:bg):R2:=λx y H Q=>∃l b xs a,x=.ref l/\y=.ref b/\SqL K H l xs/\SqL K H b a/\xs.length+-a<=sizeLine/\∀p,H p=OW->Q (.ref p) (upd H p (.lst (xs++a)))
def cw{X:Cx}{K:bg}(hK:X.K=K):OpR X (Qs .Add) (D6 K):=by
 subst hK;intro pins s σ H x y v u Q I k m h
 cbv;let(l,b,xs,A,rfl,rfl,o,hB,hz,q):=h;cases k;cases m;let(its,r,((cls,dd,data,sl),n,ho,hc,_,hd),z):=I.list o;let(a,i,((j,f,data2,g),p,c,d,_,e),z2):=I.list hB;simp only at hc hd d e;subst hc hd d e
 w_up;let B:=-r;let t:=-i;show ZD (_,ho,rfl) (_,c,rfl) noFill_list_add seq_list_add PySem.F.slot_list_add PySem.F.entry_list_add (PySem.F.args_list_add_2 _ _) (list_addW l b its.toArray a.toArray n p dd f sl g (by rw[KA,KA];lia)) (ho,c,?_);let w:its.toArray++a.toArray=(its++a).toArray:=!1
 rw[w];show(.ref _,_,I.lnew (t':=s.toks) (r.append i) (by rw[KD];lia),rfl,q _ I.fresh)
section
variable{K:bg}{M P N:ac->Prop}{H0 H H':Hp}{σ0 σ:St}{env:OL}{ts:Ox}{v:V}{s:Sl}{d:ab}
variable{X:Cx}{x:bc}{p pos:Pos}{a b e:ba}{es:OS}{ta tb:DE}{tl:DA}
def FF(g:ab->ab->(OM->Prop)->Prop)(ta tb:DE):DE:=λenv R=>ta env λs1 b=>tb b λs2 a=>∃d1 d2,aV a s1=OV d1/\aV a s2=OV d2/\g d1 d2 λds=>R (.ow ds) a
def tz(K:bg)(r:R2)(g:ab->ab->(OM->Prop)->Prop):Prop:=∀(N:ac->Prop) (H:Hp) (x y:V) (d1 d2:ab) (R:OM->Prop) (Q:VK),Vw K N H x d1->Vw K N H y d2->g d1 d2 R ->
 (∀ds vs p,R ds->DNs K N H vs ds->H p=OW->Q (.ref p) (upd H p (.lst vs)))->r x y H Q
def EK(m:tz K r g):∀σ H Q,up K (FF g ta tb) σ H Q->tOp r (up K ta) (up K tb) σ H Q:=λσ H Q h=>by
 let(M,P,H0,σ0,env,ts,R,f,ht,k):=h;show(M,P,H0,σ0,env,ts,_,f,ht,λs1 c v1 H1 h1 d=>(M,P,H0,σ0,c,ts++[(v1,s1)],_,d,h1,λs2 e j H2 h2 a=>?_));let(d1,d2,e1,e2,g):=h2;show m _ H2 v1 j d1 d2 _ Q (a.view (!1) e1) (a.view (!1) e2) g λds vs p hR i l=>k _ _ _ _ hR ?_;let b:Rel K M P H0 σ0 σ e (ts++[(v1,s1),(j,s2)]) H2:=by simpa using a
 show b.resOw l (by simpa using i)
def gd(ho:OpR X (Qs op) r)(m:tz K r g)(c:PE X a (up K ta))(d:PE X b (up K tb)):PE X (.BinOp a op b pos) (up K (FF g ta tb)):=(BQ ho c d).imp (EK m)
def Ge:ab->ab->(OM->Prop)->Prop:=λd e R=>∃xs ys,d=.list xs/\e=.list ys/\xs.length+-ys<=sizeLine/\R (xs++ys)
def sd:tz K (D6 K) Ge:=by rintro N H x y d e R Q a b ⟨xs,ys,rfl,rfl,hz,hR⟩ c;let(a1,v1,rfl,s1,q1):=a.list;let(a2,f,rfl,s2,q2):=b.list;show(a1,a2,v1,f,rfl,rfl,s1,s2,by rw[q1.len,q2.len];show hz,λp g=>c _ _ p hR (q1.app q2) g)
def zx(ta tb:DE):DE:=λenv R=>ta env λs1 b=>tb b λs2 a=>∃xs ys,aV a s1=OV (.tuple xs)/\aV a s2=OV (.tuple ys)/\xs.length+-ys<=sizeLine/\R (.fr (.tuple (xs++ys))) a
def rH(hK:X.K=K)(n:PE X a (up K ta))(o:PE X b (up K tb)):PE X (.BinOp a .Add b pos) (up K (zx ta tb)):=(BQ (Hm (K:=K) hK) n o).imp λσ H Q h=>by
 let(M,P,H0,σ0,env,ts,R,j,ht,k):=h;show(M,P,H0,σ0,env,ts,_,j,ht,λs1 e v1 H1 h1 f=>(M,P,H0,σ0,e,ts++[(v1,s1)],_,f,h1,λs2 g i H2 h2 d=>?_))
 cbv;let(xs,ys,e1,e2,hz,hR):=h2;let l:=d.view (v:=v1) (!1) e1;let m:=d.view (v:=i) (!1) e2;let c:Rel K M P H0 σ0 σ g (ts++[(v1,s1),(i,s2)]) H2:=by simpa using d
 let q:ts++[(v1,s1)]++[(i,s2)]=ts++[(v1,s1),(i,s2)]:=!1
 rw[q]at l m;let(a1,r,rfl,t1,q1):=l.tuple;let(a2,s,rfl,t2,q2):=m.tuple
 w_up;show(a1,a2,r,s,rfl,rfl,t1,t2,by rw[q1.len,q2.len];show hz,λz=>?_,λY z=>?_,λY Y p t=>?_);subst z;let:xs=[]:=by let:=q1.len;show xn this.symm
 subst this;cases m with
 |dn dn=>show k _ _ _ _ hR (c.res (bh.refl _) dn)
 subst z;let:ys=[]:=by let:=q2.len;show xn this.symm
 subst this;rw[K1]at hR;cases l with
 |dn dn=>show k _ _ _ _ hR (c.res (bh.refl _) dn)
 show k _ _ _ _ hR (c.resTup t ((q1.app q2).to λb Y Y z=>by rw[aG];show f6 z))
abbrev DO:=OL->(Oy->OL->Prop)->Prop
inductive upO (K:bg) (t:DO) (σ:St) (H:Hp) (Q:Oy->Hp->Prop):Prop
 |mk (M P:ac->Prop) (H0:Hp) (σ0:St) (env:OL) (ts:Ox) (R:Oy->OL->Prop):Rel K M P H0 σ0 σ env ts H->t env R ->
 (∀o env' H',R o env'->Rel K M P H0 σ0 σ env' ts H'->Q o H')->upO K t σ H Q
def PO.imp{e:Option ba}{t t':TO}(h:PO X e t)(k:∀σ H Q,t' σ H Q->t σ H Q):PO X e t':=λpins s σ H Q I hw=>h pins s σ H Q I (k σ H Q hw)
def mq:DO:=λenv R=>R OW env
def zu(t:DE):DO:=λenv R=>t env λs a=>∃i,aV a s=OV (.int i)/\R (OV i) a
def dU:PO X OW (upO K mq):=BI.imp λσ H Q h=>by
 let(M,P,H0,σ0,env,ts,R,a,ht,b):=h;show b _ _ _ ht a
def dS(h:PE X e (up K ta)):PO X (OV e) (upO K (zu ta)):=(BH h).imp λσ H Q h=>by
 let(M,P,H0,σ0,env,ts,R,b,ht,d):=h;show(M,P,H0,σ0,env,ts,_,b,ht,λs1 c v1 H1 h1 a=>?_);let(i,e1,hR):=h1;show(i,(a.view (!1) e1).int,d _ _ _ hR a.drop)
def oT{α:Type}(xs:List α)(lo hi:Oy):List α:=(xs.drop (HT.sIx (-xs) 0 lo)).take (HT.sIx (-xs) (-xs) hi-HT.sIx (-xs) 0 lo)
theorem DNs.drop{vs:OU}{ds:OM}(n:Nat)(q:DNs K N H vs ds):DNs K N H (vs.drop n) (ds.drop n) :=
 DNs.ind (C:=λvs ds=>∀n,DNs K N H (vs.drop n) (ds.drop n)) (λn=>by cases n <;> show .nil) (λg q z n=>by
  cases n with
  |zero=>show .cons g q
  |succ n=>show z n) q n
theorem DNs.take{vs:OU}{ds:OM}(n:Nat)(q:DNs K N H vs ds):DNs K N H (vs.take n) (ds.take n) :=
 DNs.ind (C:=λvs ds=>∀n,DNs K N H (vs.take n) (ds.take n)) (λn=>by cases n <;> show .nil) (λg q z n=>by
  cases n with
  |zero=>show .nil
  |succ n=>show .cons g (z n)) q n
def DNs.cut(q:DNs K N H vs ds)(lo hi:Oy):DNs K N H (Dq vs lo hi) (oT ds lo hi):=by unfold Dq oT;rw[q.len];show(q.drop _).take _
def Gg(te:DE)(tl th:DO):DE:=λenv R=>te env λs b=>tl b λl c=>th c λh a=>∃ds,aV a s=OV (.list ds)/\R (.ow (oT ds l h)) a
variable{lo hi:Option ba}{tlo thi:DO}{p2:Pos}
def ku(hK:X.K=K)(k:PE X e (up K ta))(m:PO X lo (upO K tlo))(n:PO X hi (upO K thi)):PE X (.Subscript e (.Slice lo hi OW p2) pos) (up K (Gg ta tlo thi)):=(yt (J0 (K:=K) hK) k m n).imp λσ H Q h=>by
 let(M,P,H0,σ0,env,ts,R,i,ht,o):=h;show(M,P,H0,σ0,env,ts,_,i,ht,λs1 c v1 H1 h1 d=>(M,P,H0,σ0,c,ts++[(v1,s1)],_,d,h1,λl f H2 h2 g=>(M,P,H0,σ0,f,ts++[(v1,s1)],_,g,h2,λu j s h3 b=>?_)));let(ds,e1,hR):=h3;let(a,vs,rfl,sq,q):=(b.view (v:=v1) (!1) e1).list;show(a,vs,rfl,sq,λp r=>o _ _ _ _ hR (b.resOw r (q.cut l u)))
def qt(t:DA):DE:=λenv R=>t env λss a=>∃s d ds,ss=[s]/\aV a s=OV d/\gb d=OV ds/\R (.ow ds) a
def lH(hK:X.K=K)(hg:Gl X "list")(i:X.mg "list" = none)(j:PA X [e] (upA K tl))(k:j0 [e] X.env=[(false,eval e X.env)]:=by rfl):PE X (.Call (.Name "list" p) [e] [] pos) (up K (qt tl)) :=
 (jM (Hk (K:=K) hK) hg i vb j (!2) (!2) k rfl).imp λσ H Q h=>by
 let(M,P,H0,σ0,env,ts,R,c,ht,m):=h;show(M,P,H0,σ0,env,ts,_,c,ht,λss g vs H1 h1 n b=>?_)
 cbv;let(s,d,ds,rfl,e1,e2,hR):=h1;let(v,rfl):=kB n;let(a,us,rfl,sq,q):=(b.view (v:=v) (!1) e1).seq e2
 w_up;show(a,us,rfl,sq,λl f=>m _ _ _ _ hR (b.resOw f q))
def wS(t:DA):DE:=λenv R=>t env λss a=>∃s d ds,ss=[s]/\aV a s=OV d/\gb d=OV ds/\R (.fr (.tuple ds)) a
def vn(hK:X.K=K)(hg:Gl X "tuple")(k:X.mg "tuple" = none)(m:PA X [e] (upA K tl))(n:j0 [e] X.env=[(false,eval e X.env)]:=by rfl):PE X (.Call (.Name "tuple" p) [e] [] pos) (up K (wS tl)) :=
 (jM (Fb (K:=K) hK) hg k PyProof.Rows.boot_tuple m (!2) (!2) n rfl).imp λσ H Q h=>by
 let(M,P,H0,σ0,env,ts,R,f,ht,i):=h;show(M,P,H0,σ0,env,ts,_,f,ht,λss j vs H1 h1 o c=>?_);let(s,d,ds,rfl,e1,e2,hR):=h1;let(v,rfl):=kB o;let w:=c.view (v:=v) (!1) e1;cases d <;> simp[gb]at e2
 subst e2;let(a,us,rfl,sq,q):=w.list;show(a,us,rfl,.inl (sq,λl g=>i _ _ _ _ hR (c.resTup g (q.to λb Y Y z=>by rw[aG];show f6 z))));subst e2;let(a,us,rfl,sq,q):=w.tuple;show(a,us,rfl,.inr (sq,i _ _ _ _ hR ?_));cases w with
 |dn dn=>show c.res (bh.refl _) dn
noncomputable def cR:Sl->OM->Option Sl
 |.ow _,ds=>OV (.ow ds)
 |.io _,ds=>OV (.io ds)
 |_,_=>OW
def ij:Sl->Oj
 |.ow ds=>OV ds
 |.io ds=>OV ds
 |_=>OW
def kF(h:cR s l=OV s'):Cp s l s'/\ij s'=OV l:=by
 cases s with
 |ow _=>cases h;show(rfl,rfl)
 |io _=>cases h;show(rfl,rfl)
 |_=>cases h
def u6{s:Sl}{l d:OM}(h:cR s l=OV (.io d)):∃a,s=.io a:=by
 cases s with
 |io a=>show(a,rfl)
 |_=>cases h
def rN(h:ij s=OV l):cR s l=OV s/\∀a,a∈dg (OV (.ref a),s):=by
 cases s with
 |ow _=>cases h;show(rfl,λa=>Kj.mpr rfl)
 |io _=>cases h;show(rfl,λa=>Kj.mpr rfl)
 |_=>cases h
theorem Rel.mut{i:Nat}{s s':Sl}{ds ds':OM}(h:Rel K M P H0 σ0 σ env ts H)(e:env[i]?=OV s)(es:cR s ds'=OV s'){a:ac}(g:σ[i]?=OV (OV (.ref a))){vs':OU}(b:DNs K (Nw M (aK σ env ts)) H vs' ds') :
  Rel K M P H0 σ0 σ (env.set i s') ts (upd H a (.lst vs')):=by
 cbv;let(x,A,B,e1,q1,q2):=h.split e;rw[g]at e1;cases e1
 w_up;let r:=h.e;rw[q1]at r b;show(by rw[q2];show r.mut (kF es).1 b,by simp[h.len],h.vw,λj c d=>?_);by_cases hj:i=j
 .cbv;subst hj;let hi:i< -env:=(Kx.mp e).1;rw[KN hi]at d;cases d;let(f,rfl):=u6 es
  w_up;show h.ios i f e
 rw[KS hj]at d;show h.ios j c d
def Rel.mine{i:Nat}{s:Sl}{ds:OM}(h:Rel K M P H0 σ0 σ env ts H)(e:env[i]?=OV s)(b:ij s=OV ds):∃a vs,σ[i]?=OV (OV (.ref a))/\H a=OV (.lst vs)/\DNs K (Nw M (aK σ env ts)) H vs ds:=by
 let(x,e1,m):=h.slot e;cases s with
 |ow d =>
  cbv;cases b;let(a,vs,z,q1,q2,_):=h.e.ow _ _ m;subst z
  w_up;show(a,vs,e1,q1,q2)
 |io d =>
  cbv;cases b;let(a,vs,z,q1,q2,_):=h.e.io _ _ m;subst z
  w_up;show(a,vs,e1,q1,q2)
 |_=>cases b
def Go(i:Nat)(te:DE):DE:=λenv R=>(∃ds,(env[i]?).bind ij=OV ds)/\te env λs a=>∃d b ds s',aM a s=OV d/\a[i]?=OV b/\ij b=OV ds/\ds.length<sizeLine/\cR b (ds++[d])=OV s'/\R (.fr .none) (a.set i s')
def mC{i:Nat}{ds:OM}(h:(env[i]?).bind ij=OV ds):∃s,env[i]?=OV s/\ij s=OV ds:=by
 cases e:env[i]? with
 |none=>rw[e]at h;cases h
 |some s=>rw[e]at h;show(s,rfl,h)
def iR(i:Nat){apos cpos npos:Pos}(hK:X.K=K)(hN:X.N[i]?=some y)(u:PE X e (up K ta))
  (hv:Vis X.env.scope y:=by walk_at"v0") (hd:(y==("__debug__" : bc))=false:=by decide)
  (o:(y==("__classdict__" : bc))=false:=by decide)
  (j:j0 [e] X.env=[(false,eval e X.env)]:=by rfl)
  (f:z5 (.Name y npos) "append" X.env (eval (.Name y npos) X.env)=eval (.Name y npos) X.env:=by rfl)
  (l:((z4 cpos (j0 [e] X.env)).all (λx=>!x.1)&&(QD cpos (Qk [] X.env)).all (λx=>x.1.isSome)&&decide ([e].length+([]:OR).length+(if ([]:OR).isEmpty then 0 else 1)<30))=true:=by rfl)
  (g:(apos.endLine==cpos.line)=true:=by rfl) (c:(z4 cpos (j0 [] X.env)).any (·.1)=false:=by rfl) :
  PE X (.Call (.Attribute (.Name y npos) "append" apos) [e] [] cpos) (up K (Go i ta)) :=
 (kBm (K:=K) hK ei n2 n0 jS (bJ hN hv hd o) (b8 u d9 j) f l g j c).imp λσ H Q h=>by
 cbv;let(M,P,H0,σ0,env,ts,R,m,((w,h0),ht),z):=h;let(E,A,B):=mC h0;let(a,vs,p,C,_):=m.mine A B
 w_up;show(.ref a,p,.inl (rfl,vs,SqL.of C),M,P,H0,σ0,env,ts,_,m,ht,λs1 t v1 H1 h1 b=>?_)
 cbv;let(d,s2,ds,s',k,e2,D,hz,es,hR):=h1;let(G,us,n,r,q):=b.drop.mine e2 D;rw[p]at n;cases n
 w_up;show(a,us,v1,rfl,rfl,r,by rw[q.len];show hz,?_);let dn:=b.kept (v:=v1) (s:=s1) (!1) k;show z _ _ _ _ hR ((b.drop.mut (ds:=ds) e2 es p (q.app (.cons dn .nil))).addFr .non)
def Gh(i:Nat):DE:=λenv R=>∃a ds d s',env[i]?=OV a/\ij a=OV ds/\ds.getLast? = OV d/\cR a ds.dropLast=OV s'/\R (.fr d) (env.set i s')
theorem DNs.dropLast:∀{vs:OU}{ds:OM},DNs K N H vs ds->DNs K N H vs.dropLast ds.dropLast:=λ{vs ds} q=>by
 rw[ri,ri,q.len];show q.take _
def tR(i:Nat){apos cpos npos:Pos}(hK:X.K=K)(hN:X.N[i]?=some y)
  (hv:Vis X.env.scope y:=by walk_at"v0") (hd:(y==("__debug__" : bc))=false:=by decide)
  (j:(y==("__classdict__" : bc))=false:=by decide)
  (b:z5 (.Name y npos) "pop" X.env (eval (.Name y npos) X.env)=eval (.Name y npos) X.env:=by rfl) (c:(apos.endLine==cpos.line)=true:=by rfl) :
  PE X (.Call (.Attribute (.Name y npos) "pop" apos) [] [] cpos) (up K (Gh i)) :=
 (Hn (K:=K) hK ei m6 m5 Aj (bJ hN hv hd j) b c).imp λσ H Q h=>by
 let(M,P,H0,σ0,env,ts,R,e,(t,ds,d,s',l,p,k,es,hR),s):=h;let(a,vs,n,o,q):=e.mine l p;let hn:-ds-1< -ds:=by
  cases ds with
  |nil=>simp at k
  |cons z r=>simp
 rw[List.getLast?_eq_getElem?]at k;let f:-vs-1< -vs:=by rw[q.len];show hn
 cbv;let(d',h1,dn):=q.get (Kk f);rw[q.len,k]at h1;cases h1
 w_up;show(.ref a,n,.inl (rfl,vs,SqL.of o),a,vs,vs[vs.length-1],rfl,rfl,o,Kk f,?_);let g:=e.addFr dn;let m:=g.mut (ds:=ds) (vs':=vs.dropLast) (ds':=ds.dropLast) l es n (by
  let : Nw M (aK σ env (ts++[(vs[vs.length-1],Sl.fr d)]))=Nw M (aK σ env ts):=by
   rw[aG];unfold Nw;let:oas (aK σ env ts++tmp [(vs[vs.length-1],Sl.fr d)])=oas (aK σ env ts):=by
    rw[am];let:oas (tmp [(vs[vs.length-1],Sl.fr d)])=[]:=by
     show oas [(OV vs[vs.length-1],Sl.fr d)]=[]
     rw[au];cases vs[vs.length-1] <;> rfl
    rw[this,K1]
   rw[this]
  rw[this];show q.dropLast)
 show s _ _ _ _ hR m
end
abbrev DSp:=OL->(Sl->OL->Prop)->Prop
def nP:Sl->Bool
 |.fr _=>OX
 |.ow _=>OX
 |.tr _ _=>OX
 |_=>OY
def uw(vs:OU)(ss:OL):ac->Prop:=λa=>a∈oas (tmp (vs.zip ss))
def spD(K:bg)(sp:DSp):Sp:=λvs H Q Y=>∃(M:ac->Prop) (ss:OL) (R:Sl->OL->Prop),-vs=-ss/\bS K M (uw vs ss) H (tmp (vs.zip ss)) H/\sp ss R /\
 ∀r a v H',R r a->nP r=OX->bS K M (uw vs ss) H (tmp ((v,r)::vs.zip a)) H'->Q v H'
section
variable{K:bg}{M P N:ac->Prop}{H0 H H':Hp}{E:OJ}{σ0 σ:St}{env:OL}{ts:Ox}{v:V}{s:Sl}{d:ab}
theorem kP:∀(vs:OU) (ds:OM),oas (tmp (vs.zip (ds.map Sl.fr)))=[]
 |[],_=>by simp[oas,tmp]
 |_::_,[]=>by simp[oas,tmp]
 |v::vs,d::ds=>by
  show oas ((OV v,Sl.fr d)::tmp (vs.zip (ds.map Sl.fr)))=[]
  rw[au,eW,kP vs ds];rfl
def iq(h:DNs K N H vs ds):(x,s)∈tmp (vs.zip (ds.map Sl.fr))->∃v d,x=OV v/\s=.fr d/\DN K N H v d:=DNs.ind (C:=λvs ds=>(x,s)∈tmp (vs.zip (ds.map Sl.fr))->∃v d,x=OV v/\s=.fr d/\DN K N H v d) (λm=>by simp[tmp]at m) (λ{v vs d ds} h _ i m=>by
  let m:(x,s)∈(OV v,Sl.fr d)::tmp (vs.zip (ds.map Sl.fr)):=m;rcases Kt.mp m with m|m;cases m;show(v,d,rfl,rfl,h);show i m) h
inductive dZ (K:bg) (N:ac->Prop) (Hc H':Hp):V->Sl->Prop
 |fr {v:V}{d:ab}:DN K N H' v d->dZ K N Hc H' v (.fr d)
 |ow {a:ac}{vs:OU}{ds:OM}:H' a=some (.lst vs)->DNs K (λb=>N b\/b=a) H' vs ds->Hc a=none->¬N a->dZ K N Hc H' (.ref a) (.ow ds)
 |tr {v:V}{d:ab}{S:OO}:OT K (λb=>N b\/b∈S) H' v d S->(∀a∈S,Hc a=none/\¬N a)->S.Nodup->dZ K N Hc H' v (.tr S d)
def bS.resOk(hc:bS K N g Hc ((OV v,r)::T) H')(h:nP r=OX):dZ K N Hc H' v r:=by
 cases r with
 |fr d =>
  cbv;let(w,e,dn):=hc.fr _ _ Ks;cases e
  w_up;show .fr (dn.to λb Y Y z=>.inl z)
 |ow ds =>
  cbv;let(a,vs,e,c,f,hn):=hc.ow _ _ Ks;cases e
  w_up;show .ow c (f.to λb Y Y z=>?_) hn λz=>hc.mt a z hn;rcases z with z|z;show .inl z;rw[z];show .inr (by rw[au];show Kp _ (Kj.mpr rfl))
 |tr S d =>
  cbv;let(w,e,ot,hn):=hc.tr _ _ _ Ks;cases e
  w_up;show .tr (ot.to λb Y Y z=>?_) (λa c=>(hn a c,λz=>hc.mt a z (hn a c))) ?_;rcases z with z|z;show .inl z;show .inr (by rw[au,aZ];show Kp _ z);let nd:=hc.nd;rw[au,aZ]at nd;show(Ky.mp nd).1
 |_=>cases h
theorem dZ.to(h:dZ K N Hc H' v r)(m:∀b,e b->N b):dZ K e Hc H' v r:=by
 cases h with
 |fr dn=>show .fr (dn.to λb Y Y z=>m b z)
 |ow c d hn f=>show .ow c (d.to λb Y Y z=>z.elim (λz=>.inl (m b z)) .inr) hn λz=>f (m _ z)
 |tr ot hn nd=>show .tr (ot.to λb Y Y z=>z.elim (λz=>.inl (m b z)) .inr) (λa c=>((hn a c).1,λz=>(hn a c).2 (m a z))) nd
def dZ.own(h:dZ K N Hc H' v r):(∀b∈dg (OV v,r),Hc b=OW/\¬N b)/\(dg (OV v,r)).Nodup:=by
 cases h with
 |fr dn=>rw[eW];show(λb a=>absurd a Ld,LA)
 |ow e c hn d=>show(λb a=>by rw[Kj.mp a];show(hn,d),KY.mpr (!1,LA))
 |tr ot hn nd=>rw[aZ];show(hn,nd)
def dZ.frD(h:dZ K N Hc H' v (.fr d)):DN K N H' v d:=by
 cases h with
 |fr dn=>show dn
def dZ.owD(h:dZ K N Hc H' v (.ow ds)):∃a vs,v=.ref a/\H' a=OV (.lst vs)/\DNs K (λb=>N b\/b=a) H' vs ds/\Hc a=OW:=by
 cases h with
 |ow d c hn e=>show(_,_,rfl,d,c,hn)
def dZ.ioD(h:dZ K N Hc H' v (.io ds)):False:=by cases h
def dZ.trD(h:dZ K N Hc H' v (.tr S d)):OT K (λb=>N b\/b∈S) H' v d S/\∀a∈S,Hc a=OW/\¬N a:=by
 cases h with
 |tr ot hn nd=>show(ot,hn)
def bS.getRes(h:bS K M P H0 E H')(j:∀b,H0 b≠OW->Hc b≠OW)(f:dZ K (Nw M E) Hc H' v r)
  (frs:∀x d,(x,Sl.fr d)∈E->∃w,x=OV w/\DN K (λb=>Nw M E b\/(b∈dg (OV v,r)/\Hc b=OW)) H' w d)
  (its:∀x s ds,(x,s)∈E->ij s=OV ds->∃a vs,x=OV (.ref a)/\H' a=OV (.lst vs)/\DNs K (λb=>Nw M E b\/(b∈dg (OV v,r)/\Hc b=OW)) H' vs ds)
  (ots:∀x S d,(x,Sl.tr S d)∈E->∃w,x=OV w/\OT K (λb=>Nw M E b\/(b∈dg (OV v,r)/\Hc b=OW)) H' w d S):bS K M P H0 (E++[(OV v,r)]) H':=by
 let(i,l):=f.own;let y:oas (E++[(OV v,r)])=oas E++dg (OV v,r):=by rw[am,au];simp[oas]
 let up:∀b,Nw M (E++[(OV v,r)]) b->Nw M E b\/b∈dg (OV v,r):=λb z=>by
  rcases z with z|z;show .inl (.inl z);rw[y]at z;rcases Km.mp z with z|z;show .inl (.inr z);show .inr z
 let g:∀b,Nw M (E++[(OV v,r)]) b->Nw M E b\/(b∈dg (OV v,r)/\Hc b=OW):=λb z=>(up b z).elim .inl λz=>.inr (z,(i b z).1);let h0:∀b,Hc b=OW->H0 b=OW:=λb hn=>by
  cases e:H0 b with
  |none=>rfl
  |some o=>show absurd hn (j b (by rw[e];simp))
 show(h.keep,h.live,h.mt,h.pm,λx d' m=>?_,λx d' m=>?_,λx d' m=>?_,λx S d' m=>?_,?_);rcases Km.mp m with m|m;let(w,e,dn):=frs x d' m;show(w,e,dn.to λb Y Y z=>g b z);rw[Kj]at m;let(e1,rfl):=lx m;show(v,e1,f.frD.to λb Y Y z=>(up b z).elim id λz=>by rw[eW]at z;show absurd z Ld)
 .rcases Km.mp m with m|m
  .cbv;let(b,us,e,e2,dn):=its x _ d' m rfl;let(A,n,k,p,_,r):=h.ow x d' m;rw[e]at k;cases k
   w_up;show(b,us,e,e2,dn.to λb Y Y z=>g b z,r)
  rw[Kj]at m;let(e1,rfl):=lx m;let(a,us,rfl,q,t,hn):=f.owD;show(a,us,e1,q,t.to λb Y Y z=>(up b z).elim .inl λz=>.inr (Kj.mp z),h0 _ hn)
 .rcases Km.mp m with m|m
  .cbv;let(b,us,e,e2,dn):=its x _ d' m rfl;let(A,n,k,p,_,r):=h.io x d' m;rw[e]at k;cases k
   w_up;show(b,us,e,e2,dn.to λb Y Y z=>g b z,r)
  rw[Kj]at m;let(e1,rfl):=lx m;show f.ioD.elim
 rcases Km.mp m with m|m;let(w,e,dn):=ots x S d' m;let(w',k,_,r):=h.tr x S d' m;show(w,e,dn.to λb Y Y z=>g b z,r);rw[Kj]at m;let(e1,rfl):=lx m;show(v,e1,f.trD.1.to λb Y Y z=>(up b z).elim .inl λz=>.inr (by rw[aZ]at z;show z),λa q=>h0 _ (f.trD.2 a q).1);rw[y];show Ky.mpr (h.nd,l,λb B c u z=>(i c u).2 (.inr (z▸B)))
def DN.past(h:DN K N Hc v d)(f:∀b,a b->N b\/Hc b=OW)(k:bd c Hc H')(g:∀b,c b->a b):DN K a H' v d :=
 (h.to λb o e z=>(f b z).elim id λz=>by rw[z]at e;cases e).keep (k.mono g)
def DNs.past(h:DNs K N Hc vs ds)(d:∀b,a b->N b\/Hc b=OW)(k:bd c Hc H')(f:∀b,c b->a b):DNs K a H' vs ds :=
 (h.to λb o e z=>(d b z).elim id λz=>by rw[z]at e;cases e).keep (k.mono f)
def OT.past(h:OT K N Hc v d S)(i:∀b,c b->N b\/Hc b=OW)(k:bd f Hc H')(j:∀b,f b->c b)(hs:∀b∈S,¬f b):OT K c H' v d S :=
 (h.to λb o e z=>(i b z).elim id λz=>by rw[z]at e;cases e).keep (k.mono j) λa g=>by
  let(xs,z):=h.lives a g;rw[k _ _ (hs a g) z,z]
def bS.called(h:bS K M P H0 E H)(k:bh H H')(c:dZ K (Nw M E) H H' v r):bS K M P H0 (E++[(OV v,r)]) H':=by
 show(h.same k).getRes h.live c (λx d m=>?_) (λx s ds m f=>?_) λx S d m=>?_
 rotate_right
 let(w,e,dn,_):=h.tr x S d m;show(w,e,dn.past (λb z=>z.elim .inl λz=>.inr z.2) (bd.same (N:=N0) k) (λb z=>z.elim) λb Y z=>z.elim);let(w,e,dn):=h.fr x d m;show(w,e,dn.past (λb z=>z.elim .inl λz=>.inr z.2) (bd.same (N:=N0) k) λb z=>z.elim)
 .cases s with
  |ow l =>
   cbv;cases f;let(a,vs,e,e2,dn,_):=h.ow x _ m
   w_up;show(a,vs,e,k _ _ e2,dn.past (λb z=>z.elim .inl λz=>.inr z.2) (bd.same (N:=N0) k) λb z=>z.elim)
  |io l =>
   cbv;cases f;let(a,vs,e,e2,dn,_):=h.io x _ m
   w_up;show(a,vs,e,k _ _ e2,dn.past (λb z=>z.elim .inl λz=>.inr z.2) (bd.same (N:=N0) k) λb z=>z.elim)
  |_=>cases f
def Rel.withRes(h:Rel K M P H0 σ0 σ env ts H)(e:bS K M P H0 (aK σ env ts++[(OV v,r)]) H')(a:nP r=OX):Rel K M P H0 σ0 σ env (ts++[(v,r)]) H' :=
  (by rw[aG];show e,h.len,(λw i m=>by
    rcases Km.mp m with m|m;show h.vw w i m;rw[Kj]at m;cases m;cases a),h.ios)
def w9(sp:DSp)(t:DA):DE:=λenv R=>t env λss a=>∃ds,bH a ss=OV ds/\sp (ds.map .fr) (dK (λr Y=>R r a) ⟨⟩)
def AQ(c:DNs K M' H vs ds)(f:∀a,M' a->H a≠OW):bS K M' (uw vs (ds.map .fr)) H (tmp (vs.zip (ds.map .fr))) H:=by
 let e:=kP vs ds;let ne:∀b,Nw M' (tmp (vs.zip (ds.map .fr))) b->M' b:=λb z=>z.elim id λz=>by rw[e]at z;cases z
 show(bd.refl,λa q=>q,f,λa z=>?_,λx d m=>?_,λx l m=>?_,λx l m=>?_,λx S l m=>?_,by rw[e];show LA)
 rotate_right
 let(w,d',e1,e2,dn):=iq c m;cases e2;let z:a∈oas (tmp (vs.zip (ds.map .fr))):=z;rw[e]at z;cases z
 .cbv;let(w,d',e1,e2,dn):=iq c m;cases e2
  w_up;show(w,e1,dn.to λb Y Y z=>ne b z)
 let(w,d',e1,e2,dn):=iq c m;cases e2;let(w,d',e1,e2,dn):=iq c m;cases e2
def Da:∀σ H Q,up K (w9 sp tl) σ H Q->uK (spD K sp) [] E0 (upA K tl) σ H Q:=λσ H Q h=>by
 let(M,P,H0,σ0,env,ts,R,i,ht,m):=h;show(M,P,H0,σ0,env,ts,_,i,ht,λss d vs H1 h1 n c=>?_);let(ds,o,j):=h1;rw[K1];let g:=c.keptAll n (λp q=>q) o;let s:=kP vs ds;show(Nw M (aK σ d ts),ds.map .fr,λr Y=>R r d,by simp[g.len],AQ g λa z hn=>c.drop.newAddr hn z,j,λr t v H' hR l f=>m _ _ _ _ hR ?_);let k:bh H1 H':=(f.keep.mono (M:=N0) λb z=>by
  let z:b∈oas (tmp (vs.zip (ds.map .fr))):=z;rw[s]at z;cases z).none
 show(c.drop).withRes (c.drop.e.called k (f.resOk l)) l
end
section
variable{K:bg}{M P:ac->Prop}{H0 H H':Hp}{E A B:OJ}{σ0 σ:St}{env:OL}{ts tt:Ox}{v:V}{s:Sl}{d:ab}
def fN(t:V×Sl)(ts:Ox):tmp (t::ts)=(OV t.1,t.2)::tmp ts:=rfl
def oW(ts tt:Ox):tmp (ts++tt)=tmp ts++tmp tt:=by simp[tmp]
def mH{α β:Type}{l1:List α}{m1:List β}(x:α)(y:β)(l2:List α)(m2:List β)(h:-l1=-m1):(l1++x::l2).zip (m1++y::m2)=l1.zip m1++(x,y)::l2.zip m2:=List.zip_append h
def AO(q1:DNs K M' H v1 d1)(q2:DNs K M' H c d2)(h:∀a,M' a->H a≠OW)(f:M' a)(i:H a=OV (.lst us))(j:DNs K M' H us l) :
  oas (tmp ((v1++.ref a::c).zip (d1.map .fr++.io l::d2.map .fr)))=[a] /\
  bS K M' (uw (v1++.ref a::c) (d1.map .fr++.io l::d2.map .fr)) H (tmp ((v1++.ref a::c).zip (d1.map .fr++.io l::d2.map .fr))) H:=by
 let g:(v1++.ref a::c).zip (d1.map Sl.fr++.io l::d2.map .fr)=v1.zip (d1.map .fr)++(.ref a,.io l)::c.zip (d2.map .fr):=mH _ _ _ _ (by simp[q1.len]);let e:oas (tmp ((v1++.ref a::c).zip (d1.map .fr++.io l::d2.map .fr)))=[a]:=by rw[g,oW,fN,am,au,kP,kP];rfl
 let ne:∀b,Nw M' (tmp ((v1++.ref a::c).zip (d1.map .fr++.io l::d2.map .fr))) b->M' b:=λb z=>z.elim id λz=>by rw[e,Kj]at z;rw[z];show f
 let cs:∀x s,(x,s)∈tmp ((v1++.ref a::c).zip (d1.map .fr++.io l::d2.map .fr))->(∃w d,x=OV w/\s=.fr d/\DN K M' H w d)\/(x=OV (.ref a)/\s=.io l):=λx s m=>by
  rw[g,oW,fN]at m;rcases Km.mp m with m|m;show .inl (iq q1 m);rcases Kt.mp m with m|m;cases m;show .inr (rfl,rfl);show .inl (iq q2 m)
 show(e,bd.refl,λa q=>q,h,λb z=>?_,λx d m=>?_,λx l' m=>?_,λx l' m=>?_,λx S l' m=>?_,by rw[e];simp)
 rotate_right
 rcases cs x _ m with⟨w,d',e1,e2,dn⟩|⟨_,e2⟩
 cases e2;cases e2;let z:b∈oas (tmp ((v1++.ref a::c).zip (d1.map .fr++.io l::d2.map .fr))):=z;rw[e,Kj]at z;rw[z];show f;rcases cs x _ m with⟨w,d',e1,e2,dn⟩|⟨_,e2⟩
 cases e2;show(w,e1,dn.to λb Y Y z=>ne b z);cases e2;rcases cs x _ m with⟨w,d',e1,e2,dn⟩|⟨_,e2⟩
 cases e2;cases e2;rcases cs x _ m with⟨w,d',e1,e2,dn⟩|⟨e1,e2⟩
 cases e2;cases e2;show(a,us,e1,i,j.to λb Y Y z=>ne b z,by show a∈oas _;rw[e];simp)
def bS.lost(h:bS K M P H0 (E++[(OV (.ref a),.ow l)]) H)(k:bd (λb=>b=a) H H')(t:∀b,H b≠OW->H' b≠OW):bS K M P H0 E H' /\
  (∀x d,(x,Sl.fr d)∈E->∃w,x=OV w/\∀c:ac->Prop,(∀b,c b->Nw M (E++[(OV (.ref a),.ow l)]) b\/H b=OW)->c a->DN K c H' w d) /\
  (∀x s ds,(x,s)∈E->ij s=OV ds->∃b vs,x=OV (.ref b)/\H' b=OV (.lst vs)/\∀c:ac->Prop,(∀b,c b->Nw M (E++[(OV (.ref a),.ow l)]) b\/H b=OW)->c a->DNs K c H' vs ds) /\
  (∀x S d,(x,Sl.tr S d)∈E->∃w,x=OV w/\∀c:ac->Prop,(∀b,c b->Nw M (E++[(OV (.ref a),.ow l)]) b\/H b=OW)->c a->OT K c H' w d S):=by
 let p:oas (E++[(OV (.ref a),Sl.ow l)])=oas E++[a]:=by rw[am];rfl
 let nd:=h.nd;rw[p]at nd
 cbv;let(u,_,y):=Ky.mp nd;let A:Nw M (E++[(OV (.ref a),Sl.ow l)]) a:=.inr (by rw[p];simp);let(_,_,z,_,_,h0):=h.ow _ _ (Kl _ Ks);cases z
 w_up;let sub:∀b,Nw M E b->Nw M (E++[(OV (.ref a),Sl.ow l)]) b:=λb z=>f6 z;let j:∀b,b=a->Nw M (E++[(OV (.ref a),Sl.ow l)]) b:=λb z=>by rw[z];show A
 let other:∀b x s,(x,s)∈E->b∈dg (x,s)->b≠a:=λb x s m i z=>y b (bu.mpr (_,m,i)) a (!1) z;show((?_,λb q=>t b (h.live b q),h.mt,h.pm,λx d m=>?_,λx d m=>?_,λx d m=>?_,λx S d m=>?_,u),λx d m=>?_,λx s ds m i=>?_,λx S d m=>?_)
 rotate_right
 let(v,e,dn,r):=h.tr x S d (Kp _ m);subst e;show(v,rfl,λc g f=>dn.past g k (λb z=>by rw[z];show f) λb n z=>other b _ _ m (by rw[aZ];show n) z)
 rotate_right 3
 let(v,e,dn,r):=h.tr x S d (Kp _ m);subst e;show(v,rfl,(dn.keep (k.mono j) λb n=>?_).to λb Y Y z=>sub b z,r);let(xs,z):=dn.lives b n;rw[k _ _ (other b _ _ m (by rw[aZ];show n)) z,z]
 rotate_left 2
 intro b o B e;show k b o (λz=>?_) (h.keep b o B e);rw[z,h0]at e;cases e;let(v,e,dn):=h.fr x d (Kp _ m);show(v,e,(dn.keep (k.mono j)).to λb Y Y z=>sub b z);let(b,us,e,e2,dn,r):=h.ow x d (Kp _ m);subst e;show(b,us,rfl,k _ _ (other b _ _ m (Kj.mpr rfl)) e2,(dn.keep (k.mono j)).to λb Y Y z=>sub b z,r);let(b,us,e,e2,dn,r):=h.io x d (Kp _ m);subst e;show(b,us,rfl,k _ _ (other b _ _ m (Kj.mpr rfl)) e2,(dn.keep (k.mono j)).to λb Y Y z=>sub b z,r);let(v,e,dn):=h.fr x d (Kp _ m);show(v,e,λc g f=>dn.past g k λb z=>by rw[z];show f)
 .cases s with
  |ow l' =>
   cbv;cases i;let(b,us,e,e2,dn,r):=h.ow x _ (Kp _ m);subst e
   w_up;show(b,us,rfl,k _ _ (other b _ _ m (Kj.mpr rfl)) e2,λc g f=>dn.past g k λb z=>by rw[z];show f)
  |io l' =>
   cbv;cases i;let(b,us,e,e2,dn,r):=h.io x _ (Kp _ m);subst e
   w_up;show(b,us,rfl,k _ _ (other b _ _ m (Kj.mpr rfl)) e2,λc g f=>dn.past g k λb z=>by rw[z];show f)
  |_=>cases i
def sT(sp:DSp)(t:DA):DE:=λenv R=>t env λss a=>∃l b ds,ss=.ow l::b/\bH a b=OV ds/\sp (.io l::ds.map .fr) (dK (λr Y=>R r a) ⟨⟩)
def zD:∀σ H Q,up K (sT sp tl) σ H Q->uK (spD K sp) [] E0 (upA K tl) σ H Q:=λσ H Q h=>by
 let(M,P,H0,σ0,env,ts,R,y,ht,J):=h;show(M,P,H0,σ0,env,ts,_,y,ht,λss c vs H1 h1 F o=>?_);let(l,A,ds,rfl,L,B):=h1;rw[K1]
 cbv;let(v1,vs',rfl):=F4 F;let i:Rel K M P H0 σ0 σ c ((ts++[(v1,.ow l)])++vs'.zip A) H1:=by simpa using o
 let n:=i.keptAll (by simpa using F) (λp N=>N) L;let g:=i.drop;let hE:=g.e;rw[aG]at hE;let(a,us,O,T,U,h0):=hE.ow (OV v1) l (Kl _ (by simp[tmp]));cases O
 w_up;let hE:bS K M P H0 (aK σ c ts++[(OV (.ref a),.ow l)]) H1:=hE;let q:Nw M (aK σ c (ts++[(.ref a,.ow l)]))=Nw M (aK σ c ts++[(OV (.ref a),.ow l)]):=by rw[aG];rfl
 rw[q]at n;let ma:Nw M (aK σ c ts++[(OV (.ref a),.ow l)]) a:=.inr (by rw[am];show Kl _ (bu.mpr (_,Kj.mpr rfl,Kj.mpr rfl)));let t:=AO (v1:=[]) (d1:=[]) (l:=l) (us:=us) (a:=a) (K:=K) (M':=Nw M (aK σ c ts++[(OV (.ref a),.ow l)])) (H:=H1) .nil n (λb z hn=>g.newAddr hn (by rw[q];show z)) ma T U;show(_,.io l::ds.map .fr,λr _=>R r c,by simp[n.len],t.2,B,λr V v H' hR G j=>J _ _ _ _ hR ?_);let k:bd (λb=>b=a) H1 H':=j.keep.mono λb z=>by
  let z:b∈oas (tmp ((.ref a::vs').zip (.io l::ds.map .fr))):=z;let I:=t.1;simp only[Mt,LQ]at I;rw[I,Kj]at z;show z
 let(u,W,X,Y):=hE.lost k j.live;let Z:=j.resOk G;let C:dZ K (Nw M (aK σ c ts)) H1 H' v r:=Z.to λb z=>f6 z;let D:∀b,((Nw M (aK σ c ts) b\/(b∈dg (OV v,r)/\H1 b=OW))\/b=a)->Nw M (aK σ c ts++[(OV (.ref a),.ow l)]) b\/H1 b=OW:=λb z=>by
  rcases z with (z|z)|z;show .inl (f6 z);show .inr z.2;rw[z];show .inl ma
 show g.drop.withRes ?_ G;show u.getRes g.e.live C (λx d m=>?_) (λx s ds' m eo=>?_) λx S d m=>?_
 rotate_right
 let(w,e,f):=Y x S d m;show(w,e,(f (λb=>(Nw M (aK σ c ts) b\/(b∈dg (OV v,r)/\H1 b=OW))\/b=a) D (.inr rfl)).to λb _ _ z=>.inl z);let(w,e,f):=W x d m;show(w,e,(f (λb=>(Nw M (aK σ c ts) b\/(b∈dg (OV v,r)/\H1 b=OW))\/b=a) D (.inr rfl)).to λb _ _ z=>.inl z);let(b,E,e,e2,f):=X x s ds' m eo;show(b,E,e,e2,(f (λb=>(Nw M (aK σ c ts) b\/(b∈dg (OV v,r)/\H1 b=OW))\/b=a) D (.inr rfl)).to λb _ _ z=>.inl z)
def oz(sp:DSp)(m:Nat)(t:DA):DE:=λenv R=>t env λss a=>∃i b l d1 d2,ss[m]?=OV (.vw i)/\a[i]?=OV b/\ij b=OV l/\bH a (ss.take m)=OV d1/\bH a (ss.drop (m+1))=OV d2 /\
 sp (d1.map .fr++.io l::d2.map .fr) (dK (λr as=>∃l' s',as[m]?=OV (.io l')/\cR b l'=OV s'/\R r (a.set i s')) ⟨⟩)
def xT{α β:Type}(l:List α)(m:List β)(n:Nat):∀p∈(l.take n).zip (m.take n),p∈l.zip m:=λp a=>by
 rw[pp,<-List.take_zipWith]at a;show LX a
def zm{α β:Type}(l:List α)(m:List β)(n:Nat):∀p∈(l.drop n).zip (m.drop n),p∈l.zip m:=λp a=>by
 rw[pp,<-List.drop_zipWith]at a;show LY a
def FJ{α:Type}{l:List α}{m:Nat}{x:α}(h:l[m]?=OV x):l=l.take m++x::l.drop (m+1):=by let(a,e):=Kx.mp h;rw[<-e,List.getElem_cons_drop,LU]
def zE:∀σ H Q,up K (oz sp m tl) σ H Q->uK (spD K sp) [] E0 (upA K tl) σ H Q:=λσ H Q h=>by
 let(M,P,H0,σ0,env,ts,R,X,ht,hq):=h;show⟨M,P,H0,σ0,env,ts,_,X,ht,λss f vs H1 h1 hl n=>?_⟩;let(i,G,l,d1,d2,em,I,J,k1,k2,Y):=h1;rw[K1];let c:=n.drop;let(a,us,Z,hH,ql):=c.mine I J;let hm:m< -ss:=(Kx.mp em).1;let a3:m< -vs:=!0
 let va:vs[m]?=OV (.ref a):=by
  let mz:(Pm (vs[m]) (ss[m]))∈vs.zip ss:=by
   let hz:m<(vs.zip ss).length:=by rw[LN];lia
   let:=KL hz;rwa [Mn]at this
  rw[(Kx.mp em).2]at mz;let q:=n.vw _ _ (Kl _ mz);rw[Z]at q;rw[Kk a3];show congrArg OV (di (di q)).symm
 let ev:=FJ va;let q1:=n.keptAll (vs:=vs.take m) (ss:=ss.take m) (by simp;lia) (xT _ _ _) k1;let q2:=n.keptAll (vs:=vs.drop (m+1)) (ss:=ss.drop (m+1)) (by simp;lia) (zm _ _ _) k2;let hE:=c.e;let ma:Nw M (aK σ f ts) a:=by
  cbv;let(x,e1,g):=c.slot I;rw[Z]at e1;cases e1
  w_up;show .inr (bu.mpr ⟨_,g,?_⟩);show(rN J).2 a
 let C:=AO (l:=l) (us:=us) (a:=a) q1 q2 (λb z hn=>c.newAddr hn z) ma hH ql;rw[<-ev]at C;let b3:=q1.len;let b4:=q2.len;show⟨_,d1.map .fr++.io l::d2.map .fr,_,?_,C.2,Y,λr D v H' hR hr o=>?_⟩;rw[ev];simp only[KD,K4,Ki];lia;let(l',s',e2,es,hR):=hR;show hq _ _ _ _ hR ?_;let k:bd (λb=>b=a) H1 H':=o.keep.mono λb z=>by
  let z:b∈oas (tmp (vs.zip (d1.map .fr++.io l::d2.map .fr))):=z;rw[C.1,Kj]at z;show z
 let mp:((Pm (OV (.ref a)) (.io l')):Ent)∈tmp ((Pm v r)::vs.zip D):=by
  rw[fN];show Kv _ (Ko.mpr ⟨(Pm (.ref a) (.io l')),?_,rfl⟩);let h2:m< -D:=(Kx.mp e2).1;let hz:m<(vs.zip D).length:=by rw[LN];lia
  let:=KL hz;rw[Mn,(Kx.mp va).2,(Kx.mp e2).2]at this;show this
 cbv;let(a',L,z,N,O,_):=o.io _ _ mp;cases z;let(x,A,B,e3,s,E):=c.split I;rw[Z]at e3;cases e3
 w_up;let p:Cp G l' s':=(kF es).1;rw[s]at hE;let a4:DNs K (Nw M (A++(Pm (OV (.ref a)) G)::B)) H' L l':=O.to λb _ _ z=>.inl (by rw[s];show z);let hM:=hE.muted p k o.live N a4;let u:Nw M (aK σ (f.set i s') ts)=Nw M (aK σ f ts):=by
  rw[s,E];let oa:dg (Pm (OV (.ref a)) G)=[a]/\dg (Pm (OV (.ref a)) s')=[a]:=by show gU p
  unfold Nw;rw[am,am,au,au,oa.1,oa.2]
 rw[<-E]at hM;let rk:dZ K (Nw M (aK σ (f.set i s') ts)) H1 H' v r:=by rw[u];show o.resOk hr
 let T:Rel K M P H0 σ0 σ (f.set i s') ts H':=⟨hM,by simp[c.len],c.vw,λj U V=>by
  by_cases hj:i=j
  .cbv;subst hj;let hi:i< -f:=(Kx.mp I).1;rw[KN hi]at V;cases V;let(a5,rfl):=u6 es
   w_up;show c.ios i a5 I
  rw[KS hj]at V;show c.ios j U V⟩
 show T.withRes ?_ hr;let old:∀x t,(Pm x t)∈aK σ (f.set i s') ts->(Pm x t)=(Pm (OV (.ref a)) s')\/((Pm x t)∈A\/(Pm x t)∈B):=λx t m=>by
  rw[E]at m;rcases Km.mp m with m|m;show .inr (.inl m);rcases Kt.mp m with m|m;show .inl m;show .inr (.inr m)
 let back:∀x t,(Pm x t)∈A\/(Pm x t)∈B->(Pm x t)∈A++(Pm (OV (.ref a)) G)::B:=λx t m=>by
  rcases m with m|m;show Kp _ m;show Kl _ (Kv _ m)
 let W:∀b,(Nw M (aK σ (f.set i s') ts) b\/(b∈dg (Pm (OV v) r)/\H1 b=OW))->Nw M (A++(Pm (OV (.ref a)) G)::B) b\/H1 b=OW:=λb z=>by
  rw[u,s]at z;show z.elim .inl λz=>.inr z.2
 let pa:∀b,b=a->(Nw M (aK σ (f.set i s') ts) b\/(b∈dg (Pm (OV v) r)/\H1 b=OW)):=λb z=>by rw[z,u];show .inl ma
 let a6:dg (Pm (OV (.ref a)) G)=[a]:=(gU p).1;let nd:=hE.nd;rw[am,au,a6]at nd;let(_,a7,b0):=Ky.mp nd;let(b2,_):=KY.mp a7;let other:∀x t b,(Pm x t)∈A\/(Pm x t)∈B->b∈dg (Pm x t)->b≠a:=λx t b m J z=>by
  subst z;rcases m with m|m;show b0 b (bu.mpr ⟨_,m,J⟩) b Ks rfl;show b2 (bu.mpr ⟨_,m,J⟩)
 show hM.getRes c.e.live rk (λx d g=>?_) (λx t ds' g y=>?_) λx S d g=>?_
 rotate_right
 rcases old _ _ g with g|g;rcases dM p with⟨_,_,e⟩|⟨_,_,e⟩ <;> (rw[e]at g;cases g)
 let(w,e,dn,_):=hE.tr x S d (back _ _ g);subst e;show⟨w,rfl,dn.past W k pa λb hb z=>other _ _ b g (by rw[aZ];show hb) z⟩;rcases old _ _ g with g|g;rcases dM p with⟨_,_,e⟩|⟨_,_,e⟩ <;> (rw[e]at g;cases g)
 let(w,e,dn):=hE.fr x d (back _ _ g);show⟨w,e,dn.past W k pa⟩
 .rcases old _ _ g with g|g
  .cbv;cases g;let el:ds'=l':=di (y.symm.trans (kF es).2);subst el
   w_up;show⟨a,L,rfl,N,O.to λb _ _ z=>?_⟩;rcases z with z|z;show .inl (by rw[<-u];show z);show .inr (by rw[fN,au];show Kp _ z.1)
  .cases t with
   |ow l2 =>
    cbv;cases y;let(b,us2,e,F,dn,_):=hE.ow x _ (back _ _ g);subst e
    w_up;show⟨b,us2,rfl,k _ _ (other _ _ b g (Kj.mpr rfl)) F,dn.past W k pa⟩
   |io l2 =>
    cbv;cases y;let(b,us2,e,F,dn,_):=hE.io x _ (back _ _ g);subst e
    w_up;show⟨b,us2,rfl,k _ _ (other _ _ b g (Kj.mpr rfl)) F,dn.past W k pa⟩
   |_=>cases y
end
structure iD where
 nx : OL->Prop
 rt : Sl->OL->Prop
 bk : OL->Prop:=λ_=>False
 ct : OL->Prop:=λ_=>False
abbrev DS:=iD->OL->Prop
def xL(ts:Ox):Prop:=∀v i,(v,Sl.vw i) ∉ ts
structure FT(K:bg)(M P:ac->Prop)(H0:Hp)(σ0:St)(ts:Ox)(DD:iD)(D:dA):Prop where
 nx : ∀σ' env' H',DD.nx env'->Rel K M P H0 σ0 σ' env' ts H'->D.nx σ' H'
 rt : ∀s env' v σ' H',DD.rt s env'->Rel K M P H0 σ0 σ' env' (ts++[(v,s)]) H'->D.rt v H'
 bk : ∀σ' env' H',DD.bk env'->Rel K M P H0 σ0 σ' env' ts H'->D.bk σ' H'
 ct : ∀σ' env' H',DD.ct env'->Rel K M P H0 σ0 σ' env' ts H'->D.ct σ' H'
inductive upS (K:bg) (t:DS) (D:dA) (σ:St) (H:Hp):Prop
 |mk (M P:ac->Prop) (H0:Hp) (σ0:St) (env:OL) (ts:Ox) (DD:iD):xL ts->Rel K M P H0 σ0 σ env ts H->t DD env->FT K M P H0 σ0 ts DD D->upS K t D σ H
def PS.imp(h:PS X e t)(k:∀D σ H,t' D σ H->t D σ H):PS X e t':=λpins s σ H D I hw=>h pins s σ H D I (k D σ H hw)
def PSs.imp(h:PSs X e t)(k:∀D σ H,t' D σ H->t D σ H):PSs X e t':=λpins s σ H D I hw=>h pins s σ H D I (k D σ H hw)
section
variable{K:bg}{M P:ac->Prop}{H0 H:Hp}{σ0 σ:St}{env:OL}{ts tt:Ox}{v:V}{s:Sl}{d:ab}
def kr(env:OL):Sl->Option Sl
 |.fr d=>OV (.fr d)
 |.ow ds=>OV (.ow ds)
 |.tr S d=>OV (.tr S d)
 |.vw i=>((env[i]?).bind slK).map .fr
 |_=>OW
def Rel.unVw(h:Rel K M P H0 σ0 σ env (ts++[(v,s)]) H)(e:kr env s=OV s'):Rel K M P H0 σ0 σ env (ts++[(v,s')]) H/\nP s'=OX:=by
 cases s with
 |fr d=>cases e;show(h,rfl)
 |ow ds=>cases e;show(h,rfl)
 |tr S d=>cases e;show(h,rfl)
 |vw i =>
  let e:((env[i]?).bind slK).map Sl.fr=OV s':=e;cases q:(env[i]?).bind slK with
  |none=>rw[q]at e;cases e
  |some d =>
   rw[q]at e;cases e;show(h.drop.addFr (h.kept (tt:=[(v,.vw i)]) (s:=.vw i) (!1) q),rfl)
 |_=>cases e
def xN:(σ.set i x).zip (env.set i s')=(σ.zip env).set i (x,s'):=by
 apply sw;intro j;rw[fm];by_cases hj:i=j;subst hj;rw[L7,L7,L7,fm];cases σ[i]? <;> cases env[i]? <;> rfl
 rw[KS hj,KS hj,KS hj,fm]
def Rel.store(h:Rel K M P H0 σ0 σ env (ts++[(v,s)]) H)(nv:xL ts)(hi:i< -env)(hs:nP s=OX):Rel K M P H0 σ0 (σ.set i (OV v)) (env.set i s) ts H:=by
 let a:i<(σ.zip env).length:=by rw[LN,h.len];lia
 let(A,B,q1,q2):=gP (Kk a);show(?_,by simp[h.len],λw j m=>absurd m (nv w j),λj ds e=>?_);let hE:=h.e;unfold aK at hE ⊢;rw[q1,oW,KU]at hE;rw[xN,q2,KU];let e2:((σ.zip env)[i]::B)++(tmp ts++tmp [(v,s)])=(σ.zip env)[i]::((B++tmp ts)++[(OV v,s)]):=by simp[tmp]
 rw[e2]at hE;let:=hE.move;simpa using this
 .by_cases hj:i=j
  .cbv;subst hj;rw[KN hi]at e;cases e
   w_up;cases hs
  rw[KS hj]at e;rw[KS hj];show h.ios j ds e
end
section
variable{X:Cx}{K:bg}{pos:Pos}{st:Stmt}{rest a b:List Stmt}{t u:DS}{e c:ba}{te:DE}{tc:DT}
def CY:DS:=λDD env=>DD.nx env
def FC(t u:DS):DS:=λDD env=>t { DD with nx:=u DD } env
def Kc(t u:DS):DS:=λDD env=>∃R:OL->Prop,t { DD with nx:=dI R ⟨⟩ } env/\∀env',R env'->u DD env'
def aT:PSs X [] (upS K CY):=BD.imp λD σ H h=>by
 let(M,P,H0,σ0,env,ts,DD,nv,a,ht,ok):=h;show ok.nx _ _ _ ht a
def ce(h1:PS X st (upS K t))(h2:PSs X rest (upS K u)):PSs X (st::rest) (upS K (FC t u)):=(lJ h1 h2).imp λD σ H h=>by
 let(M,P,H0,σ0,env,ts,DD,nv,a,ht,ok):=h;show(M,P,H0,σ0,env,ts,_,nv,a,ht,(λσ' env' H' q r=>(M,P,H0,σ0,env',ts,DD,nv,r,q,ok),ok.rt,ok.bk,ok.ct))
def jF(h1:PS X st (upS K t))(h2:PSs X rest (upS K u)):PSs X (st::rest) (upS K (Kc t u)):=(BE h1 h2).imp λD σ H h=>by
 let(M,P,H0,σ0,env,ts,DD,nv,a,(R,ht,hR),ok):=h;show(λσ' H'=>∃env',R env'/\Rel K M P H0 σ0 σ' env' ts H',(M,P,H0,σ0,env,ts,_,nv,a,ht,(λσ' env' H' q r=>(env',q,r),ok.rt,ok.bk,ok.ct)),
  λσ' H' z=>by let(env',q,r):=z;show(M,P,H0,σ0,env',ts,DD,nv,r,hR env' q,ok))
def ak(h1:PS X st (upS K t)):PSs X [st] (upS K t):=lI h1
def C6:DS:=λDD env=>DD.ct env
def tS:PS X (.Continue pos) (upS K C6):=pH.imp λD σ H h=>by
 let(M,P,H0,σ0,env,ts,DD,nv,a,ht,ok):=h;show ok.ct _ _ _ ht a
def wX(te:DE):DS:=λDD env=>te env λY a=>DD.nx a
def cL(d:PE X e (up K te))(hs:Q9 e none pos.line X.env=pure false:=by rfl):PS X (.Expr e pos) (upS K (wX te)):=(pG d hs).imp λD σ H h=>by
 let(M,P,H0,σ0,env,ts,DD,nv,b,ht,ok):=h;show(M,P,H0,σ0,env,ts,_,b,ht,λs1 c v1 H1 h1 a=>ok.nx _ _ _ h1 a.drop)
def FE(te:DE):DS:=λDD env=>te env DD.rt
def aR(d:PE X e (up K te)):PS X (.Return (OV e) pos) (upS K (FE te)):=(Aa d).imp λD σ H h=>by
 let(M,P,H0,σ0,env,ts,DD,nv,b,ht,ok):=h;show(M,P,H0,σ0,env,ts,_,b,ht,λs1 c v1 H1 h1 a=>ok.rt _ _ _ _ _ h1 a)
def Gm(c:DT)(t u:DS):DS:=λDD env=>c env λk a=>if k=OX then t DD a else u DD a
def eV(hc:PT X c (upT K tc))(g:PSs X a (upS K t))(i:PSs X b (upS K u)):PS X (.If c a b pos) (upS K (Gm tc t u)):=(G3 hc g i).imp λD σ H h=>by
 let(M,P,H0,σ0,env,ts,DD,nv,f,ht,ok):=h;show(M,P,H0,σ0,env,ts,_,f,ht,λk d H1 h1 e=>?_);cases k with
 |true=>show(M,P,H0,σ0,d,ts,DD,nv,e,h1,ok)
 |false=>show(M,P,H0,σ0,d,ts,DD,nv,e,h1,ok)
def AD(i:Nat)(te:DE):DS:=λDD env=>te env λs a=>∃s',i< -a/\kr a s=OV s'/\DD.nx (a.set i s')
def ax(i:Nat){x:bc}{a:Pos}(hN:X.N.Nodup)(f:PE X e (up K te))(hi:X.N[i]?=some x:=by rfl)(hx:Loc X.env.scope x:=by first|exact .inl rfl|exact .inr rfl)(hs:Q9 e (some (.Name x a)) pos.line X.env=pure false:=by rfl)(g:X.fn x=true\/X.env.scope.names.lookup x=some .local:=by walk_at"v1"):PS X (.Assign [.Name x a] e pos) (upS K (AD i te)) :=
 (z9 hN hi hx f hs g).imp λD σ H h=>by
 let(M,P,H0,σ0,env,ts,DD,nv,c,ht,ok):=h;show(M,P,H0,σ0,env,ts,_,c,ht,λs1 d v1 H1 h1 b=>?_);let(s',j,es,hR):=h1;let(r,cs):=b.unVw es;show ok.nx _ _ _ hR (r.store nv j cs)
end
abbrev DG:=ab->OL->(OL->Prop)->Prop
abbrev DGs:=OM->OL->(OL->Prop)->Prop
inductive upG (K:bg) (g:DG) (v:V) (σ:St) (H:Hp) (Q:St->Hp->Prop):Prop
 |mk (M P:ac->Prop) (H0:Hp) (σ0:St) (env:OL) (ts:Ox) (d:ab) (R:OL->Prop):xL ts->Rel K M P H0 σ0 σ env ts H->DN K (Nw M (aK σ env ts)) H v d->g d env R ->
 (∀σ' env' H',R env'->Rel K M P H0 σ0 σ' env' ts H'->Q σ' H')->upG K g v σ H Q
inductive DJ (K:bg) (g:DGs) (vs:OU) (σ:St) (H:Hp) (Q:St->Hp->Prop):Prop
 |mk (M P:ac->Prop) (H0:Hp) (σ0:St) (env:OL) (ts:Ox) (ds:OM) (R:OL->Prop):xL ts->Rel K M P H0 σ0 σ env ts H->DNs K (Nw M (aK σ env ts)) H vs ds->g ds env R ->
 (∀σ' env' H',R env'->Rel K M P H0 σ0 σ' env' ts H'->Q σ' H')->DJ K g vs σ H Q
def PG.imp(h:PG X e t)(k:∀v σ H Q,t' v σ H Q->t v σ H Q):PG X e t':=λpins s σ H v u Q I r hw=>h pins s σ H v u Q I r (k v σ H Q hw)
def PGs.imp(h:PGs X e t)(k:∀v σ H Q,t' v σ H Q->t v σ H Q):PGs X e t':=λpins s σ H v u Q I r hw=>h pins s σ H v u Q I r (k v σ H Q hw)
section
variable{K:bg}{M P N:ac->Prop}{H0 H H':Hp}{σ0 σ:St}{env:OL}{ts kp:Ox}{v:V}{s:Sl}{d:ab}{X:Cx}{pos:Pos}{e:ba}{es:OS}
def vW(v:V)(d:ab):oas (tmp [(v,Sl.fr d)])=[]:=by
 show oas [(OV v,Sl.fr d)]=[]
 rw[au];cases v <;> rfl
def rP:Nw M (E++tmp [(v,Sl.fr d)])=Nw M E:=by unfold Nw;rw[am,vW,K1]
def kY(i:Nat):DG:=λd env R=>i< -env/\R (env.set i (.fr d))
def al(i:Nat)(hN:X.N.Nodup)(hi:X.N[i]?=some x:=by rfl)(hx:Loc X.env.scope x:=by first|exact .inl rfl|exact .inr rfl)(b:X.fn x=true\/X.env.scope.names.lookup x=some .local:=by walk_at"v1"):PG X (.Name x pos) (upG K (kY i)) :=
 (pJ hN hi hx b).imp λv σ H Q h=>by
 let(M,P,H0,σ0,env,ts,d,R,nv,a,dn,(c,hR),e):=h;show e _ _ _ hR ((a.addFr dn).store nv c rfl)
def zq:DGs:=λds env R=>ds=[]/\R env
def ox(g:DG)(b:DGs):DGs:=λds env R=>∃d r,ds=d::r/\g d env λa=>b r a R
def cp:PGs X [] (DJ K zq):=BO.imp λv σ H Q h=>by
 cbv;let(M,P,H0,σ0,env,ts,ds,R,nv,a,dn,(rfl,hR),b):=h;cases dn
 w_up;show(rfl,b _ _ _ hR a)
theorem sv(env:OL):∀ds:OM,bH env (ds.map .fr)=OV ds
 |[]=>rfl
 |d::ds=>by
  show(aM env (Sl.fr d)).bind _=_;rw[sv env ds];rfl
def B4(vs:OU)(ds:OM)(nv:xL ts):xL (ts++vs.zip (ds.map .fr)):=λw i m=>by
 rcases Km.mp m with m|m;show nv w i m;let(d,_,e):=Ko.mp (Ma m).2;cases e
def Rel.addFrs{vs:OU}{ds:OM}{ts:Ox}(a:Rel K M P H0 σ0 σ env ts H)(q:DNs K (Nw M (aK σ env ts)) H vs ds):Rel K M P H0 σ0 σ env (ts++vs.zip (ds.map .fr)) H:=by
 induction vs generalizing ds ts with
 |nil=>cases q;simpa using a
 |cons v vs i =>
  cases q with
  |@cons _ _ d ds h q =>
   let r:=a.addFr h;let q':DNs K (Nw M (aK σ env (ts++[(v,.fr d)]))) H vs ds:=q.to λb Y Y z=>by rw[aG,rP]at z;show z
   let:=i r q';simpa using this
def aI(h1:PG X e (upG K g))(h2:PGs X es (DJ K j))(hs:(Qh (e::es) X.env).map (·.2)=assign e X.env::(Qh es X.env).map (·.2):=by rfl):PGs X (e::es) (DJ K (ox g j)) :=
 (yr h1 h2 hs).imp λvs σ H Q h=>by
 let(M,P,H0,σ0,env,ts,ds,R,nv,f,dn,(d,r,rfl,hg),k):=h;cases dn with
 |@cons v vs _ _ h q =>
  let c:=f.addFrs q;let hN:DN K (Nw M (aK σ env (ts++vs.zip (r.map .fr)))) H v d:=h.to λb Y Y z=>by
   rw[aG]at z;rcases z with z|z;show .inl z;rw[am,kP,K1]at z;show .inr z
  show(v,vs,rfl,M,P,H0,σ0,env,ts++vs.zip (r.map .fr),d,_,B4 _ _ nv,c,hN,hg,λσ' env' H' i a=>?_);show(M,P,H0,σ0,env',ts,r,R,nv,a.drop,a.keptAll (by simp[q.len]) (λp l=>l) (sv _ _),i,k)
def zo(n:Nat)(a:DGs):DG:=λd env R=>∃ds,d=.tuple ds/\ds.length=n/\a ds env R
def dJ{k:Nat}{e:DGs}{n:Nat}(hK:X.K=K)(hc:X.calm=true)(h:PGs X es (DJ K e))(hn:(Qh es X.env).length=n:=by rfl)(b:(Qh es X.env).findIdx? (·.1)=none:=by rfl):PG X (.Tuple es k pos) (upG K (zo n e)) :=
 (Hj (K:=K) hK hc h hn b).imp λv σ H Q h=>by
 let(M,P,H0,σ0,env,ts,d,R,nv,c,dn,(ds,rfl,f,hg),g):=h;let(a,xs,rfl,i,q):=dn.tuple;show(a,xs,rfl,i.sq,by rw[q.len];show f,M,P,H0,σ0,env,ts,ds,R,nv,c,q,hg,g)
def HR(te:DE)(g:DG):DS:=λDD env=>te env λs a=>∃d,aM a s=OV d/\g d a DD.nx
def BA(f:PE X e (up K te))(hg:PG X tg (upG K g))(hs:QG [tg] e pos.line X.env=pure false:=by rfl)(hw:QH [tg] e X.env=pure none:=by rfl)
  (h1:(Qh [tg] X.env).map (·.2)=[assign tg X.env]:=by rfl):PS X (.Assign [tg] e pos) (upS K (HR te g)):=(rK f hg hs hw h1).imp λD σ H h=>by
 let(M,P,H0,σ0,env,ts,DD,nv,c,ht,ok):=h;show(M,P,H0,σ0,env,ts,_,c,ht,λs1 b v1 H1 h1 a=>?_);let(d,k,hg):=h1;show(M,P,H0,σ0,b,ts,d,_,nv,a.drop,a.kept (v:=v1) (s:=s1) (!1) k,hg,λσ' env' H' hR r=>ok.nx _ _ _ hR r)
structure k7(K:bg)(J:It)(kp:Ox)(ds:OM):Prop where
 go : ∀{M P:ac->Prop}{H0 H:Hp}{σ0 σ:St}{env:OL}{ts:Ox},Rel K M P H0 σ0 σ env (ts++kp) H->∀i,i<ds.length->J.go i H
 yld:∀{M P:ac->Prop}{H0 H:Hp}{σ0 σ:St}{env:OL}{ts:Ox},Rel K M P H0 σ0 σ env (ts++kp) H->∀i x H',(hi:i<ds.length)->J.yld i H x H'->bh H H'/\DN K (Nw M (aK σ env (ts++kp))) H' x ds[i]
 stop:∀{M P:ac->Prop}{H0 H:Hp}{σ0 σ:St}{env:OL}{ts:Ox},Rel K M P H0 σ0 σ env (ts++kp) H->J.stop ds.length H
 nv : xL kp
abbrev DI:=OL->(OM->OL->Prop)->Prop
inductive upI (K:bg) (t:DI) (σ:St) (H:Hp) (R:It->Hp->Prop):Prop
 |mk (M P:ac->Prop) (H0:Hp) (σ0:St) (env:OL) (ts:Ox) (RR:OM->OL->Prop):Rel K M P H0 σ0 σ env ts H->t env RR ->
 (∀ds env' J H' kp,RR ds env'->Rel K M P H0 σ0 σ env' (ts++kp) H'->k7 K J kp ds->R J H')->upI K t σ H R
def PI.imp(h:PI X tg iter t)(k:∀σ H R,t' σ H R->t σ H R):PI X tg iter t':=λpins s σ H R I hw=>h pins s σ H R I (k σ H R hw)
def cV(c:Rel K M P H0 σ0 σ env ts H)(m:(.ref a,.fr (if b then .tuple ds else .list ds))∈ts):∃xs,SqB K H b a xs/\DNs K (Nw M (aK σ env ts)) H xs ds:=by
 cbv;let(v,e,dn):=c.e.fr _ _ (fF m);cases e
 w_up;cases b with
 |false =>
  cbv;let(f,xs,e,d,q):=DN.list dn;cases e
  w_up;show(xs,d.sq,q)
 |true =>
  cbv;let(f,xs,e,d,q):=DN.tuple dn;cases e
  w_up;show(xs,d.sq,q)
def DNs.item(q:DNs K N H vs ds)(hi:i< -ds):∃x,vs[i]?=OV x/\DN K N H x ds[i]:=by
 let hv:i< -vs:=by rw[q.len];show hi
 cbv;let(e,h1,h2):=q.get (Kk hv);rw[Kk hi]at h1;cases h1
 w_up;show(vs[i],Kk hv,h2)
def yA:xL [(v,Sl.fr d)]:=λw i m=>by rw[Kj]at m;cases m
def wv:k7 K (Itl K a) [(.ref a,.fr (.list ds))] ds where
 go := λc i hi=>by
  let(xs,s,q):=cV (b:=OY) (a:=a) (ds:=ds) c (Kl _ (!1));let(x,e,_):=q.item hi;show(xs,x,s,e)
 yld:=λc i x H' hi y=>by
  cbv;let(xs,s,q):=cV (b:=OY) (a:=a) (ds:=ds) c (Kl _ (!1));let(e,y):=y;subst e;let(f,d,dn):=q.item hi;rw[y xs s]at d;cases d
  w_up;show(bh.refl _,dn)
 stop:=λc=>by
  let(xs,s,q):=cV (b:=OY) (a:=a) (ds:=ds) c (Kl _ (!1));show(xs,s,by rw[q.len];show Kz _)
 nv := yA
noncomputable def iH(lo:Int)(n:Nat):OM:=(dm n).map λ(k:Nat)=>db (lo+k)
def aD(lo:Int)(n:Nat):(iH lo n).length=n:=by simp[iH]
def bG(lo:Int)(n i:Nat)(h:i<(iH lo n).length):(iH lo n)[i]=.int (lo+i):=by simp[iH]
def uh{lo:Int}{n:Nat}:k7 K (Itr lo n) [] (iH lo n) where
 go := λa i hi=>by rw[aD]at hi;show hi
 yld:=λa i x H' hi y=>by
  let(e,y):=y;subst e;rw[bG,y];show(bh.refl _,.int _)
 stop:=λa=>by rw[aD];show Kz _
 nv := λw i m=>by cases m
noncomputable def mi(ds:OM):OM:=ds.zipIdx.map λ(p:ab×Nat)=>gr [.int p.2,p.1]
def bA(ds:OM):(mi ds).length=-ds:=by simp[mi]
def eB(ds:OM)(i:Nat)(h:i<(mi ds).length):(mi ds)[i]=.tuple [.int i,ds[i]'(by rw[bA]at h;exact h)]:=by simp[mi]
def ww:k7 K (Ite K b a) [(.ref a,.fr (if b then .tuple ds else .list ds))] (mi ds) where
 go := λc i hi=>by
  rw[bA]at hi;let(xs,s,q):=cV (b:=b) (a:=a) (ds:=ds) c (Kl _ (!1));let(x,e,_):=q.item hi;show(xs,x,s,e)
 yld:=λ{M P H0 H σ0 σ env ts} c i x H' hi y=>by
  rw[eB];rw[bA]at hi
  cbv;let(xs,s,q):=cV (b:=b) (a:=a) (ds:=ds) c (Kl _ (!1));let(p,x1,rfl,d,rfl,y):=y;let(g,f,dn):=q.item hi;rw[y xs s]at f;cases f
  w_up;show(bh.new d,DN.of2 (SnT.of aC (c.newAddr d)) (.int _) (dn.keep (bd.same (bh.new d))))
 stop:=λc=>by
  let(xs,s,q):=cV (b:=b) (a:=a) (ds:=ds) c (Kl _ (!1));show(xs,s,by rw[q.len,bA])
 nv := yA
end
section
variable{K:bg}{M P:ac->Prop}{H0 H H':Hp}{σ0 σ:St}{env:OL}{ts kp:Ox}{v:V}{s:Sl}{X:Cx}{pos p:Pos}{e e1 tg iter:ba}{es:OS}{te:DE}{tl:DA}
def sQ(te:DE):DI:=λenv RR=>te env λs a=>∃ds,aM a s=OV (.list ds)/\RR ds a
def aE(h:PE X e (up K te))(hK:X.K=K:=by rfl):PI X tg e (upI K (sQ te)):=(EX (K:=K) hK h).imp λσ H R h=>by
 let(M,P,H0,σ0,env,ts,RR,c,ht,f):=h;show(M,P,H0,σ0,env,ts,_,c,ht,λs1 d v1 H1 h1 b=>?_);let(ds,k,hR):=h1;let dn:=b.kept (v:=v1) (s:=s1) (!1) k;let(a,xs,rfl,g,q):=dn.list;show(a,rfl,(xs,g.sq),f _ _ _ _ _ hR (b.drop.addFr dn) wv)
def zr(ta:DA):DI:=λenv RR=>ta env λss a=>∃s j,ss=[s]/\aV a s=OV (.int j)/\-4611686018427387904<=j/\j<4611686018427387904/\RR (iH 0 j.toNat) a
def dW(hg:Gl X "range")(d:X.mg "range" = none)(f:PA X [e] (upA K tl))(hs:j0 [e] X.env=[(false,eval e X.env)]:=by rfl):PI X tg (.Call (.Name "range" p) [e] [] pos) (upI K (zr tl)):=(vC hg d f hs).imp λσ H R h=>by
 let(M,P,H0,σ0,env,ts,RR,b,ht,g):=h;show(M,P,H0,σ0,env,ts,_,b,ht,λss c vs H1 h1 i a=>?_);let(s,j,rfl,e1,b1,k,hR):=h1;let(v,rfl):=kB i;let w:=(a.view (v:=v) (!1) e1).int;show(j,by rw[w],b1,k,g _ _ _ _ [] hR (by simpa using a.drop) uh)
def sqD(b:Bool)(ds:OM):ab:=if b then .tuple ds else .list ds
def zw(b:Bool)(ta:DA):DI:=λenv RR=>ta env λss a=>∃s ds,ss=[s]/\aM a s=OV (sqD b ds)/\RR (mi ds) a
def jH(b:Bool)(hK:X.K=K)(hg:Gl X "enumerate")(l:X.mg "enumerate" = none)(m:PA X [e] (upA K tl))(hs:j0 [e] X.env=[(false,eval e X.env)]:=by rfl) :
  PI X (.Tuple es j d) (.Call (.Name "enumerate" p) [e] [] pos) (upI K (zw b tl)):=(EY (K:=K) hK b hg l m hs).imp λσ H R h=>by
 let(M,P,H0,σ0,env,ts,RR,f,ht,n):=h;show(M,P,H0,σ0,env,ts,_,f,ht,λss g vs H1 h1 o c=>?_)
 cbv;let(s,ds,rfl,k,hR):=h1;let(v,rfl):=kB o;let dn:=c.kept (v:=v) (s:=s) (!1) k;let i:=c.drop.addFr dn;let hv:∃a,v=.ref a:=by
  cases b with
  |false=>let(a,_,e,_):=DN.list dn;show(a,e)
  |true=>let(a,_,e,_):=DN.tuple dn;show(a,e)
 let(a,rfl):=hv;let(xs,sq,_):=cV (b:=b) (a:=a) (ds:=ds) i (Kl _ (by simp[sqD]))
 w_up;show(a,xs,rfl,sq,n _ _ _ _ _ hR i ww)
def Rel.dropMid(h:Rel K M P H0 σ0 σ env (ts++kp++[t]) H):Rel K M P H0 σ0 σ env (ts++[t]) H:=by
 show(?_,h.len,λw i m=>h.vw w i (by
  rcases Km.mp m with m|m;show Kp _ (Kp _ m);show Kl _ m),h.ios)
 let hE:=h.e;rw[aG,aG]at hE;rw[aG];show hE.sub (λx s m=>.inl ?_) ?_;rcases Km.mp m with m|m;show Kp _ (Kp _ m);show Kl _ m;let nd:=hE.nd;rw[am,am]at nd;rw[am];let(a,b,c):=Ky.mp nd;show Ky.mpr ((Ky.mp a).1,b,λx hx y d=>c x (Kp _ hx) y d)
def FD(ds:OM)(g:DG)(tb:DS):DS:=λDD env=>∃W:Nat->OL->Prop,W 0 env /\
 (∀i env,(h:i< -ds)->W i env->g ds[i] env λa=>tb { DD with nx:=dI (W (i+1)) ⟨⟩,ct:=dI (W (i+1)) ⟨⟩,bk:=DD.nx } a)/\∀env,W (-ds) env->DD.nx env
def Gn(it:DI)(g:DG)(tb:DS):DS:=λDD env=>it env λds a=>FD ds g tb DD a
def cS(o:PassesOwn (kq X.prog X.w) X.A X.env X.xe)(hc:X.calm=true)(hi:PI X tg iter (upI K it))(hg:PG X tg (upG K g))(p:PSs X body (upS K tb))(hs:∀x,Qm iter X.env x=pure x:=by intro _;rfl) :
  PS X (.For tg iter body [] pos) (upS K (Gn it g tb)):=(vy o hc hi hg p hs).imp λD σ H h=>by
 let(M,P,H0,σ0,env,ts,DD,nv,l,ht,ok):=h;show(M,P,H0,σ0,env,ts,_,l,ht,λds d J H1 kp hF f io=>?_);let(W,t,turn,done):=hF;let j:xL (ts++kp):=λw i m=>by
  rcases Km.mp m with m|m;show nv w i m;show io.nv w i m
 show(λi m σ H=>m=-ds-i/\i<=-ds/\∃env,W i env/\Rel K M P H0 σ0 σ env (ts++kp) H,(_,rfl,KG _,d,t,f),?_);rintro i m u H2 ⟨rfl,z,c,n,a⟩;by_cases b:i< -ds;show .inr (io.go a i b,λσ' H'=>∃env',W (i+1) env'/\Rel K M P H0 σ0 σ' env' (ts++kp) H',λσ' H' hz=>by let(env',w',B):=hz;show(-ds-(i+1),!0,rfl,b,env',w',B),λx C y=>?_);let(E,dn):=io.yld a i x C b y;let k:=a.same E;show(M,P,H0,σ0,c,ts++kp,ds[i],_,j,k,dn,turn i c b n,λσ' env' H' hR r=>?_);show(M,P,H0,σ0,env',ts++kp,_,j,r,hR,(λσ' env' H' q r=>(env',q,r),λs env' v σ' H' q r=>ok.rt s env' v σ' H' q r.dropMid,λσ' env' H' q r=>ok.nx _ _ _ q r.drop,λσ' env' H' q r=>(env',q,r)))
 .let e:i=-ds:=!0
  subst e;show .inl (io.stop a,ok.nx _ _ _ (done _ n) a.drop)
def AC(c:DT)(tb:DS):DS:=λDD env=>∃W:Nat->OL->Prop,(∃m,W m env)/\∀m env,W m env ->
 c env λk a=>if k=OX then tb { DD with nx:=dI (λenv'=>∃b,b<m/\W b env') ⟨⟩,ct:=dI (λenv'=>∃b,b<m/\W b env') ⟨⟩,bk:=DD.nx } a else DD.nx a
def cr(i:PassesOwn (kq X.prog X.w) X.A X.env X.xe)(hc:PT X c (upT K tc))(j:PSs X body (upS K tb)):PS X (.While c body [] pos) (upS K (AC tc tb)):=(yp i hc j).imp λD σ H h=>by
 let(M,P,H0,σ0,env,ts,DD,nv,g,(W,(l,n),turn),ok):=h;show(λm σ H=>∃env,W m env/\Rel K M P H0 σ0 σ env ts H,(l,env,n,g),?_);rintro m o H2 ⟨a,p,d⟩;show(M,P,H0,σ0,a,ts,_,d,turn m a p,λk e u h3 b=>?_);cases k with
 |false=>show ok.nx _ _ _ h3 b
 |true =>
  show(λσ' H'=>∃env',(∃f,f<m/\W f env')/\Rel K M P H0 σ0 σ' env' ts H',λσ' H' ⟨env',⟨f,s,w'⟩,t⟩=>(f,s,env',w',t),?_);show(M,P,H0,σ0,e,ts,_,nv,b,h3,(λσ' env' H' q r=>(env',q,r),ok.rt,λσ' env' H' q r=>ok.nx _ _ _ q r,λσ' env' H' q r=>(env',q,r)))
end
noncomputable def oD:Option Sl->Sl
 |some (.fr d)=>.fr d
 |_=>.un
def HW(env:OL):OA->Sl
 |none=>.un
 |some j=>oD env[j]?
def iT(ix:Og)(env:OL):OL:=ix.map (HW env)
theorem iJ{α β γ:Type}{f:α->β}{g:α->γ}:∀{l:List α}{x:β}{y:γ},(x,y)∈(l.map f).zip (l.map g)->∃o∈l,x=f o/\y=g o
 |[],_,_,h=>by simp at h
 |a :: l,x,y,h=>by
  let h:(x,y)∈(f a,g a)::(l.map f).zip (l.map g):=h;rcases Kt.mp h with h|h;cases h;show(a,Ks,rfl,rfl);let(o,ho,e):=iJ h;show(o,Kv _ ho,e)
def AB:DT:=λenv R=>R OX env
def PIf.imp(h:PIf X ifs t)(k:∀σ H Q,t' σ H Q->t σ H Q):PIf X ifs t':=λpins s σ H Q I hw=>h pins s σ H Q I (k σ H Q hw)
def jG{X:Cx}{K:bg}:PIf X [] (upT K AB):=BM.imp λσ H Q h=>by
 let(M,P,H0,σ0,env,ts,R,a,ht,b):=h;show b _ _ _ ht a
def eU{X:Cx}{K:bg}{c:ba}{t:DT}(h:PT X c (upT K t)):PIf X [c] (upT K t):=BL h
section
variable{K:bg}{M P:ac->Prop}{H0 H:Hp}{σ0 σ:St}{env:OL}{ts:Ox}{v:V}{s:Sl}{d:ab}
def eZ(a:Rel K M P H0 σ0 σ env ts H)(m:(x,s)∈(fh σ ix).zip (iT ix env)):s=.un\/∃d v,s=.fr d/\x=OV v/\DN K (Nw M (aK σ env ts)) H v d:=by
 let(o,_,e1,e2):=iJ m;cases o with
 |none=>show .inl e2
 |some j =>
  let e2:s=oD env[j]?:=e2;cases q:env[j]? with
  |none=>rw[q]at e2;show .inl e2
  |some s' =>
   rw[q]at e2;cases s' with
   |fr d =>
    let(c,e3,b):=a.slot q;let(v,e4,dn):=a.e.fr _ _ b;show .inr (d,v,e2,?_,dn);rw[e1];show(σ[j]?).join=_;rw[e3,e4];rfl
   |_=>show .inl e2
def qB(a:Rel K M P H0 σ0 σ env ts H):oas ((fh σ ix).zip (iT ix env))=[]:=by
 unfold oas;rw[pr];rintro⟨x,s⟩ m;rcases eZ a m with e|⟨d,v,e,e2,_⟩
 subst e;show ik _;subst e e2;show eW _ _
def xg(c:Rel K M P H0 σ0 σ env ts H):Rel K (Nw M (aK σ env ts)) (λY=>False) H (fh σ ix) (fh σ ix) (iT ix env) [] H:=by
 let g:=qB (ix:=ix) c;let f:aK (fh σ ix) (iT ix env) []=(fh σ ix).zip (iT ix env):=by simp[aK,tmp]
 show((bd.refl,λa q=>q,λa z hn=>c.newAddr hn z,λa z=>z.elim,λx d m=>?_,λx l m=>?_,λx l m=>?_,λx S l m=>?_,by rw[f,g];show LA),by simp[fh,iT],λw i m=>(by cases m),λi l e=>rfl)
 rotate_right
 rw[f]at m;rcases eZ c m with e|⟨d',v,e,e2,dn⟩ <;> cases e
 rw[f]at m;rcases eZ c m with e|⟨d',v,e,e2,dn⟩
 cases e;cases e;show(v,e2,dn.to λb Y Y z=>?_);rcases z with z|z;show z;rw[f,g]at z;cases z;rw[f]at m;rcases eZ c m with e|⟨d',v,e,e2,dn⟩ <;> cases e
 rw[f]at m;rcases eZ c m with e|⟨d',v,e,e2,dn⟩ <;> cases e
def zB(c:Rel K M P H0 σ0 σ env ts H)(hk:ix[k]?=OV (OV j))(p:env[j]?=OV o)(r:ij o=OV l)(s:σ[j]?=OV (OV (.ref a))) :
  Rel K (Nw M (aK σ env ts)) (λb=>b=a) H (fh σ ix) (fh σ ix) ((iT ix env).set k (.io l)) [] H:=by
 let n:=qB (ix:=ix) c;let y:=xg (ix:=ix) c;let C:k< -ix:=(Kx.mp hk).1;let D:(iT ix env)[k]?=OV .un:=by unfold iT;rw[KM,hk];show OV (oD env[j]?)=_;rw[p];cases o <;> first|rfl|cases r
 let es:(fh σ ix)[k]?=OV (OV (.ref a)):=by unfold fh;rw[KM,hk];show OV ((σ[j]?).join)=_;rw[s];rfl
 cbv;let(x,A,B,e1,q1,q2):=y.split D;rw[es]at e1;cases e1;let u:aK (fh σ ix) (iT ix env) []=(fh σ ix).zip (iT ix env):=by simp[aK,tmp]
 let f:oas A=[]/\oas B=[]:=by rw[<-u,q1,am,au]at n;let n:oas A++oas B=[]:=n;show List.append_eq_nil_iff.mp n
 let(I,us,g,E,F):=c.mine p r;rw[s]at g;cases g
 w_up;let ma:Nw M (aK σ env ts) a:=by
  cbv;let(x,e1,G):=c.slot p;rw[s]at e1;cases e1
  w_up;show .inr (bu.mpr ⟨_,G,?_⟩);show(rN r).2 a
 let h:oas (A++(Pm (OV (.ref a)) (Sl.io l))::B)=[a]:=by rw[am,au,f.1,f.2];rfl
 let ne:∀b,Nw (Nw M (aK σ env ts)) (A++(Pm (OV (.ref a)) (Sl.io l))::B) b->Nw M (aK σ env ts) b:=λb z=>by
  rcases z with z|z;show z;rw[h,Kj]at z;rw[z];show ma
 let old:∀x t,(Pm x t)∈A++(Pm (OV (.ref a)) (Sl.io l))::B->(Pm x t)=(Pm (OV (.ref a)) (Sl.io l))\/(Pm x t)∈(fh σ ix).zip (iT ix env):=λx t m=>by
  rw[<-u,q1];rcases Km.mp m with m|m;show .inr (Kp _ m);rcases Kt.mp m with m|m;show .inl m;show .inr (Kl _ (Kv _ m))
 show⟨⟨bd.refl,λa q=>q,λa z hn=>c.newAddr hn z,λb z=>by rw[z];show ma,λx d m=>?_,λx l' m=>?_,λx l' m=>?_,λx S l' m=>?_,by rw[q2,h];simp⟩,by simp[fh,iT],λw i m=>(by cases m),λi l' e=>rfl⟩
 rotate_right
 rw[q2]at m;rcases old _ _ m with m|m;cases m;rcases eZ c m with e|⟨d',v,e,e2,dn⟩ <;> cases e
 rw[q2]at m ⊢;rcases old _ _ m with m|m;cases m;rcases eZ c m with e|⟨d',v,e,e2,dn⟩
 cases e;cases e;show⟨v,e2,dn.to λb Y Y z=>ne b z⟩;rw[q2]at m;rcases old _ _ m with m|m;cases m;rcases eZ c m with e|⟨d',v,e,e2,dn⟩ <;> cases e
 rw[q2]at m ⊢;rcases old _ _ m with m|m;cases m;show⟨a,us,rfl,E,F.to λb Y Y z=>ne b z,rfl⟩;rcases eZ c m with e|⟨d',v,e,e2,dn⟩ <;> cases e
end
def CD(ds:OM)(ix:Og)(g:DG)(tt:DT)(te:DE)(env:OL)(R:Sl->OL->Prop):Prop:=∃W:Nat->OM->Prop,W 0 [] /\
 (∀i rs,(h:i< -ds)->W i rs->-rs<sizeLine/\g ds[i] (iT ix env) λb1=>tt b1 λk a=>if k=OX then te a λs b=>∃d,aM b s=OV d/\W (i+1) (rs++[d]) else W (i+1) rs)/\∀rs,W (-ds) rs->R (.ow rs) env
def qw(it:DI)(ix:Og)(g:DG)(tt:DT)(te:DE):DE:=λenv R=>it env λds a=>CD ds ix g tt te a (dK R ⟨⟩)
def CD1(k j:Nat)(ds:OM)(ix:Og)(g:DG)(tt:DT)(te:DE)(env:OL)(R:Sl->OL->Prop):Prop:=∃W:Nat->OM->OM->Prop,∃a b,env[j]?=OV a/\ij a=OV b/\W 0 [] b /\
 (∀i rs l,(h:i< -ds)->W i rs l->-rs<sizeLine/\∃s,cR a l=OV s/\g ds[i] ((iT ix (env.set j s)).set k (.io l)) λb1=>tt b1 λf c=>if f=OX then te c λs e=>∃d l',aM e s=OV d/\e[k]?=OV (.io l')/\W (i+1) (rs++[d]) l' else ∃l',c[k]?=OV (.io l')/\W (i+1) rs l') /\
 ∀rs l,W (-ds) rs l->∃s,cR a l=OV s/\R (.ow rs) (env.set j s)
def sS(k j:Nat)(it:DI)(ix:Og)(g:DG)(tt:DT)(te:DE):DE:=λenv R=>it env λds a=>CD1 k j ds ix g tt te a (dK R ⟨⟩)
section
variable{K:bg}
def qz:∀σ H Q,up K (qw it ix g tt te) σ H Q->xV (upI K it) ix (upG K g) (upT K tt) (up K te) σ H Q:=λσ H Q h=>by
 let(M,P,H0,σ0,env,ts,R,B,ht,L):=h;show(M,P,H0,σ0,env,ts,_,B,ht,λds f J H1 kp hF t io=>?_);let(W,N,turn,done):=hF;show(λi m ys H=>m=-ds-i/\i<=-ds/\∃rs,W i rs/\DNs K (Nw M (aK σ f (ts++kp))) H ys rs/\Rel K M P H0 σ0 σ f (ts++kp) H,(_,rfl,KG _,[],N,.nil,t),?_);rintro i m ys H2 ⟨rfl,O,rs,F,l,j⟩;by_cases n:i< -ds;let(hz,tr):=turn i rs n F;show .inr (io.go j i n,by rw[l.len];show hz,λu H'=>∃o,W (i+1) o/\DNs K (Nw M (aK σ f (ts++kp))) H' u o/\Rel K M P H0 σ0 σ f (ts++kp) H',λu H' zz=>by let(o,a,b,c):=zz;show(-ds-(i+1),!0,rfl,n,o,a,b,c),λx C y=>?_);let(D,dn):=io.yld j i x C n y;let k:=j.same D;let rb:=xg (ix:=ix) k;let S:=qB (ix:=ix) k;let T:∀b,Nw (Nw M (aK σ f (ts++kp))) (aK (fh σ ix) (iT ix f) []) b->Nw M (aK σ f (ts++kp)) b:=λb z=>by
  rcases z with z|z;show z;let U:aK (fh σ ix) (iT ix f) []=(fh σ ix).zip (iT ix f):=by simp[aK,tmp]
  rw[U,S]at z;cases z
 show(_,_,_,_,iT ix f,[],ds[i],_,λw i m=>(by cases m),rb,dn.to λb _ _ z=>T b z,tr,λV b1 H4 h4 A=>?_);show(_,_,_,_,b1,[],_,A,h4,λX Y Z h5 q=>?_);cases X with
 |false =>
  let G:bh C Z:=(q.e.keep.mono (M:=N0) λb z=>z).none;show(rs,h5,l.keep (bd.same (D.trans G)),k.same G)
 |true =>
  show(_,_,_,_,Y,[],_,q,h5,λs b3 v H6 h6 r=>?_);let(d,kd,w6):=h6;let I:bh C H6:=(r.e.keep.mono (M:=N0) λb z=>z).none;let E:=r.kept (ts:=[]) (tt:=[]++[(v,s)]) (v:=v) (s:=s) (!1) kd;show(rs++[d],w6,(l.keep (bd.same (D.trans I))).app (.cons (E.to λb _ _ z=>.inl z) .nil),k.same I)
 .let e:i=-ds:=!0
  subst e;show .inl (io.stop j,λp hp=>L _ _ _ _ (done _ F) (j.resOw hp l))
def qA{k j:Nat}{ix:Og}{M P:ac->Prop}{H0 H1 v t:Hp}{σ0 σ w:St}{c N:OL}{ts kp S:Ox}{h s:Sl}{l l':OM}{a:ac}(hk:ix[k]?=OV (OV j))(m:j< -c)(T:c[j]?=OV h)(f:Rel K M P H0 σ0 σ c (ts++kp) H1)(es:cR h l=OV s)(O:σ[j]?=OV (OV (.ref a)))(g:Rel K M P H0 σ0 σ (c.set j s) (ts++kp) v)(ma:Nw M (aK σ (c.set j s) (ts++kp)) a)(y:Nw M (aK σ (c.set j s) (ts++kp))=Nw M (aK σ c (ts++kp)))(i:Rel K (Nw M (aK σ (c.set j s) (ts++kp))) (λb=>b=a) v (fh σ ix) w N S t)(Q:N[k]?=OV (.io l')) :
  ∃s',cR h l'=OV s'/\Rel K M P H0 σ0 σ (c.set j s') (ts++kp) t/\∀{ys:OU}{rs:OM},DNs K (Nw M (aK σ c (ts++kp))) v ys rs->DNs K (Nw M (aK σ c (ts++kp))) t ys rs:=by
 let C:(c.set j s)[j]?=OV s:=KN m
 cbv;let(x6,U,W):=i.slot Q;let R:=i.ios _ _ Q;let n:(fh σ ix)[k]?=OV (OV (.ref a)):=by unfold fh;rw[KM,hk];show OV ((σ[j]?).join)=_;rw[O];rfl
 rw[U,n]at R;cases R;let(Y,D,z,E,F,_):=i.e.io _ _ W;cases z;let(x,A,B,e3,o,G):=g.split C;rw[O]at e3;cases e3;let H:∃s',cR h l'=OV s'/\Cp s l' s':=by
  obtain⟨p,rfl⟩|⟨p,rfl⟩:(∃p,h=.ow p)\/∃p,h=.io p:=(dM (kF es).1).imp (λhz=>by let(d,e,_):=hz;show(d,e)) λzz=>by let(d,e,_):=zz;show(d,e)
  cases es;show(_,rfl,rfl);cases es;show(_,rfl,rfl)
 let(s',r,I):=H
 w_up;let hE:=g.e;rw[o]at hE;let J:DNs K (Nw M (A++(OV (.ref a),s)::B)) t D l':=F.to λb Z Z z=>.inl (by rw[o];show z);let hM:=hE.muted I i.e.keep i.e.live E J;rw[<-G]at hM;let X:(c.set j s).set j s'=c.set j s':=List.set_set ..;show(s',r,(by rw[<-X];show hM,by simp[f.len],g.vw,λq l2 u=>?_),λ{ys rs} q=>q.keep (i.e.keep.mono λb z=>?_))
 .by_cases hj:j=q
  .cbv;subst hj;rw[KN m]at u;cases u;let(L,rfl):=u6 r
   w_up;show f.ios _ L T
  rw[KS hj]at u;show f.ios q l2 u
 rw[z,<-y];show ma
def C1I(K:bg)(M P:ac->Prop)(H0:Hp)(σ0 σ:St)(a:OL)(ts:Ox)(b:Sl)(j:Nat)(W:OM->OM->Prop)(ys:OU)(H:Hp):Prop:=∃rs l s,cR b l=OV s/\W rs l/\DNs K (Nw M (aK σ a ts)) H ys rs/\Rel K M P H0 σ0 σ (a.set j s) ts H
def zz(hk:ix[k]?=OV (OV j)):∀σ H Q,up K (sS k j it ix g tt te) σ H Q->xV (upI K it) ix (upG K g) (upT K tt) (up K te) σ H Q:=λσ H Q h=>by
 let(M,P,H0,σ0,env,ts,R,a3,ht,hq):=h;show(M,P,H0,σ0,env,ts,_,a3,ht,λds f J H1 kp hF r io=>?_);let(W,u,l0,N,eo,w0,turn,done):=hF;let F:j< -f:=(Kx.mp N).1;let O:cR u l0=OV u:=(rN eo).1;let env0:f.set j u=f:=by rw[<-(Kx.mp N).2];show List.set_getElem_self F
 let(a,b4,ea,_,_):=r.mine N eo;let G:∀{ls:OM}{s:Sl},cR u ls=OV s->Nw M (aK σ (f.set j s) (ts++kp))=Nw M (aK σ f (ts++kp)):=λ{ls s} es=>by
  cbv;let(x,A,B,e3,a4,a5):=r.split N;rw[ea]at e3;cases e3
  w_up;rw[a4,a5];let oa:dg (OV (.ref a),u)=[a]/\dg (OV (.ref a),s)=[a]:=by show gU (kF es).1
  unfold Nw;rw[am,am,au,au,oa.1,oa.2]
 show(λi m ys H=>m=-ds-i/\i<=-ds/\C1I K M P H0 σ0 σ f (ts++kp) u j (W i) ys H,(_,rfl,KG _,[],l0,u,O,w0,.nil,by rw[env0];show r),?_);rintro i m ys H2 ⟨rfl,b5,rs,l,s,es,w2,I,o⟩;by_cases C:i< -ds
 .cbv;let(hz,s',n,tr):=turn i rs l C w2;rw[es]at n;cases n
  w_up;let S:ij s=OV l:=(kF es).2;let T:(f.set j s)[j]?=OV s:=KN F;show .inr (io.go o i C,by rw[I.len];show hz,λU H'=>C1I K M P H0 σ0 σ f (ts++kp) u j (W (i+1)) U H',
   λU H' z=>(-ds-(i+1),!0,rfl,C,z),λx H3 y=>?_)
  let(sm,dn):=io.yld o i x H3 C y;let t:=o.same sm;let rb:=zB (ix:=ix) t hk T S ea;let ma:Nw M (aK σ (f.set j s) (ts++kp)) a:=by
   cbv;let(x,e1,mm):=t.slot T;rw[ea]at e1;cases e1
   w_up;show .inr (bu.mpr (_,mm,?_));show(rN S).2 a
  let nb:∀b,Nw (Nw M (aK σ (f.set j s) (ts++kp))) (aK (fh σ ix) ((iT ix (f.set j s)).set k (.io l)) []) b->Nw M (aK σ (f.set j s) (ts++kp)) b:=λb z=>by
   rcases z with z|z;show z;let(_,_,hP):=rb.e.own z;rcases hP with q|q;let(vs,q2,_):=rb.e.own z;rw[q]at q2;cases q2;rw[q];show ma
  let after:∀{L:St}{b3:OL}{t3:Ox}{X:Hp}{l':OM},Rel K (Nw M (aK σ (f.set j s) (ts++kp))) (λb=>b=a) H3 (fh σ ix) L b3 t3 X->b3[k]?=OV (.io l') ->
    ∃s',cR u l'=OV s'/\Rel K M P H0 σ0 σ (f.set j s') (ts++kp) X/\∀{ys:OU}{rs:OM},DNs K (Nw M (aK σ f (ts++kp))) H3 ys rs->DNs K (Nw M (aK σ f (ts++kp))) X ys rs:=λ{L b3 t3 X l'} r6 e6=>qA hk F N r es ea t ma (G es) r6 e6
  let Y:=I.keep (bd.same sm);show(_,_,_,_,_,[],ds[i],_,λw i m=>(by cases m),rb,dn.to λb V V z=>nb b z,tr,λL b1 H4 h4 Z=>?_);show(_,_,_,_,b1,[],_,Z,h4,λkk b2 H5 h5 D=>?_);cases kk with
  |false =>
   let(l',e5,w5):=h5;let(s',n,r',kd):=after D e5;show(rs,l',s',n,w5,kd Y,r')
  |true =>
   show(_,_,_,_,b2,[],_,D,h5,λs6 b3 v X h6 E=>?_);let(d,l',a7,e6,w6):=h6;let(s',n,r',kd):=after E e6;let b0:=E.kept (ts:=[]) (tt:=[]++[(v,s6)]) (v:=v) (s:=s6) (!1) a7;show(rs++[d],l',s',n,w6,(kd Y).app (.cons (b0.to λb V V z=>.inl (by rw[G es];show z)) .nil),r')
 .let e:i=-ds:=!0
  subst e;show .inl (io.stop o,λp hp=>?_)
  cbv;let(s',n,hR):=done _ _ w2;rw[es]at n;cases n
  w_up;show hq _ _ _ _ hR (o.resOw hp (by rw[G es];show I))
end
section
variable{K:bg}{X:Cx}{N':OP}{ix:Og}{sc:Qq}{tg iter elt:ba}{ifs:OS}{pos:Pos}{it:DI}{g:DG}{tt:DT}{te:DE}
def vt(hc:X.calm=true)(S:dB X.N X.env N' ix sc)(hi:PI X tg iter (upI K it))
  (hg:∀s H C fp,PG (bCx X N' sc s H C fp) tg (upG K g)) (ht:∀s H C fp,PIf (bCx X N' sc s H C fp) ifs (upT K tt)) (a:∀s H C fp,PE (bCx X N' sc s H C fp) elt (up K te))
  (hs:∀x,Qm iter X.env x=pure x:=by intro _;rfl):PE X (.ListComp elt [(tg,iter,ifs,0)] sc pos) (up K (qw it ix g tt te)):=(vI hc S hi hg ht a hs).imp qz
def bZ{NN:OP}{sc0:Qq}(hi:PI X tg iter (upI K it))
  (hg:∀s H C fp,PG (bCx X N' sc s H C fp) tg (upG K g)) (a:∀s H C fp,PE (bCx X N' sc s H C fp) elt (up K te))
  (ht:∀s H C fp,PIf (bCx X N' sc s H C fp) ifs (upT K tt):=by exactλY Y Y Y=>jG) (hc:X.calm=true:=by rfl) (h1:X.N=NN:=by rfl) (h2:X.env.scope=sc0:=by rfl) (h3:bOk NN sc0 N' ix sc=true:=by decide +kernel)
  (hs:∀x,Qm iter X.env x=pure x:=by intro _;rfl):PE X (.ListComp elt [(tg,iter,ifs,0)] sc pos) (up K (qw it ix g tt te)):=(vI hc (zF h1 h2 h3) hi hg ht a hs).imp qz
def zY(h:∀σ H Q,up K c σ H Q->t σ H Q):∀D σ H,upS K (AD i c) D σ H->DW t (og i) D σ H:=λD σ H e=>by
 let(M,P,H0,σ0,env,ts,DD,nv,b,ht,ok):=e;show h _ _ _ (M,P,H0,σ0,env,ts,_,b,ht,λs1 d v1 H1 h1 a=>?_);let(s',f,es,hR):=h1;let(r,cs):=a.unVw es;show ok.nx _ _ _ hR (r.store nv f cs)
def bR{NN:OP}{sc0:Qq}(i:Nat){y:bc}{a d:Pos}(hN:X.N.Nodup)(hi:PI X tg iter (upI K it))
  (hg:∀s H C fp,PG (bCx X N' sc s H C fp) tg (upG K g)) (e:∀s H C fp,PE (bCx X N' sc s H C fp) elt (up K te))
  (ht:∀s H C fp,PIf (bCx X N' sc s H C fp) ifs (upT K tt):=by exactλY Y Y Y=>jG) (hc:X.calm=true:=by rfl) (h1:X.N=NN:=by rfl) (h2:X.env.scope=sc0:=by rfl) (h3:bOk NN sc0 N' ix sc=true:=by decide +kernel)
  (b:X.N[i]?=some y:=by rfl) (f:X.env.scope.names.lookup y=some .local:=by rfl) (c:Q9 (.ListComp elt [(tg,iter,ifs,0)] sc pos) (some (.Name y d)) a.line X.env=pure true:=by rfl)
  (hs:∀x,Qm iter X.env x=pure x:=by intro _;rfl):PS X (.Assign [.Name y d] (.ListComp elt [(tg,iter,ifs,0)] sc pos) a) (upS K (AD i (qw it ix g tt te))):=(kK hN b f hc (zF h1 h2 h3) hi hg ht e c hs).imp (zY qz)
def ii{NN:OP}{sc0:Qq}(i:Nat){y:bc}{a d:Pos}(k j:Nat)(hk:ix[k]?=some (some j))(hN:X.N.Nodup)(hi:PI X tg iter (upI K it))
  (hg:∀s H C fp,PG (bCx X N' sc s H C fp) tg (upG K g)) (e:∀s H C fp,PE (bCx X N' sc s H C fp) elt (up K te))
  (ht:∀s H C fp,PIf (bCx X N' sc s H C fp) ifs (upT K tt):=by exactλY Y Y Y=>jG) (hc:X.calm=true:=by rfl) (h1:X.N=NN:=by rfl) (h2:X.env.scope=sc0:=by rfl) (h3:bOk NN sc0 N' ix sc=true:=by decide +kernel)
  (b:X.N[i]?=some y:=by rfl) (f:X.env.scope.names.lookup y=some .local:=by rfl) (c:Q9 (.ListComp elt [(tg,iter,ifs,0)] sc pos) (some (.Name y d)) a.line X.env=pure true:=by rfl)
  (hs:∀x,Qm iter X.env x=pure x:=by intro _;rfl):PS X (.Assign [.Name y d] (.ListComp elt [(tg,iter,ifs,0)] sc pos) a) (upS K (AD i (sS k j it ix g tt te))):=(kK hN b f hc (zF h1 h2 h3) hi hg ht e c hs).imp (zY (zz hk))
end
noncomputable def zN:ab->Option Bool
 |.none=>OV OY
 |.bool b=>OV b
 |.int i=>OV (i != 0)
 |.list ds=>OV (!ds.isEmpty)
 |.tuple ds=>OV (!ds.isEmpty)
 |_=>OW
section
variable{K:bg}{M P N:ac->Prop}{H0 H:Hp}{σ0 σ:St}{env:OL}{ts:Ox}{v:V}{s:Sl}{d:ab}{X:Cx}{pos p:Pos}{e e1 e2 a:ba}{es:OS}{te tj:DE}
def DNs.emp(q:DNs K N H vs ds):vs.isEmpty=ds.isEmpty:=by cases q <;> rfl
def Vw.tru(w:Vw K N H v d)(e:zN d=OV k):Gq K v H k:=by
 cases d with
 |none=>cases e;rw[w.none];rfl
 |bool b=>cases e;rw[w.bool];rfl
 |int b=>cases e;rw[w.int];rfl
 |list ds =>
  cbv;cases e;let(a,vs,rfl,s,q):=w.list
  w_up;show .inl (vs,s,by rw[q.emp])
 |tuple ds =>
  cbv;cases e;let(a,vs,rfl,s,q):=w.tuple
  w_up;show .inr (.inl (vs,s,by rw[q.emp]))
 |_=>cases e
def sP(te:DE):DT:=λenv R=>te env λs a=>∃d k,aV a s=OV d/\zN d=OV k/\R k a
def i9(hK:X.K=K)(g:PE X a (up K te))(i:∀b,Zo a X.env b=(do let v <-b;Q0 a.pos;Qo [v] (ZX v)):=by intro _;rfl):PT X a (upT K (sP te)):=(Ao (K:=K) hK g i).imp λσ H Q h=>by
 let(M,P,H0,σ0,env,ts,R,e,ht,j):=h;show(M,P,H0,σ0,env,ts,_,e,ht,λs1 f v1 H1 h1 c=>?_);let(d,k,e1,e2,hR):=h1;show(k,(c.view (v:=v1) (!1) e1).tru e2,j _ _ _ hR c.drop)
def uf:ab->String
 |.none => "NoneType"
 |.bool _ => "bool"
 |.int _ => "int"
 |.str _ => "str"
 |.list _ => "list"
 |.tuple _ => "tuple"
 |.dict _ => "dict"
inductive oN (K:bg) (H:Hp):V->String->Prop
 |non:oN K H .non "NoneType"
 |bl (b:Bool):oN K H (.bl b) "bool"
 |int (b:Int):oN K H (.int b) "int"
 |str (b:bc):oN K H (.str b) "str"
 |lst {a:ac}{xs:OU}:SqL K H a xs->oN K H (.ref a) "list"
 |tup {a:ac}{xs:OU}:SqT K H a xs->oN K H (.ref a) "tuple"
def zC(hK:X.K=K):fM X (.builtin "isinstance") (λxs H Q=>∃(x:V) (t n:String) (b:Bool),xs=[x,.ty n]/\oN K H x t/\wi K (.type t) (.type n)=OV b/\Q (.bl b) H):=by
 subst hK;intro pins s σ H xs us Q I r h;let(x,t,n,b,rfl,ty,e,q):=h;let(u,w',rfl,c,d):=tH r;cases (show w'=gs n from d);let fin:∀tk,EP X pins σ Q (.bool b) { s with toks:=tk }:=λtk=>(.bl b,H,I.tok tk,rfl,q)
 cases ty with
 |non=>cases (show u=du from c);show lv PySem.W.kitx_none I.kIn True.intro e (λz=>nomatch z) fin
 |bl y=>cases (show u=hU y from c);show lv PySem.W.kitx_bool I.kIn True.intro e (λz=>nomatch z) fin
 |int i=>let(t,q):=(show ∃t,u=eE i t from c);cases q;show lv PySem.W.kitx_int I.kIn True.intro e (λz=>nomatch z) fin
 |str y=>let(t,q):=(show ∃t,u=Nk y t from c);cases q;show lv PySem.W.kitx_str I.kIn True.intro e (λz=>nomatch z) fin
 |@lst a xs hs =>
  cases (show u=cu a from c);let(its,_,(o,f,h1,h2,_,_),_):=I.list hs;show lv PySem.W.kitx_list I.kIn (o,h1,h2) e (λz=>nomatch z) fin
 |@tup a xs hs =>
  cases (show u=cu a from c);let(its,_,(o,h1,h2,_),_):=I.tuple hs;show lv PySem.W.kitx_tuple I.kIn (o,h1,h2) e (λz=>nomatch z) fin
def isK(n:String)(d:ab):Bool:=(uf d==n) ||(n == "int" && uf d == "bool")
def yP(d:ab):wi K (.type (uf d)) (.type "bool")=OV (isK "bool" d):=by cases d <;> rfl
def Vw.kind(w:Vw K N H v d)(hd:∀kvs,d≠.dict kvs):oN K H v (uf d):=by
 cases d with
 |none=>rw[w.none];show .non
 |bool b=>rw[w.bool];show .bl b
 |int b=>rw[w.int];show .int b
 |str b=>cases w with|dn h=>cases h
 |list ds=>let(a,vs,rfl,s,q):=w.list;show .lst s
 |tuple ds=>let(a,vs,rfl,s,q):=w.tuple;show .tup s
 |dict kvs=>show absurd rfl (hd kvs)
def Dl:ab->Bool
 |.dict _=>OY
 |_=>OX
def Dl.no(h:Dl d=OX):∀kvs,d≠.dict kvs:=λkvs e=>by subst e;cases h
def dIs(n:String)(te:DE):DE:=λenv R=>te env λs a=>∃d,aV a s=OV d/\Dl d=OX/\R (.fr (.bool (isK n d))) a
def GY(hK:X.K=K)(e:∀d,wi K (.type (uf d)) (.type T)=some (isK T d))(hg:Gl X "isinstance")(s:X.mg "isinstance" = none)(f:Gl X n)(g:X.mg n=none)(i:Qz n=some (.type T))(t:PE X a (up K te))
  (q:j0 [a,.Name n c] X.env=(false,eval a X.env)::j0 [.Name n c] X.env:=by rfl) (j:j0 [.Name n c] X.env=(false,eval (.Name n c) X.env)::j0 [] X.env:=by rfl)
  (k:n ≠ "__name__" := by decide) (l:(n==("__debug__" : bc))=false:=by decide) (m:(z4 pos (j0 [.Name n c] X.env)).any (·.1)=false:=by rfl) :
  PE X (.Call (.Name "isinstance" p) [a,.Name n c] [] pos) (up K (dIs T te)) :=
 (ja (zC hK) hg s PyProof.Rows.boot_isinstance (b8 t (b8 (BV (v:=.ty T) f g i rfl k l) d9 j) q) (!2) (!2) q m).imp λσ H Q h=>by
 let(M,P,H0,σ0,env,ts,R,o,ht,u):=h;show(M,P,H0,σ0,env,ts,_,o,ht,λs1 r v1 H1 h1 b=>?_);let(d,e1,nd,hR):=h1;let w:=b.view (v:=v1) (!1) e1;show(v1,uf d,T,isK T d,rfl,w.kind (Dl.no nd),e d,u _ _ _ _ hR (b.drop.addFr (.bl _)))
def wT(i:Nat)(tj te:DE):DS:=λDD env=>te env λs b=>(∃ds,(b[i]?).bind ij=OV ds)/\tj b λe a=>∃d c ds z j s',aM a s=OV d/\aV a e=OV (.int z)/\a[i]?=OV c/\ij c=OV ds/\ixN (-ds) z=OV j /\
 cR c (ds.set j d)=OV s'/\DD.nx (a.set i s')
theorem DNs.set{vs:OU}{ds:OM}{x:V}{d:ab}(j:Nat)(q:DNs K N H vs ds)(h:DN K N H x d):DNs K N H (vs.set j x) (ds.set j d) :=
 DNs.ind (C:=λvs ds=>∀j,DNs K N H (vs.set j x) (ds.set j d)) (λY=>.nil) (λg q z j=>by
  cases j with
  |zero=>show .cons h q
  |succ j=>show .cons g (z j)) q j
def vp(i:Nat){y:bc}{npos b:Pos}{j:ba}(hN:X.N[i]?=some y)(hj:PE X j (up K tj))(x:PE X e (up K te))
  (hv:Vis X.env.scope y:=by walk_at"v0") (hd:(y==("__debug__" : bc))=false:=by decide)
  (o:(y==("__classdict__" : bc))=false:=by decide)
  (A:∀v,assign (.Subscript (.Name y npos) j b) X.env v=(do
   let ov <-Qo [v] (eval (.Name y npos) X.env)
   let iv <-Qo [v,ov] (eval j X.env)
   Q0 b
   Qo [v,ov,iv] (Ze ov iv v)
   ZT [v,ov,iv] []):=by intro _;rfl)
  (hs:QG [.Subscript (.Name y npos) j b] e pos.line X.env=pure false:=by rfl) (hw:QH [.Subscript (.Name y npos) j b] e X.env=pure none:=by rfl)
  (h1:(Qh [.Subscript (.Name y npos) j b] X.env).map (·.2)=[assign (.Subscript (.Name y npos) j b) X.env]:=by rfl):PS X (.Assign [.Subscript (.Name y npos) j b] e pos) (upS K (wT i tj te)) :=
 (rK x (vE (bJ hN hv hd o) hj yd A) hs hw h1).imp λD σ H h=>by
 let(M,P,H0,σ0,env,ts,DD,nv,p,ht,ok):=h;show(M,P,H0,σ0,env,ts,_,p,ht,λs1 l v1 H1 h1 f=>?_)
 cbv;let((B,h0),h1):=h1;let(I,C,E):=mC h0;let(a,vs,r,J,_):=f.mine C E
 w_up;show(.ref a,r,M,P,H0,σ0,l,ts++[(v1,s1)],_,f,h1,λs2 m u H2 h2 g=>?_)
 cbv;let(d,L,ds,z,w,s',k,F,e2,G,ix,es,hR):=h2;let c:Rel K M P H0 σ0 σ m (ts++[(v1,s1),(u,s2)]) H2:=by simpa using g
 let(O,us,n,t,q):=c.drop.mine e2 G;rw[r]at n;cases n
 w_up;let dn:=c.kept (v:=v1) (s:=s1) (!1) k;show(a,us,z,w,rfl,(g.view (v:=u) (!1) F).int,t,by rw[q.len];show ix,ok.nx _ _ _ hR (c.drop.mut (ds:=ds) e2 es r (q.set w dn)))
noncomputable def pD(env:OL):Sl->Option Sl
 |.fr d=>OV (.fr d)
 |.ow l=>OV (.ow l)
 |.tr S d=>OV (.tr S d)
 |.vw i=>(env[i]?).bind λs=>match s with
  |.fr d=>OV (.fr d)
  |.ow l=>OV (.ow l)
  |_=>OW
 |_=>OW
noncomputable def iN:Sl->Sl
 |.io l=>.io l
 |_=>.un
def kC(n:Nat)(env:OL):OL:=(env.take n).map iN
def qk(n:Nat)(R:Sl->OL->Prop):iD where
 nx := λenv=>R (.fr .none) (kC n env)
 rt := λs env=>∃r,pD env s=OV r/\R r (kC n env)
def c8(n:Nat)(ss:OL):OL:=ss++KT (n- -ss) .un
theorem jp(m:Nat):∀{vs:OU}{ss:OL},-vs=-ss->(vs.map OV++KT m OW).zip (ss++KT m Sl.un)=tmp (vs.zip ss)++KT m (OW,Sl.un)
 |[],[],_=>by simp[tmp]
 |v::vs,s::ss,h=>by
  show(OV v,s)::(vs.map OV++KT m OW).zip (ss++KT m Sl.un)=_;rw[jp m (by simpa using h)];rfl
 |[],_::_,h=>by simp at h
 |_::_,[],h=>by simp at h
def vX(m:Nat):oas (KT m ((OW,Sl.un):Ent))=[]:=by unfold oas;rw[pr];intro e a;rw[(sn.mp a).2];rfl
theorem wJ:∀{vs:OU}{σ:St}{env:OL},-σ=-env->(∀(j:Nat) (l:OM),env[j]?=OV (.io l)->j< -vs->σ[j]?=(vs[j]?).map OV)->(oas (tmp (vs.zip (kC (-vs) env)))).Sublist (oas (σ.zip env))
 |[],σ,env,_,_=>by simp[tmp,oas]
 |v::vs,[],[],_,_=>by simp[tmp,oas,kC]
 |v :: vs,x::σ,s::env,a,h=>by
  let b:=wJ (vs:=vs) (σ:=σ) (env:=env) (by simpa using a) λj l e hj=>by
   let:=h (j+1) l (by simpa using e) (by simpa using hj);simpa using this
  show(oas ((OV v,iN s)::tmp (vs.zip (kC (-vs) env)))).Sublist (oas ((x,s)::σ.zip env));rw[au,au];cases s with
  |io l =>
   let c:=h 0 l rfl (!1);simp at c;subst c;show List.Sublist.append (List.Sublist.refl _) b
  |_ =>
   simp only[iN,ik];show b.trans (List.sublist_append_right _ _)
 |_::_,[],_::_,a,_=>by simp at a
 |_::_,_::_,[],a,_=>by simp at a
def Rel.fin(a:Rel K M P H0 (start N' vs) σ env [(Pm v r)] H)(hn:n=-vs)(t:nP r=OX):bS K M P H0 (tmp ((Pm v r)::vs.zip (kC n env))) H:=by
 subst hn;let b:∀(j:Nat) (l:OM),env[j]?=OV (.io l)->j< -vs->σ[j]?=(vs[j]?).map OV:=λj l e hj=>by
  rw[a.ios j l e];unfold start;rw[Lk (by simpa using hj),KM]
 let hE:=a.e;show hE.sub (λx s m=>?_) ?_
 .rw[fN]at m;rcases Kt.mp m with m|m;cases m;show .inl (fF (!1))
  .cbv;let((w,s'),m1,e):=Ko.mp m;cases e;let(j,hj,e):=K7 m1
   w_up;rw[Mn]at e;let c:=hj;rw[LN]at c;let e1:vs[j]'(!0)=w:=(lx e).1;let e2:(kC (-vs) env)[j]'(!0)=s':=(lx e).2;let d:j< -env:=by
    let:(kC (-vs) env).length=min (-vs) (-env):=by simp[kC]
    lia
   let e3:s'=iN env[j]:=by rw[<-e2];simp[kC]
   cases q:env[j] with
   |io l =>
    rw[q]at e3
    cbv;subst e3;let eq:env[j]?=OV (.io l):=by rw[Kk d,q]
    let e4:=b j l eq (!0);let(x,f,g):=a.slot eq;rw[f,Kk (by lia:j< -vs),e1]at e4;let e4:x=OV w:=di e4;subst e4
    w_up;show .inl g
   |_=>rw[q]at e3;subst e3;show .inr (.inl rfl)
 let nd:=hE.nd;let h:aK σ env [(Pm v r)]=σ.zip env++[(Pm (OV v) r)]:=rfl;rw[h,am]at nd;let(i,k,o):=Ky.mp nd;let sub:=wJ a.len b;rw[fN,show((Pm (OV (Pm v r).1) ((Pm v r).2)):Ent)::tmp (vs.zip (kC (-vs) env))=[(Pm (OV v) r)]++tmp (vs.zip (kC (-vs) env)) from rfl,am];show Ky.mpr ⟨k,i.sublist sub,λx hx y p z=>o y (sub.subset p) x hx z.symm⟩
end
section
variable{K:bg}{M P:ac->Prop}{H0 H:Hp}{A B:OJ}{σ0 σ:St}{env:OL}{ts:Ox}{v:V}{s:Sl}{d:ab}
def Rel.take(h:Rel K M P H0 σ0 σ env [(v,.vw i)] H)(e:env[i]?=OV (.ow l)):Rel K M P H0 σ0 σ (env.set i .un) [(v,.ow l)] H:=by
 cbv;let(x,A,B,e1,q1,q2):=h.split e;let ev:=h.vw v i (!1);rw[e1]at ev;let ev:x=OV v:=di ev;subst ev;let z1:aK σ env [(v,.vw i)]=σ.zip env++[(OV v,.vw i)]:=rfl;let(x2,e3,m2):=uB h.len e
 w_up;let d:(σ.zip env)[i]?=OV (OV v,.ow l):=by rw[fm,e1,e];rfl
 let(f,g,k,n):=gP d;let hE:=h.e;rw[z1,k]at hE;let o:aK σ (env.set i .un) [(v,.ow l)]=(f++(OV v,.un)::g)++[(OV v,.ow l)]:=by show σ.zip (env.set i .un)++[(OV v,.ow l)]=_;rw[uA e1,n]
 show(?_,by simp[h.len],λw j m=>(by rw[Kj]at m;cases m),λj l' a=>?_);rw[o];show hE.sub (λx s m=>?_) ?_;rcases Km.mp m with m|m;rcases Km.mp m with m|m;show .inl (Kp _ (Kp _ m));rcases Kt.mp m with m|m;cases m;show .inr (.inl rfl);show .inl (Kp _ (Kl _ (Kv _ m)));rw[Kj]at m;cases m;show .inl (Kp _ (Kl _ Ks));let nd:=hE.nd;let ov:oas [(OV v,Sl.vw i)]=[]:=by rw[au,jN];rfl
 rw[am,am,au,ov,K1]at nd;let p:oas [(OV v,Sl.ow l)]=dg (OV v,Sl.ow l):=by rw[au];simp[oas]
 rw[am,am,au,ik,p];let(q,r,c):=Ky.mp nd;let(t,u,C):=Ky.mp r;show Ky.mpr (Ky.mpr (q,u,λx hx y b=>c x hx y (Kl _ b)),t,λx hx y b z=>?_);subst z;rcases Km.mp hx with hx|hx;show c x hx x (Kp _ b) rfl;show C x b x hx rfl;by_cases hj:i=j;subst hj;rw[KN (Kx.mp e).1]at a;cases a;rw[KS hj]at a;show h.ios j l' a
def Cy(e:env[i]?=OV (.ow l)):kC n (env.set i .un)=kC n env:=by
 unfold kC;apply sw;intro j;rw[KM,KM,Ni,Ni];by_cases hj:i=j;subst hj;rw[KN (Kx.mp e).1,e];split <;> rfl
 rw[KS hj]
def Rel.told(h:Rel K M P H0 σ0 σ env [(v,s)] H)(e:pD env s=OV r):∃env',Rel K M P H0 σ0 σ env' [(v,r)] H/\kC n env'=kC n env/\nP r=OX:=by
 cases s with
 |fr d=>cases e;show(env,h,rfl,rfl)
 |tr S d=>cases e;show(env,h,rfl,rfl)
 |ow l=>cases e;show(env,h,rfl,rfl)
 |vw i =>
  let e:(env[i]?).bind _=OV r:=e;cases q:env[i]? with
  |none=>rw[q]at e;cases e
  |some s' =>
   rw[q]at e;cases s' with
   |fr d =>
    cases e;let hs:kr env (.vw i)=OV (.fr d):=by show((env[i]?).bind slK).map Sl.fr=_;rw[q];rfl
    let:=(Rel.unVw (ts:=[]) (by simpa using h) hs).1;show(env,by simpa using this,rfl,rfl)
   |ow l=>cases e;show(env.set i .un,h.take q,Cy q,rfl)
   |_=>cases e
 |_=>cases e
end
section
variable{P:k5}{w:q3}{K:bg}{mg:bc->OB}{base:bb}
def okD{x:bc}{st:Stmt}{f:ac}{fd:k3}{N ps:OP}{k:Nat}{sp:DSp}(F:Fun K x x st f fd)(S:aA N ps (ae st))(len:∀ss R,sp ss R->-ss=-ps)(hN:-ps<=-N)
  (u:∀(cdv:ao) (A:Around) (outer:OI) (s:az) (H:Hp) (E:XK),fb k (A.deeper (Q8 x (ae st) (~~~s) f cdv)) ->
   ∃t:DS,PSs (ux CX0 P w K mg base N x (ae st) f cdv A outer s H E).nox (cI st) (upS K t)/\∀ss R,sp ss R->t (qk (-ps) R) (c8 (-N) ss)):cg P w K mg base CX0 (k+1) f fd ps (spD K sp):=by
 show F.ok S (λvs H Q E h=>?_) λcdv A outer s H vs Q E y h=>?_;let(M,ss,R,b,_,a,_):=h;rw[b];show len ss R a;let(M,ss,R,b,hE,a,o):=h;let hn:=len ss R a;let(t,ht,j):=u cdv A outer s H E y;let z:aK (start N vs) (c8 (-N) ss) []=tmp (vs.zip ss)++KT (-N- -vs) (OW,Sl.un):=by show(start N vs).zip (c8 (-N) ss)++[]=_;unfold start c8;rw[K1,<-b];show jp _ b
 show(_,ht,M,uw vs ss,H,start N vs,c8 (-N) ss,[],qk (-ps) R,λw i m=>(by cases m),(?_,by simp[start,c8,b],λw i m=>(by cases m),λi l e=>rfl),j ss R a,(λσ' env' H' q r=>?_,λs env' v σ' H' q r=>?_,λσ' env' H' q r=>(show False from q),λσ' env' H' q r=>(show False from q)));rw[z];show hE.sub (λx s m=>?_) (by rw[am,vX,K1];show hE.nd);rcases Km.mp m with m|m;show .inl m;let:=(sn.mp m).2;cases this;show .inr (.inl rfl);let c:=(Rel.addFr r (v:=.non) (d:=.none) .non)
 let c:Rel K M (uw vs ss) H (start N vs) σ' env' [(.non,.fr .none)] H':=by simpa using c
 show o _ _ _ _ q rfl (c.fin (!0) rfl);let(B,C,hR):=q;let D:Rel K M (uw vs ss) H (start N vs) σ' env' [(v,s)] H':=by simpa using r
 let(p,c,G,g):=D.told (n:=-ps) C;show o B _ v H' hR g (by rw[<-G];show c.fin (!0) g)
def JP{x:bc}{st:Stmt}{f:ac}{N ps:OP}{k:Nat}{sp:DSp}{kV doc pm cdv ct oc:ao}{an od:OC}{osl:Oh}
  (y:∀(A:Around) (outer:OI) (s:az) (H:Hp) (E:XK),fb k (A.deeper (Q8 x (ae st) (~~~s) f cdv)) ->
   ∃t:DS,PSs (ux CX0 P w K mg base N x (ae st) f cdv A outer s H E).nox (cI st) (upS K t)/\∀ss R,sp ss R->t (qk (-ps) R) (c8 (-N) ss))
  (z:K.lookup f=OV (oc,od,.func (gi x x (eY st) (cI st) (ae st) .none kV doc pm an cdv ct),osl)) (j:mA K cdv x=OX) (S:aA N ps (ae st)) (len:∀ss R,sp ss R->-ss=-ps) (hN:-ps<=-N):cg P w K mg base CX0 (k+1) f (gi x x (eY st) (cI st) (ae st) .none kV doc pm an cdv ct) ps (spD K sp):=by
 show Fm z j S (λvs H Q E h=>?_) λA outer s H vs Q E B h=>?_;let(M,ss,R,b,_,a,_):=h;rw[b];show len ss R a;let(M,ss,R,b,hE,a,p):=h;let hn:=len ss R a;let(t,ht,o):=y A outer s H E B;let C:aK (start N vs) (c8 (-N) ss) []=tmp (vs.zip ss)++KT (-N- -vs) (OW,Sl.un):=by show(start N vs).zip (c8 (-N) ss)++[]=_;unfold start c8;rw[K1,<-b];show jp _ b
 show(_,ht.nox,M,uw vs ss,H,start N vs,c8 (-N) ss,[],qk (-ps) R,λw i m=>(by cases m),(?_,by simp[start,c8,b],λw i m=>(by cases m),λi l e=>rfl),o ss R a,(λσ' env' H' q r=>?_,λs env' v σ' H' q r=>?_,λσ' env' H' q r=>(show False from q),λσ' env' H' q r=>(show False from q)));rw[C];show hE.sub (λx s m=>?_) (by rw[am,vX,K1];show hE.nd);rcases Km.mp m with m|m;show .inl m;let:=(sn.mp m).2;cases this;show .inr (.inl rfl);let c:=(Rel.addFr r (v:=.non) (d:=.none) .non)
 let c:Rel K M (uw vs ss) H (start N vs) σ' env' [(.non,.fr .none)] H':=by simpa using c
 show p _ _ _ _ q rfl (c.fin (!0) rfl);let(D,F,hR):=q;let G:Rel K M (uw vs ss) H (start N vs) σ' env' [(v,s)] H':=by simpa using r
 let(u,c,I,g):=G.told (n:=-ps) F;show p D _ v H' hR g (by rw[<-I];show c.fin (!0) g)
def IR{x:bc}{st:Stmt}{f:ac}{fd:k3}{k:Nat}{ps:OP}{sp:DSp}(F:Fun K x x st f fd)(m:mg x=OV (.ref f))(b:gY K fd ps [])(G:cg P w K mg base CX0 k f fd ps (spD K sp)):Cal P w K mg base x k (spD K sp):=Cal.mk F m b G
end
section
variable{X:Cx}{x:bc}{p pos:Pos}{e:ba}{es:OS}{k:Nat}{sp:DSp}{K:bg}{tl:DA}
def aH(C:Cal X.prog X.w X.K X.mg X.base x k (spD K sp))(b:PA X (e::es) (upA K tl))(c:fb k X.A:=by exact fb.mono (by assumption) (!2))(hg:Gl X x:=by rfl)(hd:(x==("__debug__" : bc))=false:=by decide)
  (d:j0 (e::es) X.env=(false,eval e X.env)::j0 es X.env:=by rfl) (a:(z4 pos (j0 es X.env)).any (·.1)=false:=by rfl):PE X (.Call (.Name x p) (e::es) [] pos) (up K (w9 sp tl)):=(vJ C c hg b hd d a).imp Da
def bN(m:Nat)(C:Cal X.prog X.w X.K X.mg X.base x k (spD K sp))(b:PA X (e::es) (upA K tl))(c:fb k X.A:=by exact fb.mono (by assumption) (!2))(hg:Gl X x:=by rfl)(hd:(x==("__debug__" : bc))=false:=by decide)
  (d:j0 (e::es) X.env=(false,eval e X.env)::j0 es X.env:=by rfl) (a:(z4 pos (j0 es X.env)).any (·.1)=false:=by rfl):PE X (.Call (.Name x p) (e::es) [] pos) (up K (oz sp m tl)):=(vJ C c hg b hd d a).imp zE
def Bz(C:Cal X.prog X.w X.K X.mg X.base x k (spD K sp))(b:PA X (e::es) (upA K tl))(c:fb k X.A:=by exact fb.mono (by assumption) (!2))(hg:Gl X x:=by rfl)(hd:(x==("__debug__" : bc))=false:=by decide)
  (d:j0 (e::es) X.env=(false,eval e X.env)::j0 es X.env:=by rfl) (a:(z4 pos (j0 es X.env)).any (·.1)=false:=by rfl):PE X (.Call (.Name x p) (e::es) [] pos) (up K (sT sp tl)):=(vJ C c hg b hd d a).imp zD
end
def Ga:G1:=λd R=>∃i,d=.int i/\R (.int (-(i)))
def Ak{K:bg}:∀(N:ac->Prop) (H:Hp) (x:V) (d1:ab) (R:ab->Prop) (Q:VK),Vw K N H x d1->Ga d1 R->(∀d v,R d->DN K N H v d->Q v H)->(rU λi=>.int (-(i))) x H Q:=by rintro N H x d R Q w ⟨i,rfl,hR⟩ a;show(i,w.int,a _ _ hR (.int _))
abbrev li(ns:OD):OM:=ns.map .int
def sE(W:Nat->OL->Prop)(h0:W 0 env)
  (hs:∀i env,(h:i<ds.length)->W i env->g ds[i] env λa=>tb { DD with nx:=dI (W (i+1)) ⟨⟩,ct:=dI (W (i+1)) ⟨⟩,bk:=DD.nx } a) (hd:∀env,W ds.length env->DD.nx env):FD ds g tb DD env:=(W,h0,hs,hd)
def b7(f:Nat->ab)(hz:-ds<=1000000)
  (h : ∀i,(h:i< -ds)->∀Q:ab->Prop,Q (f i)->g ds[i] (iT ix env) λb1=>te b1 λs a=>∃d,aM a s=OV d/\Q d) (hR:R (.ow ((dm (-ds)).map f)) env):CD ds ix g AB te env R:=by show(λi rs=>rs=(dm i).map f/\i<=-ds,(rfl,KG _),λi rs hi w=>?_,λrs w=>by rw[w.1];show hR);let(rfl,_):=w;show(by rw[Ki,Lz];show Ku (!0) ai,?_);let:=h i hi (λd=>(dm i).map f++[d]=(dm (i+1)).map f/\i+1<=-ds) (by rw[Mc,KC];rfl,hi);simpa only[AB,if_true] using this
def cy(p:Nat->Bool)(f:Nat->ab)(hz:-ds<=1000000)
  (h : ∀i,(h:i< -ds)->∀(Q:ab->Prop) (a:Prop),(p i=OX->Q (f i))->(p i=OY->a)->g ds[i] (iT ix env) λb1=>tt b1 λk b=>if k=OX then te b λs c=>∃d,aM c s=OV d/\Q d else a)
  (hR:R (.ow (((dm (-ds)).filter p).map f)) env):CD ds ix g tt te env R:=by show(λi rs=>rs=((dm i).filter p).map f/\i<=-ds,(rfl,KG _),λi rs hi w=>?_,λrs w=>by rw[w.1];show hR);let(rfl,_):=w;show(?_,?_);let:=KZ p (dm i);rw[Lz]at this;rw[Ki];show Ku (!0) ai;show h i hi _ _ (λe=>(?_,hi)) (λe=>(?_,hi));rw[Mc,Lr,KC];simp[e];rw[Mc,Lr,KC];simp[e]
def Bg(i:Int):Prop:=i.natAbs<2 ^ 8000
def Ij(i j:Int):Prop:=0<j/\Bg j
def Bg.log(h:Bg j):j.natAbs.log2<9000:=by by_cases h0:j.natAbs=0;rw[h0];decide;let h1:=Nat.log2_self_le h0;let h:j.natAbs<2 ^ 8000:=h;let h2:(2:Nat) ^ j.natAbs.log2<2 ^ 8000:=Ls h1 h;let h3:=(Nat.pow_lt_pow_iff_right (by decide:1<2)).mp h2;show tO h3 (!2)
section
variable{X:Cx}{K:bg}
def jb:OpR X (Qs .FloorDiv) (rI Ij λi j=>.int (i / j)):=opI λi j Y Y Y Y Y hc q=>by
 show floordiv_int (Int.ne_of_gt hc.1) ?_ (.inl (PyProof.noPylong_of_log2 hc.2.log));rw[MF _ (Int.le_of_lt hc.1)];show q
theorem jL(ns:OD):∀n,n<=-ns->preSum (λi=>ns.getD i 0) n=(ns.take n).sum
 | 0,_=>rfl
 |n+1,h=>by
  rw[preSum,jL ns n (!0),K3,List.sum_append,Kk (by lia:n< -ns)];simp[Kn,Kk (by lia:n< -ns)]
def gX(hK:X.K=K)(hc:X.calm=OX):fM X (.builtin "sum") (λxs H Q=>∃(p:ac) (ns:OD),xs=[.ref p]/\SqL K H p (ns.map V.int)/\Q (.int ns.sum) H):=by
 subst hK;intro pins s σ H xs us Q I r h;let(p,ns,rfl,hs,q):=h;let(u,rfl,j):=iQ r;cases (show u=cu p from j);let(its,rv,k,_):=I.list hs;let c:=k.isList;let f:p<(~~~s):=by let(_,e,_):=c;show KB e
 let hsz:its.toArray.size=-ns:=by let:=-rv;simp at this ⊢;lia
 let W:=(Walks.list (prog:=X.prog) (w:=X.w) (A:=X.A.in1) (I.ok.hd hc) (~~~s) p (KO f) its.toArray).toS;rw[hsz]at W;show call_sum_walkAnyS (QL c ?_);show((~~~s),_,_,_,_,_,_,λi=>ns.getD i 0,rfl,W,((_,KF _ rfl,rfl,rfl),c.push _),λb a=>?_,λi v hP=>?_,λs' t' d=>?_);rcases Kt.mp a with rfl|a;show KB (KF _ rfl);obtain rfl:=Kj.mp a;show KB (Kq _ (id c).choose_spec.1)
 .let hP:its.toArray[i]?=OV v:=hP;let hP:its[i]?=OV v:=by simpa using hP
  let hi:i< -its:=(Kx.mp hP).1;let hi2:i< -ns:=by simp at hsz;lia
  cbv;let(u,e1,(t,e2)):=rv.get (i:=i) (x:=.int ns[i]) (by rw[KM,Kk hi2];rfl);rw[hP]at e1;cases e1
  w_up;show(t,?_);rw[e2];show _=eE (ns.getD i 0) t;rw[Kn,Kk hi2];rfl
 let(h',g',d',l,g):=s';let e1:g'=s.gens:=d.gens;let e2:d'=s.drawn:=d.drawn;let e3:g=s.os:=d.os;subst e1 e2 e3;let ep:=jL ns (-ns) (Kz _);rw[La]at ep;rw[ep];show(.int ns.sum,H,I.kept λb o e=>d.heap b o (λa=>absurd (KB e) ((Kj.mp a)▸LF _)) (Kq _ e),(_,rfl),q)
def Hu:GB:=λds R=>∃es ns,ds=[.list es]/\fH es=OV ns/\R (.int ns.sum)
def F1:kg K (λxs H Q=>∃(p:ac) (ns:OD),xs=[.ref p]/\SqL K H p (ns.map V.int)/\Q (.int ns.sum) H) Hu:=by
 rintro N H xs ds R Q w ⟨es,ns,rfl,e1,hR⟩ b;cases w with
 |cons c d =>
  cbv;cases d;let(a,vs,rfl,s,q):=c.list
  w_up;rw[cH e1]at q;rw[q.ints]at s;show(a,ns,rfl,s,b _ _ hR (.int _))
end
def Bg.of(h1:-1000000000000000000000000000000000000000000000<=i)(h2:i<=1000000000000000000000000000000000000000000000):Bg i:=by
 let h:i.natAbs<2 ^ 200:=by
  let:(2:Nat) ^ 200=1606938044258990275541962092341162602522202993782792835301376:=!2
  rw[this];lia
 show Ku h (LZ (!2) (!2))
section
variable(env:OL) (d:ab) (l:OM) (i n:Nat) (s:Sl) (R:Sl->OL->Prop)
def qO:aV env (.fr d)=OV d:=rfl
def qM:aV env (.ow l)=OV (.list l):=rfl
def qN:aV env (.io l)=OV (.list l):=rfl
def qK:aV env (.vw i)=(env[i]?).bind slD:=rfl
def zX:slD (.fr d)=OV d:=rfl
def zV:slD (.ow l)=OV (.list l):=rfl
def zW:slD (.io l)=OV (.list l):=rfl
def zT:slD .un=OW:=rfl
def zU:slD (.tr S (.dict kvs))=OV (.dict kvs):=rfl
def qL:aV env (.tr S (.dict kvs))=OV (.dict kvs):=rfl
def zS:slK (.fr d)=OV d:=rfl
def zQ:slK (.ow l)=OW:=rfl
def zR:slK (.io l)=OW:=rfl
def zP:slK .un=OW:=rfl
def nL:aM env (.fr d)=OV d:=rfl
def nK:aM env (.ow l)=OV (.list l):=rfl
def nI:aM env (.vw i)=(env[i]?).bind slK:=rfl
def qW:kr env (.fr d)=OV (.fr d):=rfl
def qV:kr env (.ow l)=OV (.ow l):=rfl
def qU:kr env (.tr S d)=OV (.tr S d):=rfl
def rA:pD env (.tr S d)=OV (.tr S d):=rfl
def nJ:aM env (.tr S d)=OV d:=rfl
def qT:kr env (.vw i)=((env[i]?).bind slK).map .fr:=rfl
def GN:Sl->Option Sl
 |.fr d=>OV (.fr d)
 |.ow l=>OV (.ow l)
 |_=>OW
def rC:pD env (.fr d)=OV (.fr d):=rfl
def rB:pD env (.ow l)=OV (.ow l):=rfl
def rz:pD env (.vw i)=(env[i]?).bind GN:=by
 show(env[i]?).bind _=_
 congr 1
def vd:GN (.fr d)=OV (.fr d):=rfl
def vc:GN (.ow l)=OV (.ow l):=rfl
def nY:iN (.fr d)=.un:=rfl
def nW:iN (.ow l)=.un:=rfl
def nX:iN (.io l)=.io l:=rfl
def nV:iN .un=.un:=rfl
def sK:(qk n R).rt s env=∃r,pD env s=OV r/\R r (kC n env):=rfl
def sL:(qk n R).nx env=R (.fr .none) (kC n env):=rfl
def rh:cR (.ow l) d'=OV (.ow d'):=rfl
def rm:cR (.io l) d'=OV (.io d'):=rfl
def vM:ij (.ow l)=OV l:=rfl
def vN:ij (.io l)=OV l:=rfl
def vO:ij (.fr d)=OW:=rfl
def vL:ij .un=OW:=rfl
def tm:oD (OV (.fr d))=.fr d:=rfl
def sZ:oD (OV (.ow l))=.un:=rfl
def s9:oD (OV (.io l))=.un:=rfl
def sY:oD (OV .un)=.un:=rfl
def oF:HW env OW=.un:=rfl
def oE:HW env (OV i)=oD env[i]?:=rfl
def kG:gb (.list l)=OV l:=rfl
def jz:gb (.tuple l)=OV l:=rfl
def mO:zN .none=OV OY:=rfl
def mQ(b:Bool):zN (.bool b)=OV b:=rfl
def qP(i:Int):zN (.int i)=OV (i != 0):=rfl
def mP:zN (.list l)=OV (!l.isEmpty):=rfl
def kE:zN (.tuple l)=OV (!l.isEmpty):=rfl
def nQ:l7 .none=OX:=rfl
def sx(i:Int):l7 (.int i)=OY:=rfl
def nU(i:Bool):l7 (.bool i)=OY:=rfl
def nR:l7 (.list l)=OY:=rfl
def kT:l7 (.tuple l)=OY:=rfl
def sy(b:Bool):isK "bool" (.bool b)=OX:=rfl
def jU:bH env []=OV []:=rfl
def iL(s:Sl)(ss:OL):bH env (s::ss)=(aM env s).bind λd=>(bH env ss).bind λds=>OV (d::ds):=rfl
def kD:gC env []=OV []:=rfl
def jq(s:Sl)(ss:OL):gC env (s::ss)=(aV env s).bind λd=>(gC env ss).bind λds=>OV (d::ds):=rfl
def mh(i j:Int):eu (.int i) (.int j)=decide (i=j):=by show(i==j)=_;by_cases h:i=j <;> simp[h]
end
section
variable{X:Cx}{K:bg}{ta:DA}{a b:ba}{pos:Pos}
def Gi(i j:Nat)(ta:DA):DS:=λDD env=>ta env λss a=>∃s1 s2 d1 d2,ss=[s1,s2]/\aM a s1=OV d1/\aM a s2=OV d2/\i< -a/\j< -a/\DD.nx ((a.set i (.fr d1)).set j (.fr d2))
def EE:∀D σ H,upS K (Gi i j ta) D σ H->Im i j (upA K ta) D σ H:=λD σ H h=>by
 let(M,P,H0,σ0,env,ts,DD,nv,e,ht,ok):=h;show(M,P,H0,σ0,env,ts,_,e,ht,λss c vs H1 h1 k a=>?_);let(s1,s2,d1,d2,rfl,n,k2,hi,hj,hR):=h1;let(v,v',rfl):=F6 k;let d:=a.keptAll (vs:=[v,v']) (ds:=[d1,d2]) k (λp o=>o) (by simp[bH,n,k2]);let l:=a.drop.addFrs d;let l:Rel K M P H0 σ0 σ c (ts++[(v,.fr d1),(v',.fr d2)]) H1:=by simpa using l
 cases d with
 |cons dn q =>
  cases q with
  |cons f q =>
   show(v,v',rfl,ok.nx _ _ _ hR ?_);let r:Rel K M P H0 σ0 σ c ((ts++[(v',.fr d2)])++[(v,.fr d1)]) H1:=(a.drop.addFr f).addFr (dn.to λb Y Y z=>by rw[aG,rP]at z;show z);let g:xL (ts++[(v',.fr d2)]):=λw i m=>by
    rcases Km.mp m with m|m;show nv w i m;rw[Kj]at m;cases m
   let s:=r.store g hi rfl;show s.store nv (by simpa using hj) rfl
def Ef(hc:X.calm=true)(hN:X.N.Nodup)(hi:X.N[i]?=some x)(hj:X.N[j]?=some y)(e:i≠j)
  (hx:X.env.scope.names.lookup x=some .local) (f:X.env.scope.names.lookup y=some .local) (g:PA X [a,b] (upA K ta))
  (hw:QH [.Tuple [.Name x c,.Name y d] kt pt] (.Tuple [a,b] k2 pt2) X.env=pure (some [x,y]):=by rfl)
  (hs:QG [.Tuple [.Name x c,.Name y d] kt pt] (.Tuple [a,b] k2 pt2) pos.line X.env=pure false:=by rfl) :
  PS X (.Assign [.Tuple [.Name x c,.Name y d] kt pt] (.Tuple [a,b] k2 pt2) pos) (upS K (Gi i j ta)):=(Es hc hN hi hj e hx f g hw hs).imp EE
end
def AN(x:α)(l:List α):atI (x::l) 0=OV x:=cA (j:=0) rfl
def xt(x y:α)(l:List α):atI (x::y::l) 1=OV y:=cA (j:=1) rfl
def AM(x y z:α)(l:List α):atI (x::y::z::l) 2=OV z:=cA (j:=2) rfl
def AK(a b c d x:α)(l:List α):atI (a::b::c::d::x::l) 4=OV x:=cA (j:=4) rfl
def AJ(a b c d e x:α)(l:List α):atI (a::b::c::d::e::x::l) 5=OV x:=cA (j:=5) rfl
def AI(a b c d e f x:α)(l:List α):atI (a::b::c::d::e::f::x::l) 6=OV x:=cA (j:=6) rfl
def AH(a b c d e f g x:α)(l:List α):atI (a::b::c::d::e::f::g::x::l) 7=OV x:=cA (j:=7) rfl
def sJ:eu .none .none=OX:=rfl
def Av(i:Int):eu .none (.int i)=OY:=rfl
def Ax(i:Int):eu (.int i) .none=OY:=rfl
def u4(i:Int):shp (.int i)=True:=by simp[shp,ir,dy,m3]
def q9:shp .none=True:=by simp[shp,ir,dy,m3]
def rd(b:Bool):shp (.bool b)=True:=by simp[shp,ir,dy,m3]
def AL(x y z u:α)(l:List α):atI (x::y::z::u::l) 3=OV u:=cA (j:=3) rfl
def EV{K:bg}{H:Hp}{a:ac}{ns:OD}{E:XK}(d:SqL K H a (ns.map V.int)){sp:DSp}(h:sp [.fr (.list (li ns))] (λr Y=>r=.fr (.bool OX))):spD K sp [.ref a] H (λv Y=>v=.bl OX) E:=by
 let c:DNs K (λY=>False) H [.ref a] [.list (li ns)]:=.cons (DN.sqL d) .nil;show(λY=>False,[.fr (.list (li ns))],_,rfl,AQ (ds:=[.list (li ns)]) c (λa z=>z.elim),h,λr f v H' hR Y b=>?_)
 cbv;subst hR;let(w,e,dn):=b.fr _ _ Ks;cases e;cases dn
 w_up;rfl
def Gs{l:o0}{q:k5}{e:OP}{m:(bc->OB)->bb->Prop}{o:q3->bb->Prop}{d:DefRec}{K:Params->bg}{sp:DSp}{k:Nat}(hk:k<=40)(hn:l.most=some 63)(g:d.params.defaults=[])
  (i:∀ns:OD,ns.length<=63->sp [.fr (.list (li ns))] (λr Y=>r=.fr (.bool true)))
  (j:∀(w:q3) (s₀:az) (mg mb:bc->OB) (h:bb),wr q e [] m w s₀ mg mb h->(K w.params).In h->∃tb:List (ac×bc),(∀b q,tb.lookup b=some q->h.get? b=some { cls:=.none,data:=.fields #[] }/\(K w.params).lookup b=none/\∃c,h.TableAt c b #[])/\∀T q,kh (K w.params) T q->tb.lookup T=some q)
  (hY:∀(w:q3) (h:bb),o w h->(K w.params).In h)
  (F : ∀(w:q3) (mg:bc->OB) (fa:ac) (h:bb),(K w.params).In h->h.Ns k0 mg->mg d.name=some (.ref fa) ->
   ∃fd:k3,(∀(s:az) (u:ao),Zv s fd ([u],[]) [("_law_script",u)])/\∀base:bb,(K w.params).In base->base.Ns k0 mg->cg l.prog w (K w.params) mg base CX0 k fa fd ["_law_script"] (spD (K w.params) sp)) :
  Nt q e m o l.row.toRowW d [] (λf vs=>I1 f vs):=by show _L.A1 (n:=63) (k:=40) (x := "_law_script") (CX:=λY=>CX0) (sp:=λw=>spD (K w.params) sp) hn (!2) g (rfl,!2,!2) j hY (λw mg fa h a b c=>?_) (λw H a ns p Y t=>EV t (i ns p)) λY Y Y Y Y z=>z;let(fd,h1,h2):=F w mg fa h a b c;show(fd,h1,λbase x y=>(h2 base x y).mono hk)
def Sh(n:Nat)(d:ab):Prop:=d.canLay0=OX/\d.depth<=n
theorem Sh.int(n:Nat)(i:Int):Sh n (.int i):=(by simp[dy],by simp[m3])
theorem Sh.none(n:Nat):Sh n .none:=(by simp[dy],by simp[m3])
theorem Sh.all:∀{ds:OM},(∀x∈ds,Sh n x)->ew ds=OX/\nn ds<=n
 |[],_=>(by simp[ew],by simp[nn])
 |d::ds,h=>by
  let h1:=h d Ks;let h2:=Sh.all λx hx=>h x (Kv _ hx);show(by rw[ew,h1.1,h2.1];rfl,?_);rw[nn];let a:=h1.2;let b:=h2.2;lia
theorem Sh.list(h:∀x∈ds,Sh n x):Sh (n+1) (.list ds):=by let(a,b):=Sh.all h;show(by rw[dy];show a,by rw[m3];lia)
theorem Sh.tuple(h:∀x∈ds,Sh n x):Sh (n+1) (.tuple ds):=by let(a,b):=Sh.all h;show(by rw[dy];show a,by rw[m3];lia)
def Sh.ints(n:Nat)(ns:OD):Sh (n+1) (.list (li ns)):=Sh.list λx hx=>by
 let(i,_,rfl):=Ko.mp hx;show Sh.int _ _
theorem Sh.shp(h:Sh n d)(hn:n<=64):shp d:=by show ir d=OX;unfold ir;rw[h.1,decide_eq_true (Kr h.2 hn)];rfl
def dO{ns:OD}(h:k< -ns):atI (li ns) (k:Int)=OV (.int (ns.getD k 0)):=cA (by
 rw[KM,Kk h,Kn,Kk h];rfl)
def dL(h:i<(li ns).length):(li ns)[i]=.int (ns.getD i 0):=by
 let h':i< -ns:=by simpa using h
 simp[Kn,Kk h']
def EU(ns:OD)(i:Nat)(x:Int):(li ns).set i (.int x)=li (ns.set i x):=by simp[N5]
def fG(ns:OD)(x:Int):li ns++[.int x]=li (ns++[x]):=!1
def jd(n:Nat)(f:Nat->Int):(dm n).map (λi=>db (f i))=li ((dm n).map f):=by show _=eC _ (eC _ _);rw[KQ];rfl
def ff(h0:-18446744073709551616<i)(h1:i<18446744073709551616):xE i j:=.inl (h0,h1)
def sW(h0:-18446744073709551616<j)(h1:j<18446744073709551616):xE i j:=.inr (h0,h1)
@[irreducible] def dNx (u:DS):DS:=u
def AE(u:DS):dNx u=u:=by unfold dNx;rfl
def nx(h:u DD env):dNx u DD env:=by rw[AE];show h
def af{X:Cx}{K:bg}{st:Stmt}{rest:List Stmt}{t u:DS}(h1:PS X st (upS K t))(h2:PSs X rest (upS K u)):PSs X (st::rest) (upS K (FC t (dNx u))):=by rw[AE];show ce h1 h2
theorem kZ(a:Nat->Nat->Bool)(val:Nat->Int)(c:∀i j,a i j=decide (val i<val j)):∀n,QQ a n<=n/\∀i,i<=n->val (QQ a n)<=val i
 | 0=>(Kz _,λi hi=>by rw[show i=0 by lia];show L6 _)
 |n + 1=>by
  let(h1,h2):=kZ a val c n;show(if a (n+1) (QQ a n) then n+1 else QQ a n)<=_/\_;cases e:a (n+1) (QQ a n) with
  |true =>
   rw[c,decide_eq_true_eq]at e;show(!1,λi hi=>?_);let d:QQ a (n+1)=n+1:=by show(if a (n+1) (QQ a n) then n+1 else QQ a n)=_;rw[c,decide_eq_true e,N6 rfl]
   rw[d];by_cases b:i=n+1;rw[b];show L6 _;let:=h2 i (!0);lia
  |false =>
   rw[c,decide_eq_false_iff_not]at e;show(by simp;lia,λi hi=>?_);let d:QQ a (n+1)=QQ a n:=by show(if a (n+1) (QQ a n) then n+1 else QQ a n)=_;rw[c,decide_eq_false e];rfl
   rw[d];by_cases b:i=n+1;rw[b];lia;show h2 i (!0)
section
variable{X:Cx}{K:bg}
def xj(hK:X.K=K)(hc:X.calm=OX):fM X (.builtin "min") (λxs H Q=>∃(p:ac) (ns:OD),xs=[.ref p]/\SqL K H p (ns.map V.int)/\ns≠[]/\∀m,m∈ns->(∀x∈ns,m<=x)->Q (.int m) H):=by
 subst hK;intro pins s σ H xs us Q I r h;let(p,ns,rfl,hs,k,q):=h;let(u,rfl,n):=iQ r;cases (show u=cu p from n);let(its,rv,y,_):=I.list hs;let g:=y.isList;let l:p<(~~~s):=by let(_,e,_):=g;show KB e
 let hsz:its.toArray.size=-ns:=by let:=-rv;simp at this ⊢;lia
 let d:0< -ns:=Mr.mpr k;let W:=(Walks.list (prog:=X.prog) (w:=X.w) (A:=X.A.in1) (I.ok.hd hc) (~~~s) p (KO l) its.toArray)
 rw[hsz]at W;let a:∀(i:Nat) (v:ao),its.toArray[i]?=OV v->∃t,v=eE (ns.getD i 0) t:=λi v hP=>by
  let hP:its[i]?=OV v:=by simpa using hP
  let hi:i< -its:=(Kx.mp hP).1;let hi2:i< -ns:=by simp at hsz;lia
  cbv;let(u,e1,(t,e2)):=rv.get (i:=i) (x:=.int ns[i]) (by rw[KM,Kk hi2];rfl);rw[hP]at e1;cases e1
  w_up;show(t,?_);rw[e2,Kn,Kk hi2];rfl
 show call_min_walk (QL g ?_);show((~~~s),_,_,_,_,_,λi j=>decide (ns.getD i 0<ns.getD j 0),rfl,W,((_,KF _ rfl,rfl,rfl),g.push _),λb f=>?_,d,CmpOf.ints_lt (λi=>ns.getD i 0) a,λv h' tk hP hk=>?_);rcases Kt.mp f with rfl|f;show KB (KF _ rfl);obtain rfl:=Kj.mp f;show KB (Kq _ (id g).choose_spec.1);let(t,rfl):=a _ _ hP;let(b1,z):=kZ (λi j=>decide (ns.getD i 0<ns.getD j 0)) (λi=>ns.getD i 0) (λY Y=>rfl) (-ns-1);let c:QQ (λi j=>decide (ns.getD i 0<ns.getD j 0)) (-ns-1)< -ns:=!0
 show(.int _,H,I.kept λb o e=>hk b o (λf=>absurd (KB e) ((Kj.mp f)▸LF _)) (Kq _ e),(_,rfl),q _ ?_ λx hx=>?_);rw[Kn,Kk c];show KL c;let(j,hj,rfl):=K7 hx;let:=z j (!0);rwa [show ns.getD j 0=ns[j] by rw[Kn,Kk hj];rfl]at this
def Cu:GB:=λds R=>∃es ns,ds=[.list es]/\fH es=OV ns/\ns≠[]/\∀m,m∈ns->(∀x∈ns,m<=x)->R (.int m)
def Hb:kg K (λxs H Q=>∃(p:ac) (ns:OD),xs=[.ref p]/\SqL K H p (ns.map V.int)/\ns≠[]/\∀m,m∈ns->(∀x∈ns,m<=x)->Q (.int m) H) Cu:=by
 rintro N H xs ds R Q w ⟨es,ns,rfl,e1,b,hR⟩ c;cases w with
 |cons d e =>
  cbv;cases e;let(a,vs,rfl,s,q):=d.list
  w_up;rw[cH e1]at q;rw[q.ints]at s;show(a,ns,rfl,s,b,λm h1 h2=>c _ _ (hR m h1 h2) (.int _))
end
def Pl:Nat->ab->Prop
 | 0,d=>∃i,d=.int i
 |n+1,d=>(∃i,d=.int i)\/∃ds:OM,(d=.list ds\/d=.tuple ds)/\ds.length<=1000000/\∀x∈ds,Pl n x
section
variable{K:bg}{N:ac->Prop}{H:Hp}
def D0(K:bg):R2:=λx y H Q=>∃l k xs,x=.ref l/\y=.int k/\SqL K H l xs/\-(2 ^ 63)<=k/\k<2 ^ 63/\xs.length*k.toNat<=sizeLine /\
 ∀p,H p=OW->Q (.ref p) (upd H p (.lst (KT k.toNat xs).flatten))
def BY(hK:X.K=K):OpR X (Qs .Mult) (D0 K):=by
 subst hK;intro pins s σ H x y v u Q I i j h
 cbv;let(l,k,xs,rfl,rfl,o,h1,h2,hz,q):=h;cases i;let(t,rfl):=j;let(its,r,((cls,dd,data,sl),n,e,hc,_,hd),z):=I.list o;simp only at hc hd;subst hc hd
 w_up;let p:=-r;let c:its.toArray.size*k.toNat<=sizeLine:=by rw[KA,<-p];show hz
 let d:¬its.toArray.size*k.toNat>(2 ^ 63-1) / 8:=by
  let:(sizeLine:Nat)<=(2 ^ 63-1) / 8:=!2
  lia
 let f:¬(!Builtin.List.listFitsIndex k)=OX:=by rw[fitsIndex_both h1 h2];show KH
 let b:¬gV (its.toArray.size*k.toNat)=OX:=by rw[rQ c];show KH
 let g:Nj (λx1 x2=>x1++x2) #[] (KT (if its.toArray.isEmpty=OX then 0 else k.toNat) its.toArray)=(KT k.toNat its).flatten.toArray:=by
  let w:∀m:Nat,Nj (λx1 x2=>x1++x2) #[] (KT m its.toArray)=(KT m its).flatten.toArray:=λm=>by
   let:=on its m [];rw[Mt]at this;show this
  rw[w];cases its with
  |nil=>simp
  |cons a A=>rw[N7 (!1)]
 show wpAny_binaryOp_repeat_ref (T := "list") (U := "int") (!2) (_,e,rfl) (λs'=>typeIs_int s' k t) noFill_list_mul F.fills_int_mul F.slot_int_rmul repeat_list F.slot_int_index.lookup
  (Qy F.slot_int_rmul (typeIs_int s k t) F.entry_int_rmul (F.args_int_rmul_2 _ _) (lm_int_rmul_list_any k t l its.toArray n dd sl)
   (e,rfl,(_,e,rfl),Qy F.slot_list_mul (_,e,rfl) F.entry_list_mul (F.args_list_mul_2 _ _) (lm_list_mul_any l its.toArray n dd sl k t f d b) (e,?_)))
 rw[g];show(.ref _,_,I.lnew (t':=s.toks) (r.rep k.toNat) (by rw[B7,Mu];show hz),rfl,q _ I.fresh)
def Hv:ab->ab->(OM->Prop)->Prop:=λd e R=>∃xs k,d=.list xs/\e=.int k/\-(2 ^ 63)<=k/\k<2 ^ 63/\xs.length*k.toNat<=sizeLine/\R (KT k.toNat xs).flatten
theorem DNs.rep(q:DNs K N H vs ds):∀k:Nat,DNs K N H (KT k vs).flatten (KT k ds).flatten
 | 0=>by simpa using(by cases q <;> constructor:DNs K N H [] [])
 |k+1=>by
  rw[Lm,Lm,LM,LM];show q.app (DNs.rep q k)
def JQ:tz K (D0 K) Hv:=by rintro N H x y d e R Q a b ⟨xs,k,rfl,rfl,h1,h2,hz,hR⟩ c;let(a1,v1,rfl,s1,q1):=a.list;obtain rfl:=b.int;show(a1,k,v1,rfl,rfl,s1,h1,h2,by rw[q1.len];show hz,λp f=>c _ _ p hR (q1.rep _) f)
def Iu(n:Nat)(x:ab):(KT n [x]).flatten=KT n x:=by
 induction n with
 |zero=>rfl
 |succ n a=>rw[Lm,LM,a,Lm];rfl
end
mutual
def noL:ab->Bool
 |.none=>OX
 |.bool _=>OX
 |.int _=>OX
 |.str _=>OX
 |.tuple ds=>pU ds
 |_=>OY
def pU:OM->Bool
 |[]=>OX
 |d::ds=>noL d&&pU ds
end
section
variable{K:bg}{M P N:ac->Prop}{H0 H:Hp}{E T:OJ}{σ0 σ:St}{env:OL}{ts tt:Ox}{v:V}{s:Sl}{d:ab}
def DN.ot(h:DN K N H v d):noL d=OX->OT K N H v d [] :=
 DN.rec (motive_1:=λv d Y=>noL d=OX->OT K N H v d []) (motive_2:=λv d Y=>pU d=OX->OTs K N H v d [])
 (λY=>.non) (λb Y=>.bl b) (λi Y=>.int i)
 (λY Y Y e=>by simp[noL]at e) (λh Y i e=>.tup h (i (by simpa[noL] using e)))
 (λY Y Y Y Y Y Y e=>by simp[noL]at e) (λY Y Y Y Y e=>by simp[noL]at e) (λY Y e=>by simp[noL]at e) (λY=>.nil)
 (λ{_ _ d ds} _ _ i j e=>by
  let e:(noL d&&pU ds)=OX:=e;rw[Ll]at e;show .cons (S:=[]) (S':=[]) (i e.1) (j e.2)) h
def DNs.ots{v:OU}{d:OM}(h:DNs K N H v d):pU d=OX->OTs K N H v d []:=DNs.ind (C:=λv d=>pU d=OX->OTs K N H v d []) (λY=>.nil) (λ{_ _ d ds} h _ j e=>by
  let e:(noL d&&pU ds)=OX:=e;rw[Ll]at e;show .cons (S:=[]) (S':=[]) (h.ot e.1) (j e.2)) h
noncomputable def fzs:OM->Oj
 |[]=>OV []
 |.list l::ds=>(fzs ds).map (fzD l::·)
 |_::_=>OW
theorem DNs.fzs:∀{vs:OU}{ds ds':OM},DNs K N H vs ds->fzs ds=OV ds'->OTs K N H vs ds' []
 |_,_,_,.nil,e=>by cases e;show .nil
 |_, d::ds,_,.cons h q,e=>by
  cases d with
  |list l =>
   let e:(_L.fzs ds).map (fzD l::·)=OV _:=e;cases e2:_L.fzs ds with
   |none=>rw[e2]at e;cases e
   |some ds2 =>
    rw[e2]at e;cases e;show .cons (S:=[]) (S':=[]) (.fz h) (DNs.fzs q e2)
  |_=>cases e
def slF(s:Sl):Option ab:=match s with
 |.fr d=>if noL d=OX then OV d else OW
 |_=>OW
def ko(env:OL):Sl->Option ab
 |.fr d=>if noL d=OX then OV d else OW
 |.ow ds=>if pU ds=OX then OV (.list ds) else (fzs ds).map .list
 |.tr _ d=>OV d
 |.vw i=>(env[i]?).bind slF
 |_=>OW
def jr(env:OL):OL->Oj
 |[]=>OV []
 |s::ss=>(ko env s).bind λd=>(jr env ss).bind λds=>OV (d::ds)
def Rel.tree(h:Rel K M P H0 σ0 σ env ts H)(m:(v,s)∈ts)(e:ko env s=OV d):OT K (Nw M (aK σ env ts)) H v d (dg (OV v,s))/\∀a∈dg (OV v,s),H0 a=OW:=by
 let f:((OV v,s):Ent)∈aK σ env ts:=fF m;cases s with
 |fr d' =>
  by_cases c:noL d'=OX
  .let e:(if noL d'=OX then OV d' else OW)=OV d:=e;rw[N6 c]at e
   cbv;cases e;let(v',e1,dn):=h.e.fr _ _ f;cases e1
   w_up;rw[eW];show(dn.ot c,λa g=>by cases g)
  let e:(if noL d'=OX then OV d' else OW)=OV d:=e;rw[N7 c]at e;cases e
 |ow ds =>
  let e:(if pU ds=OX then OV (dt ds) else (fzs ds).map .list)=OV d:=e;by_cases c:pU ds=OX
  .rw[N6 c]at e
   cbv;cases e;let(a,vs,e1,e2,dn,h0):=h.e.ow _ _ f;cases e1
   w_up;show(.lst e2 (dn.ots c),λb j=>by rw[Kj.mp j];show h0)
  .rw[N7 c]at e;cases e3:fzs ds with
   |none=>rw[e3]at e;cases e
   |some ds' =>
    rw[e3]at e
    cbv;cases e;let(a,vs,e1,e2,dn,h0):=h.e.ow _ _ f;cases e1
    w_up;show(.lst e2 (dn.fzs e3),λb j=>by rw[Kj.mp j];show h0)
 |tr S d' =>
  cbv;cases e;let(v',e1,ot,h0):=h.e.tr _ _ _ f;cases e1
  w_up;rw[aZ];show(ot,h0)
 |vw i =>
  let e:(env[i]?).bind slF=OV d:=e;cases q:env[i]? with
  |none=>rw[q]at e;cases e
  |some s' =>
   rw[q]at e;cases s' with
   |fr d' =>
    let e:(if noL d'=OX then OV d' else OW)=OV d:=e;by_cases c:noL d'=OX
    .rw[N6 c]at e
     cbv;cases e;let(x,e1,m1):=h.slot q;let(v',e2,dn):=h.e.fr _ _ m1;let e3:=h.vw v i m;rw[e1,e2]at e3;cases e3
     w_up;rw[jN];show(dn.ot c,λa g=>by cases g)
    rw[N7 c]at e;cases e
   |_=>cases e
 |_=>cases e
theorem Rel.trees(h:Rel K M P H0 σ0 σ env ts H):∀{vs:OU}{ss:OL}{ds:OM},-vs=-ss->(∀p∈vs.zip ss,p∈ts)->jr env ss=OV ds->OTs K (Nw M (aK σ env ts)) H vs ds (oas (tmp (vs.zip ss)))/\∀a∈oas (tmp (vs.zip ss)),H0 a=OW
 |[],[],_,_,_,e=>by cases e;show(.nil,λa c=>by cases c)
 |v :: vs,s::ss,ds,b,f,e=>by
  unfold jr at e;cases e1:ko env s with
  |none=>rw[e1]at e;cases e
  |some d =>
   rw[e1]at e;cases e2:jr env ss with
   |none=>rw[e2]at e;cases e
   |some ds' =>
    rw[e2]at e
    cbv;cases e;let(a1,a2):=h.tree (v:=v) (f (v,s) (!1)) e1;let(b1,g):=h.trees (vs:=vs) (ss:=ss) (by simpa using b) (λp i=>f p (by simp[i])) e2
    w_up;let j:oas (tmp ((v::vs).zip (s::ss)))=dg (OV v,s)++oas (tmp (vs.zip ss)):=au _ _;rw[j];show(.cons a1 b1,λa c=>(Km.mp c).elim (a2 a) (g a))
 |[],_::_,_,b,_,_=>by simp at b
 |_::_,[],_,b,_,_=>by simp at b
def BW(q:OTs K N H vs ds S)(b:H p=OW):OTs K N (upd H p o) vs ds S:=q.keep (bd.same (bh.new b)) λa c=>by
 let(xs,z):=q.lives a c;rw[bh.new b _ _ z,z]
def bS.foldL(h:bS K M P H0 (E++T) H)(c:H p=OW)(q:OTs K (Nw M (E++T)) H vs ds (oas T))(j:∀a∈oas T,H0 a=OW):bS K M P H0 (E++[(Pm (OV (.ref p)) (.tr (p::oas T) (.list ds)))]) (upd H p (.lst vs)):=by
 let i:oas (E++[(Pm (OV (.ref p)) (Sl.tr (p::oas T) (.list ds)))])=oas E++p::oas T:=by rw[am,au,aZ];simp[oas]
 let g:p ∉ oas (E++T):=λz=>by
  let(vs',q,_):=h.own z;rw[c]at q;cases q
 let h0:H0 p=OW:=by
  cases e:H0 p with
  |none=>rfl
  |some o=>show absurd c (h.live p (by rw[e];simp))
 let up:∀b o,H b=OV o->Nw M (E++[(Pm (OV (.ref p)) (Sl.tr (p::oas T) (.list ds)))]) b->Nw M (E++T) b:=λb o e z=>by
  rcases z with z|z;show .inl z;rw[i]at z;rcases Km.mp z with z|z;show .inr (by rw[am];show Kp _ z);rcases Kt.mp z with z|z;rw[z,c]at e;cases e;show .inr (by rw[am];show Kl _ z)
 let old:∀x s,(Pm x s)∈E++[(Pm (OV (.ref p)) (Sl.tr (p::oas T) (.list ds)))]->(Pm x s)∈E++T\/(Pm x s)=(Pm (OV (.ref p)) (Sl.tr (p::oas T) (.list ds))):=λx s m=>by
  rcases Km.mp m with m|m;show .inl (Kp _ m);show .inr (Kj.mp m)
 let h':=h.same (bh.new (o:=.lst vs) c);show⟨h'.keep,h'.live,h.mt,h.pm,λx d' m=>?_,λx d' m=>?_,λx d' m=>?_,λx S d' m=>?_,?_⟩;rcases old _ _ m with m|m;let(v,e,dn):=h.fr x d' m;show⟨v,e,(dn.to up).keep (bd.same (bh.new c))⟩;cases m;rcases old _ _ m with m|m;let(a,ws,e,e2,dn,r):=h.ow x d' m;show⟨a,ws,e,bh.new c _ _ e2,(dn.to up).keep (bd.same (bh.new c)),r⟩;cases m;rcases old _ _ m with m|m;let(a,ws,e,e2,dn,r):=h.io x d' m;show⟨a,ws,e,bh.new c _ _ e2,(dn.to up).keep (bd.same (bh.new c)),r⟩;cases m;rcases old _ _ m with m|m;let(v,e,dn,r):=h.tr x S d' m;show⟨v,e,(dn.to up).keep (bd.same (bh.new c)) λa d=>by
  let(xs,z):=dn.lives a d;rw[bh.new c _ _ z,z],r⟩
 cases m;show⟨_,rfl,.lst aC (BW (q.to up) c),λa d=>(Kt.mp d).elim (λz=>by rw[z];show h0) (j a)⟩;rw[i];let nd:=h.nd;rw[am]at nd g;let(k,l,n):=Ky.mp nd;show Ky.mpr ⟨k,KY.mpr ⟨λz=>g (Kl _ z),l⟩,λa d b f z=>?_⟩;rcases Kt.mp f with f|f;rw[f]at z;show g (Kp _ (z▸d));show n a d b f z
def Rel.resLstT(h:Rel K M P H0 σ0 σ env (ts++tt) H)(b:H p=OW)(q:OTs K (Nw M (aK σ env (ts++tt))) H vs ds (oas (tmp tt)))(h0:∀a∈oas (tmp tt),H0 a=OW) :
  Rel K M P H0 σ0 σ env (ts++[(.ref p,.tr (p::oas (tmp tt)) (.list ds))]) (upd H p (.lst vs)):=by let hE:=h.e;rw[aG]at hE q;show h.drop.withRes (hE.foldL b q h0) rfl
end
section
def uH(h:nP s=OX):ko env s=ko env' s:=by cases s <;> first|rfl|cases h
end
section
end
noncomputable def Af(n:ab):OG->ab->ab
 |[],_=>n
 |i::p,.list ds=>.list (match ds[i]? with|some c=>ds.set i (Af n p c)|none=>ds)
 |i::p,.tuple ds=>.tuple (match ds[i]? with|some c=>ds.set i (Af n p c)|none=>ds)
 |_::_,d=>d
inductive xy (K:bg) (H:Hp):V->OG->V->Prop
 |nil {v:V}:xy K H v [] v
 |cons {b:ac}{xs:OU}{i:Nat}{x u:V}{p:OG}:(SqL K H b xs\/SqT K H b xs)->xs[i]?=some x->xy K H x p u->xy K H (.ref b) (i::p) u
section
variable{K:bg}{N:ac->Prop}{H:Hp}
def AT(K:bg)(N:ac->Prop)(H:Hp)(v:V)(p:OG)(d:ab)(S:OO)(ds:OM):Prop:=∃a us,xy K H v p (.ref a)/\H a=OV (.lst us)/\a∈S/\us.length=-ds /\
  ∀{N1:ac->Prop}{H1:Hp}{w:V}{e:ab}{c:OO},(∀b o,H b=OV o->N1 b->N b)->bh H H1->N1 a->OT K N1 (upd H1 a (.lst (us++[w]))) w e c->∃S',S'.Perm (S++c)/\OT K N1 (upd H1 a (.lst (us++[w]))) v (Af (.list (ds++[e])) p d) S'
def OT.path0(o:OT K N H v (.list ds) S)(nd:S.Nodup):AT K N H v [] (.list ds) S ds:=by
 cases o with
 |@lst a us _ c g q =>
  show(a,us,.nil,g,Ks,q.len,λ{N1 H1 w e h} m d i j=>?_);let(k,p):=KY.mp nd;let l:OTs K N1 (upd H1 a (.lst (us++[w]))) us ds c:=(q.to m).keep ((bd.same d).trans (bd.own i)) λb f=>by
   let(xs,z):=q.lives b f;let n:b≠a:=λz=>k (z▸f);rw[aw n,d _ _ z,z]
  show(a::(c++(h++[])),!1,.lst aC (l.app (.cons j .nil)))
end
section
variable{K:bg}{M P:ac->Prop}{H0 H:Hp}{T A B:OJ}{v:V}{d:ab}
def bS.appAtU{U:OJ}{c:Hp}{S:OO}{p:OG}{ds:OM}(F:bS K M P H0 (A++(Pm (OV v) (.tr S d))::(B++U)) c)(N:OT K (Nw M (A++(Pm (OV v) (.tr S d))::(B++U))) c v d S->S.Nodup->AT K (Nw M (A++(Pm (OV v) (.tr S d))::(B++U))) c v p d S ds):∃a us,xy K c v p (.ref a)/\c a=OV (.lst us)/\us.length=-ds /\
  ∀{T:OJ}{H:Hp}{w:V}{e:ab},bh c H->(∀a∈oas T,c a=OW\/a∈oas U)->bS K M P H0 (A++(Pm (OV v) (.tr S d))::(B++T)) H->OT K (Nw M (A++(Pm (OV v) (.tr S d))::(B++T))) H w e (oas T)->(∀a∈oas T,H0 a=OW)->∃S',bS K M P H0 (A++(Pm (OV v) (.tr S' (Af (.list (ds++[e])) p d)))::B) (upd H a (.lst (us++[w]))):=by
 cbv;let(v',ev,ot,h0):=F.tr _ _ _ (Kl _ Ks);cases ev;let i:=F.nd;let j:oas (A++(Pm (OV v) (Sl.tr S d))::(B++U))=oas A++(S++(oas B++oas U)):=by rw[am,au,aZ,am]
 rw[j]at i;let(a,us,r,O,ma,Q,g):=N ot (Ky.mp (Ky.mp i).2.1).1
 w_up;show⟨a,us,r,O,Q,λ{T H w e} R W h y hT=>?_⟩;let u:oas (A++(Pm (OV v) (Sl.tr S d))::(B++T))=oas A++(S++(oas B++oas T)):=by rw[am,au,aZ,am]
 let nd:=h.nd;rw[u]at nd
 cbv;let(n1,X,Y):=Ky.mp nd;let(n4,Z,G):=Ky.mp X;let(n7,n8,n9):=Ky.mp Z;let I:Nw M (A++(Pm (OV v) (Sl.tr S d))::(B++T)) a:=.inr (by rw[u];show Kl _ (Kp _ ma));let mm:∀b o,c b=OV o->Nw M (A++(Pm (OV v) (Sl.tr S d))::(B++T)) b->Nw M (A++(Pm (OV v) (Sl.tr S d))::(B++U)) b:=λb o J z=>by
  rcases z with z|z;show .inl z;rw[u]at z;show .inr ?_;rw[j];rcases Km.mp z with z|z;show Kp _ z;rcases Km.mp z with z|z;show Kl _ (Kp _ z);rcases Km.mp z with z|z;show Kl _ (Kl _ (Kp _ z));rcases W b z with C|C;rw[C]at J;cases J;show Kl _ (Kl _ (Kl _ C))
 let k:bd (Nw M (A++(Pm (OV v) (Sl.tr S d))::(B++T))) H (upd H a (.lst (us++[w]))):=bd.own I;let D:=y.keep k λb f=>aw λz=>G a ma b (Kl _ f) z.symm;let(S',pm,E):=g mm R I D
 w_up;show⟨S',?_⟩;let l:oas (A++(Pm (OV v) (Sl.tr S' (Af (.list (ds++[e])) p d)))::B)=oas A++(S'++oas B):=by rw[am,au,aZ]
 let n:(oas A++(S'++oas B)).Perm (oas A++(S++(oas B++oas T))):=by show eh _ ((eT _ pm).trans ?_);rw[KU];show eh _ Li
 let ne:Nw M (A++(Pm (OV v) (Sl.tr S' (Af (.list (ds++[e])) p d)))::B)=Nw M (A++(Pm (OV v) (Sl.tr S d))::(B++T)):=by funext b;apply propext;unfold Nw;rw[u,l,n.mem_iff]
 let back:∀x t,(Pm x t)∈A\/(Pm x t)∈B->(Pm x t)∈A++(Pm (OV v) (Sl.tr S d))::(B++T):=λx t m=>by
  rcases m with m|m;show Kp _ m;show Kl _ (Kv _ (Kp _ m))
 let old:∀x t,(Pm x t)∈A++(Pm (OV v) (Sl.tr S' (Af (.list (ds++[e])) p d)))::B->(Pm x t)=(Pm (OV v) (Sl.tr S' (Af (.list (ds++[e])) p d)))\/((Pm x t)∈A\/(Pm x t)∈B):=λx t m=>by
  rcases Km.mp m with m|m;show .inr (.inl m);rcases Kt.mp m with m|m;show .inl m;show .inr (.inr m)
 let other:∀x t b,(Pm x t)∈A\/(Pm x t)∈B->b∈dg (Pm x t)->b≠a:=λx t b m L z=>by
  subst z;rcases m with m|m;show Y b (bu.mpr ⟨_,m,L⟩) b (Kp _ ma) rfl;show G b ma b (Kp _ (bu.mpr ⟨_,m,L⟩)) rfl
 show⟨h.keep.put (h0 a ma),λb q z=>?_,h.mt,h.pm,λx d' m=>?_,λx d' m=>?_,λx d' m=>?_,λx S2 d' m=>?_,?_⟩;by_cases f:b=a;subst f;rw[aC]at z;cases z;rw[aw f]at z;show h.live b q z;rw[ne];rcases old _ _ m with m|m;cases m;let(w',e1,dn):=h.fr x d' (back _ _ m);show⟨w',e1,dn.keep k⟩;rw[ne];rcases old _ _ m with m|m;cases m;let(b,us2,e1,e2,dn,s):=h.ow x d' (back _ _ m);subst e1;show⟨b,us2,rfl,by rw[aw (other _ _ b m (Kj.mpr rfl))];show e2,dn.keep k,s⟩;rw[ne];rcases old _ _ m with m|m;cases m;let(b,us2,e1,e2,dn,s):=h.io x d' (back _ _ m);subst e1;show⟨b,us2,rfl,by rw[aw (other _ _ b m (Kj.mpr rfl))];show e2,dn.keep k,s⟩;rw[ne];rcases old _ _ m with m|m;cases m;show⟨v,rfl,E,λb f=>?_⟩;rcases Km.mp (pm.mem_iff.mp f) with z|z;show h0 b z;show hT b z;let(w',e1,dn,s):=h.tr x S2 d' (back _ _ m);subst e1;show⟨w',rfl,dn.keep k λb f=>aw (other _ _ b m (by rw[aZ];show f)),s⟩;rw[l];show n.nodup_iff.mpr nd
end
section
variable{K:bg}{M P:ac->Prop}{H0 H H':Hp}{σ0 σ:St}{env:OL}{ts:Ox}
def Rel.setTr{i:Nat}{S S':OO}{d d':ab}{v:V}{A B:OJ}(h:Rel K M P H0 σ0 σ env ts H)(e:env[i]?=OV (.tr S d))(q2:aK σ (env.set i (.tr S' d')) ts=A++(OV v,.tr S' d')::B)(b:bS K M P H0 (A++(OV v,.tr S' d')::B) H'):Rel K M P H0 σ0 σ (env.set i (.tr S' d')) ts H':=by show(by rw[q2];show b,by simp[h.len],h.vw,λj ds' a=>?_);by_cases hj:i=j;subst hj;let hi:i< -env:=(Kx.mp e).1;rw[KN hi]at a;cases a;rw[KS hj]at a;show h.ios j ds' a
end
def nA(ns:OD):pU (ns.map db)=OX:=by
 induction ns with
 |nil=>rfl
 |cons n ns a=>show a
def kH{α:Type}(l:List α)(z:α):(dm (-l)).map (λi=>l.getD i z)=l:=by show Mo (!1) λi h1 h2=>?_;simp[Kn,Kk h2]
def aQ{α β:Type}(l:List α)(z:α)(g:α->β):(dm (-l)).map (λi=>g (l.getD i z))=l.map g:=by
 conv=>rhs;rw[<-kH l z,KQ]
 rfl
def bM{α β:Type}(l:List α)(z:α)(p:α->Bool)(g:α->β):((dm (-l)).filter λi=>p (l.getD i z)).map (λi=>g (l.getD i z))=(l.filter p).map g:=by
 conv=>rhs;rw[<-kH l z,Dd,KQ]
 rfl
abbrev lr(rs:Ol):OM:=rs.map λr=>.list (li r)
def iK{rs:Ol}{i:Nat}{h:i<(lr rs).length}:(lr rs)[i]=.list (li (rs.getD i [])):=by
 let h':i< -rs:=by simpa using h
 rw[KJ,Kn,Kk h'];rfl
def Sh.two(c:Sh n a)(d:Sh n b):Sh (n+1) (.tuple [a,b]):=Sh.tuple λx hx=>by
 simp only[Kt,Ld,or_false]at hx;rcases hx with rfl|rfl <;> assumption
section
variable{X:Cx}{K:bg}{pos:Pos}{es:OS}{tl:DA}{e:ba}{ta:DE}{M P N:ac->Prop}{H0 H:Hp}{σ0 σ:St}{env:OL}{ts:Ox}
def CZ(t:DA):DE:=λenv R=>t env λss a=>∃ds,jr a ss=OV ds/\ss.length<=sizeLine/\∀S,R (.tr S (.list ds)) a
def Eg(h:PA X es (upA K tl)):PE X (.List es pos) (up K (CZ tl)):=(vG h).imp λσ H Q h=>by
 let(M,P,H0,σ0,env,ts,R,b,ht,f):=h;show(M,P,H0,σ0,env,ts,_,b,ht,λss d vs H1 h1 g a=>?_);let(ds,e,hz,hR):=h1;let(q,h0):=a.trees g (λp c=>Kl _ c) e;show(!0,λp c=>f _ _ _ _ (hR _) (a.resLstT c q h0))
def C8(i:Nat)(te:DE):DE:=λenv R=>(∃S ds,env[i]?=OV (.tr S (.list ds)))/\te env λs a=>∃S ds s' d,a[i]?=OV (.tr S (.list ds))/\kr a s=OV s'/\ko [] s'=OV d/\ds.length<sizeLine/\∀S',R (.fr .none) (a.set i (.tr S' (.list (ds++[d]))))
def El(i:Nat){apos cpos npos:Pos}(hK:X.K=K)(hN:X.N[i]?=some y)(G:PE X e (up K ta))
  (hv:Vis X.env.scope y:=by walk_at"v0") (hd:(y==("__debug__" : bc))=false:=by decide)
  (z:(y==("__classdict__" : bc))=false:=by decide)
  (q:j0 [e] X.env=[(false,eval e X.env)]:=by rfl)
  (l:z5 (.Name y npos) "append" X.env (eval (.Name y npos) X.env)=eval (.Name y npos) X.env:=by rfl)
  (r:((z4 cpos (j0 [e] X.env)).all (λx=>!x.1)&&(QD cpos (Qk [] X.env)).all (λx=>x.1.isSome)&&decide ([e].length+([]:OR).length+(if ([]:OR).isEmpty then 0 else 1)<30))=true:=by rfl)
  (m:(apos.endLine==cpos.line)=true:=by rfl) (j:(z4 cpos (j0 [] X.env)).any (·.1)=false:=by rfl) :
  PE X (.Call (.Attribute (.Name y npos) "append" apos) [e] [] cpos) (up K (C8 i ta)) :=
 (kBm (K:=K) hK ei n2 n0 jS (bJ hN hv hd z) (b8 G d9 q) l r m q j).imp λσ H Q h=>by
 cbv;let(M,P,H0,σ0,env,ts,R,n,((S0,I,J),ht),L):=h;let(x,ex,O):=n.slot J;let(v,ev,C,_):=n.e.tr _ _ _ O;subst ev
 w_up;cases C with
 |@lst a vs _ Sq T qH =>
  show(.ref a,ex,.inl (rfl,vs,SqL.of T),M,P,H0,σ0,env,ts,_,n,ht,λs1 t v1 H1 h1 f=>?_)
  cbv;let(S,ds,s',d,e1,es,U,hz,hR):=h1;let(k,V):=f.unVw es;let(x',A,B,u,q1,q2):=f.drop.split e1;rw[ex]at u;cases u;let D:=k.e;let W:aK σ t (ts++[(v1,s')])=A++(OV (.ref a),Sl.tr S (.list ds))::(B++[(OV v1,s')]):=by rw[aG,q1];simp[tmp]
  let(ot,w):=k.tree (v:=v1) (s:=s') (Kl _ Ks) ((uH (env':=[]) V).trans U);let Y:oas [((OV v1,s'):Ent)]=dg (OV v1,s'):=by rw[au];simp[oas]
  rw[W]at D ot;rw[<-Y]at ot w;let(b,us,rc,E,Z,g):=bS.appAtU (p:=[]) (ds:=ds) D λo nd=>o.path0 nd;cases rc;let(S',re):=g (bh.refl _) (λc hc=>.inr hc) D ot w
  w_up;show(a,us,v1,rfl,rfl,E,by rw[Z];show hz,?_);show L _ _ _ _ (hR S') ((f.drop.setTr e1 (q2 _) re).addFr .non)
end
def F0:Sl->Bool
 |.ow _=>OX
 |.tr _ _=>OX
 |.fr _=>OX
 |_=>OY
section
variable{X:Cx}{K:bg}{pos:Pos}{M P N:ac->Prop}{H0 H:Hp}{σ0 σ:St}{env:OL}{ts:Ox}{v:V}
def Rel.move(h:Rel K M P H0 σ0 σ env ts H)(e:env[i]?=OV s)(hs:F0 s=OX):∃v,σ[i]?=OV (OV v)/\Rel K M P H0 σ0 σ (env.set i .un) (ts++[(v,s)]) H:=by
 cbv;let(x,A,B,e1,q1,q2):=h.split e;let hE:=h.e;rw[q1]at hE;obtain⟨v,ev⟩:∃v,x=OV v:=by
  cases s with
  |fr d=>let(v,ev,_):=hE.fr _ _ (Kl _ Ks);show(v,ev)
  |ow ds=>let(a,vs,ev,_):=hE.ow _ _ (Kl _ Ks);show(_,ev)
  |tr S d=>let(v,ev,_):=hE.tr _ _ _ (Kl _ Ks);show(v,ev)
  |_=>cases hs
 subst ev
 w_up;show(v,e1,?_);let c:aK σ (env.set i .un) (ts++[(v,s)])=(A++(OV v,Sl.un)::B)++[(OV v,s)]:=by rw[aG,q2];rfl
 let f:oas ((A++(OV v,Sl.un)::B)++[(OV v,s)])=oas A++(oas B++dg (OV v,s)):=by rw[am,am,au,ik,au];simp[oas]
 show(?_,by simp[h.len],λw j m=>?_,λj l' b=>?_);rw[c];show hE.sub (λx t m=>?_) ?_;rcases Km.mp m with m|m;rcases Km.mp m with m|m;show .inl (Kp _ m);rcases Kt.mp m with m|m;cases m;show .inr (.inl rfl);show .inl (Kl _ (Kv _ m));rw[Kj]at m;cases m;show .inl (Kl _ Ks);let nd:=hE.nd;rw[am,au]at nd;rw[f];show(eh _ Li).nodup_iff.mpr nd;rcases Km.mp m with m|m;show h.vw w j m;rw[Kj]at m;cases m;cases hs;by_cases hj:i=j;subst hj;rw[KN (Kx.mp e).1]at b;cases b;rw[KS hj]at b;show h.ios j l' b
def HN(i:Nat):DE:=λenv R=>∃s,env[i]?=OV s/\F0 s=OX/\R s (env.set i .un)
def GX(i:Nat)(hN:X.N[i]?=some x:=by rfl)(hv:Vis X.env.scope x:=by walk_at"v0")(hd:(x==("__debug__" : bc))=false:=by decide)
  (b:(x==("__classdict__" : bc))=false:=by decide):PE X (.Name x pos) (up K (HN i)):=(bJ hN hv hd b).imp λσ H Q h=>by
 let(M,P,H0,σ0,env,ts,R,c,(s,e,hs,hR),d):=h;let(v,e1,a):=c.move e hs;show(v,e1,d _ _ _ _ hR a)
end
open Builtin Builtin.Str StrLaws PySem.NumText PySem.W
def num(n:Int):bc:=fI (toString n)
section
variable{X:Cx}{K:bg}
def dFz(i:Nat)(u:DS):DS:=λDD env=>∃ds,env[i]?=OV (.ow ds)/\u DD (env.set i (.fr (.list ds)))
def vm(i:Nat)(h:PSs X ss (upS K u)):PSs X ss (upS K (dFz i u)):=h.imp λD σ H h=>by
 let(M,P,H0,σ0,env,ts,DD,nv,a,(ds,e,b),ok):=h;show(M,P,H0,σ0,_,ts,DD,nv,a.frz e,b,ok)
end
section
variable(h1:1<=n)
include h1
end
open PySem.SeqAt PySem.MeetsSeq PySem.MeetsSeq2 PySem.MeetsSeq3 PySem.SeqRoads2
open PySem.AutoSeq1 (wpAny_loadPart')
def wd(l b:ac)(items a:OF)(n z:Nat)(dd p:OC)(sl q:Oh)(r:∀j (h:j<items.size),∃x t,items[j]=eE x t)(v:∀j (h:j<a.size),∃x t,a[j]=eE x t)(k:Nat) :
  ∀i : Nat,items.size-i=k->Meets (Builtin.«list.__eq__.loop» ([.ref l,.ref b,Qt i,Qt 0],[]))
   (λA R s=>s.heap.get? l=some { cls:=.type "list",dict:=dd,data:=.seq items n,slots:=sl }/\s.heap.get? b=some { cls:=.type "list",dict:=p,data:=.seq a z,slots:=q } /\
    ∀c:Bool,R (.ok (.ret (.bool c))) s):=by
 induction k with
 |zero =>
  intro i hk prog w A R s h;let(B,g,d,tk,os):=s;let(f,m,h):=h
  wp_walk using wpAny_loadPart' f,wpAny_loadPart' m
  let hi1:items[((i:Nat):Int).toNat]?=OW:=by simp;lia
  rw[hi1]
  wp_walk using wpAny_loadPart' f,wpAny_loadPart' m
  show h _
 |succ k C =>
  intro i hk prog w A R s h;let(B,g,d,tk,os):=s;let(f,m,h):=h
  wp_walk using wpAny_loadPart' f,wpAny_loadPart' m
  let o:i<items.size:=!0
  let hi1:items[((i:Nat):Int).toNat]?=OV items[i]:=by simp[o]
  let hc:((i:Int)+1)=((i+1:Nat):Int):=by push_cast;rfl
  rw[hi1];by_cases e:i<a.size
  .let hi2:a[((i:Nat):Int).toNat]?=OV a[i]:=by simp[e]
   rw[hi2];let(x,t,e1):=r i o;let(y,u,e2):=v i e;rw[e1,e2];show jj (QU ?_);cases hb':(x==y) with
   |true =>
    wp_walk
    rw[hc];show(Qu Zy _,Qr entry_eq_loop (by
     rw[Around.under_plainId Zy _];show C (i+1) (!0) prog w A R _ (f,m,h)))
   |false =>
    wp_walk using wpAny_loadPart' f,wpAny_loadPart' m
    rw[hi1,hi2,e1,e2];show jj (show j4 (kq prog w) A.in1 (zs .Lt (.int x t) (.int y u)) _ _ _ from wpAny_lt_int (js (h _)))
  .let hi2:a[((i:Nat):Int).toNat]?=OW:=by simp;lia
   rw[hi2]
   wp_walk using wpAny_loadPart' f,wpAny_loadPart' m
   show h _
def nF(l b:ac)(items a:OF)(n m:Nat)(dd e:OC)(sl f:Oh)(i:∀j (h:j<items.size),∃x t,items[j]=eE x t)(k:∀j (h:j<a.size),∃x t,a[j]=eE x t) :
  Meets (Builtin.«list.__lt__» ([.ref l,.ref b],[]))
   (λA R s=>s.heap.get? l=some { cls:=.type "list",dict:=dd,data:=.seq items n,slots:=sl }/\s.heap.get? b=some { cls:=.type "list",dict:=e,data:=.seq a m,slots:=f } /\
    ∀c:Bool,R (.ok (.ret (.bool c))) s):=by
 intro prog w A R s h;let(q,g,d,tk,os):=s;let(o,p,h):=h;let r:=AutoSeq1.sub_list_list
 wp_walk using wpAny_loadPart' o,wpAny_loadPart' p
 show(Qu Zy _,Qr entry_eq_loop (by
  rw[Around.under_plainId Zy _];show wd l b items a n m dd e sl f i k _ 0 rfl prog w A R _ (o,p,h)))
section
def yF(p:s.heap.IsList l items)(q:s.heap.IsList b a)(g:∀j (h:j<items.size),∃x t,items[j]=eE x t)(i:∀j (h:j<a.size),∃x t,a[j]=eE x t)
  (r:A.units<KI) (h:∀c:Bool,Q (.bool c) s):j4 (kq prog w) A (zs .Lt (.ref l) (.ref b)) Q E s:=by
 cbv;let((cls,dd,data,sl),ho,hc,n,hd):=id p;let((o,k,data2,m),d,e,u,f):=id q;simp only at hc hd e f;subst hc hd e f
 w_up;show Yj (op:=.Lt) (_,ho,rfl) (_,d,rfl) F.slot_list_lt F.entry_list_lt (F.args_list_lt_2 _ _) (nF l b items a n u dd k sl m g i)
  (ho,d,λc=>show hU c≠MW/\Q (.bool c) s from((λx=>nomatch x),h c)) r
def ut(prog:k5)(w:q3)(A:Around)(vs:ON)(s:az):Prop :=
 j4 (kq prog w) A (keyKind' vs.toArray) (λκ s'=>s'=s/\∀i j (C:Bool->az->Prop),i< -vs->j< -vs->(∀b,C b s)->kas_ask prog w A κ vs i j C s) (λY Y=>False) s
end
def Dr(h:bb)(v:ao):Prop:=∃(a:ac) (o:Obj) (n:Nat) (x:Int) (t:Tok) (l:ac) (its:OF) (ns:OD) (as:OO),v=.ref a/\h.get? a=OV o/\o.cls=.type "tuple" /\ o.data=.seq #[.int x t,.ref l] n/\h.IsList l its/\(∀j (h:j<its.size),∃x t,its[j]=eE x t)/\Reads h (.ref l) (.list (ns.map db)) as
def Cq(d:ab):Prop:=∃(n:Int) (ns:OD),d=.tuple [.int n,.list (ns.map .int)]
section
variable{X:Cx}{pins:Oq}{σ:St}{H:Hp}{s:az}
def Paired.at{a:List α}{l₂:List β}(h:Paired F a l₂):∀i (h1:i< -a) (h2:i< -l₂),F a[i] l₂[i]:=by
 induction h with
 |nil=>exactλi h=>absurd h (LO _)
 |cons r t q =>
  intro i h1 h2;cases i with
  |zero=>show r
  |succ i=>show q i (MY h1) (MY h2)
def lZ{ns:OD}{vs:OU}{us:ON}(q:DVs X.K H vs (ns.map .int))(t:aS vs us)(j)(h:j< -us):∃x t,us[j]=eE x t:=by
 cases q.map_int;let e:=_L.Paired.at t j (by rw[t.length];show h) h;rw[KJ]at e;show(_,e)
def E5(I:Inv X pins σ H s)(hd:DV X.K H v d)(r:bE v u)(k:Cq d):Dr s.heap u:=by
 let(n,ns,rfl):=k;cases hd with
 |@tup a xs _ h q =>
  cases (show _=cu a from r);let(its,rv,(o,e,c,m,hd),_):=I.tuple h;cases q with
  |cons q1 q2 =>
   cases q2 with
   |cons q2 g =>
    cbv;cases g;cases q1
    w_up;cases rv with
    |cons i rv =>
     cases rv with
     |cons f rv =>
      cbv;cases rv;let(t,rfl):=i;let(as,ra):=q2.reads I f (by simpa only[dy] using bY _)
      w_up;cases q2 with
      |@lst l ys _ h2 q2 =>
       cases (show _=cu l from f);let(b,p,pl,_):=I.list h2;show(a,o,m,n,t,l,b.toArray,ns,as,rfl,e,c,hd,pl.isList,λj hj=>lZ q2 p j (by simpa using hj),ra)
def Dvp{K:bg}{H:Hp}{vs:OU}{ds:OM}{us:ON}(h:DVs K H vs ds)(a:aS vs us):∀u∈us,∃v d,bE v u/\DV K H v d/\d∈ds :=
 DVs.ind (C:=λvs ds=>∀us:ON,aS vs us->∀u∈us,∃v d,bE v u/\DV K H v d/\d∈ds) (λY a u h=>by cases a;cases h) (λ{x xs d ds} q _ i us a u h=>by
  let(w,ws,rfl,r,t):=a.consI;rcases Kt.mp h with rfl|h;show(_,d,r,q,!1);let(v,d,a,b,c):=i _ t u h;show(v,d,a,b,by simp[c])) h us a
def wj(I:Inv X pins σ H s){vs:OU}{ds:OM}{us:ON}(q:DVs X.K H vs ds)(t:aS vs us)(k:∀d∈ds,Cq d)(u)(a:u∈us):Dr s.heap u:=by
 let(v,d,r,q,h):=Dvp q t u a;show E5 I q r (k d h)
end
section
theorem kR:∀{us:ON},(∀u∈us,Dr h u)->∃fs,KatTups h us fs/\fs.length=-us/\∀f∈fs,∃x t,f=eE x t
 |[],_=>([],.nil,rfl,λf b=>by simp at b)
 |u::us,k=>by
  let(fs,h1,h2,h3):=kR (us:=us) λv hv=>k v (by simp[hv]);let(a,o,n,x,t,l,its,ns,as,rfl,e,c,d,_):=k u (!1);show(.int x t::fs,.cons e c d (by rfl) h1,by simp[h2],λf b=>?_);rcases Kt.mp b with rfl|b;show(x,t,rfl);show h3 f b
def E6(p:A.units+64<KI)(g:Dr s.heap u)(k2:Dr s.heap v)(h:∀b,C b s):j4 (kq prog w) A (Z2 (tuples' OX) u v) C E s:=by
 let(a,o,n,x,t,l,its,ns,as,rfl,e,c,d,i1,i2,i):=g;let(q,o',r,y,t',l',its',f,j,rfl,k,c',d',j1,j2,m):=k2;show kat_lt e d k d' ?_;show kat_cons (QU ?_);show kat_go (λY=>kat_yes ?_) λY=>kat_no (oneLt_int (h _));show kat_cons (MX _ _ _ _ _ _ _ _ _ _ _ _ i m ?_ ?_ ?_ ?_);simp[dy,bY];simp[dy,bY];let:∀ns:OD,(dt (ns.map db)).depth<=64:=λns=>by
  let:=GL ns;show MR this
 let:=this ns;let:=Md (dt (ns.map db)).depth (dt (f.map db)).depth;lia;show kat_go (λY=>kat_yes (kat_nil (h _))) λY=>kat_no (kat_one _ _ ?_);show yF i1 j1 i2 j2 (!0) λb=>h b
def E4(a:A.units+64<KI)(h2:2<=-us)(k:∀u∈us,Dr s.heap u):ut prog w A us s:=by
 let(fs,h1,h3,h4):=kR k;show kat_kind (T:=.type "int") h1 (!0) (λv hv=>?_) (by rfl) (rfl,λi j C hi hj hc=>?_);let(x,t,rfl):=h4 v hv;show .now;let e1:us.getD i du=us[i]:=by simp[hi]
 let e2:us.getD j du=us[j]:=by simp[hj]
 show j4 (kq prog w) A (Z2 _ (us.getD i du) (us.getD j du)) C (λY Y=>False) s;rw[e1,e2];show E6 a (k _ (KL hi)) (k _ (KL hj)) hc
end
def df{α β:Type}{f:α->β}{ws bs:List β}(h:ws.Perm bs):∀t:List α,bs=t.map f->∃t':List α,t'.Perm t/\ws=t'.map f:=by
 induction h with
 |nil =>
  intro t e;cases t with
  |nil=>show([],.refl _,rfl)
  |cons _ _=>cases e
 |cons x _ a =>
  intro t e;cases t with
  |nil=>cases e
  |cons y t =>
   injection e with e1 e2;let(t',p,b):=a t e2;show(y::t',p.cons y,by rw[e1,b];rfl)
 |swap x y l =>
  intro t e;cases t with
  |nil=>cases e
  |cons z1 t =>
   cases t with
   |nil=>cases e
   |cons z2 t=>injection e with e1 e2;injection e2 with e2 e3;show(z2::z1::t,.swap ..,by rw[e1,e2,e3];rfl)
 |trans _ _ ih1 ih2 =>
  intro t e;let(t1,c,e1):=ih2 t e;let(t2,p2,e2):=ih1 t1 e1;show(t2,p2.trans c,e2)
theorem uE:∀{t:List (ao×V×ab)},(∀x∈t,bE x.2.1 x.1)->aS (t.map (·.2.1)) (t.map (·.1))
 |[],_=>.nil
 |x::t,h=>.cons (h x (!1)) (uE λy a=>h y (by simp[a]))
def qI{vs:OU}{us:ON}{ds:OM}(h:aS vs us):∀x∈us.zip (vs.zip ds),bE x.2.1 x.1:=by
 induction h generalizing ds with
 |nil=>simp
 |cons r t z =>
  cases ds with
  |nil=>simp
  |cons d ds=>intro x h;simp only[LC]at h;rcases Kt.mp h with rfl|h;show r;show z x h
def CL{K:bg}{H:Hp}{vs:OU}{ds:OM}(h:DVs K H vs ds):-vs=-ds:=DVs.ind (C:=λv d=>-v=-d) rfl (λY Y i=>by rw[K4,K4,i]) h
def qo{K:bg}{N:ac->Prop}{H:Hp}{vs:OU}{ds:OM}(h:DNs K N H vs ds):∀z∈vs.zip ds,DN K N H z.1 z.2:=DNs.ind (C:=λvs ds=>∀z∈vs.zip ds,DN K N H z.1 z.2) (λz h=>by simp at h) (λd Y i z h=>by
  simp only[LC]at h;rcases Kt.mp h with rfl|h;show d;show i z h) h
theorem qp{K:bg}{N:ac->Prop}{H:Hp}:∀{a:List (V×ab)},(∀z∈a,DN K N H z.1 z.2)->DNs K N H (a.map (·.1)) (a.map (·.2))
 |[],_=>.nil
 |x::t,h=>.cons (h x (!1)) (qp λy b=>h y (by simp[b]))
section
variable{X:Cx}{K:bg}{e o:ba}{pos p2:Pos}
theorem Et(q:DNs K N H vs ds)(r:aS vs its):∀b:OG,∃a:List (V×ab),(∀z∈a,DN K N H z.1 z.2/\z.2∈ds)/\aS (a.map (·.1)) (b.filterMap (its[·]?))
 |[]=>([],!1,.nil)
 |j :: b=>by
  let(a,h1,h2):=Et q r b;cases e:its[j]? with
  |none=>show(a,h1,by simpa[e] using h2)
  |some u =>
   let hj:j< -its:=(Kx.mp e).1;let h:=-r;let d:=q.len
   cbv;let(k,c,f):=r.get (i:=j) (x:=vs[j]) (!1);rw[e]at c;cases c
   w_up;let g:(vs[j],ds[j])∈vs.zip ds:=by rw[Mj];show(j,by rw[LG];show(Kk _,Kk _))
   show((vs[j],ds[j])::a,λz hz=>?_,by simpa[e] using(.cons f h2:aS (vs[j]::a.map (·.1)) (u::b.filterMap (its[·]?))));rcases Kt.mp hz with rfl|hz;show(qo q _ g,KL _);show h1 z hz
def Gw(K:bg)(te:TE):TE:=λσ H Q=>te σ H λx H1=>∃a xs N ds,x=.ref a/\SqL K H1 a xs/\DNs K N H1 xs ds/\∀b:List (V×ab),(∀z∈b,DN K N H1 z.1 z.2/\z.2∈ds)->-b<=-ds->∀p,H1 p=OW->Q (.ref p) (upd H1 p (.lst (b.map (·.1))))
def BP{st:ba}{te:TE}(hK:X.K=K)(p:PE X e te)(f:PE X st (tC (.int (-1)))):PE X (.Subscript e (.Slice OW OW (OV st) p2) pos) (Gw K te):=by
 subst hK;intro pins s σ H Q I h;show Subscript_ (thn (p pins s σ H _ I h) λv s1 g=>?_);let(x,H1,u,z,q1):=g;show wpAny_Slice ?_;rw[Z9];show js ?_;show js ?_;rw[evalPart_some];show thn (f pins s1 σ H1 _ u (show tC (.int (-1)) σ H1 (λy H2=>y=.int (-1)/\H2=H1) from(rfl,rfl))) λB c i=>?_
 cbv;let(y,C,D,E,F,G):=i;subst F G;let(t,rfl):=E;let(a,xs,N,ds,rfl,hx,hd,q):=q1;cases z;let j:Inv X pins σ C { c with heap:=c.heap.push { cls:=.type "slice",data:=.fields #[.none,.none,.int (-1) t] } }:=D.kept (t':=c.toks) λb ob q=>Kq _ q;let(its,r,ht,hz):=j.list hx
 w_up;let m:=-r;let k:Heap.IsSliceOf (c.heap.push { cls:=.type "slice",data:=.fields #[.none,.none,.int (-1) t] }) (~~~c) .none .none (.int (-1) t):=Hs ..;show j4 (kq X.prog X.w) X.A (Q7 e (.Slice OW OW (OV st) p2) (.ref a) (.ref (~~~c))) (EP X pins σ Q) X.xe { c with heap:=c.heap.push { cls:=.type "slice",data:=.fields #[.none,.none,.int (-1) t] } };show tail_any (ops:=[.ref a,.ref (~~~c)]) ht.isList.typeIs slot_list_getitem.lookup ?_ (by with_unfolding_all rfl);show Z6 (lo:=OW) (hi:=OW) (st:=OV (-1)) ht.isList k .none .none (.int _ t) (!2) ?_ (by rw[KA];lia);let(l,h1,h2):=Et hd r (sliceRange (Qj OW OW (OV (-1)) its.toArray.size).1 (Qj OW OW (OV (-1)) its.toArray.size).2.1 (Qj OW OW (OV (-1)) its.toArray.size).2.2);let n:(Yb its.toArray OW OW (OV (-1)))=(List.filterMap (λx=>its[x]?) (sliceRange (Qj OW OW (OV (-1)) its.toArray.size).1 (Qj OW OW (OV (-1)) its.toArray.size).2.1 (Qj OW OW (OV (-1)) its.toArray.size).2.2)).toArray:=by unfold Yb;simp
 let d:=slicePick_size_le its.toArray OW OW (OV (-1));let J:-l<=-its:=by let:=-h2;rw[n]at d;simp at d this;lia
 rw[n];let L:=hd.len;show(.ref _,_,j.laid (t':=c.toks) (o:=.lst (l.map (·.1))) (λb ob q=>Kq _ q) (Kz _) (?_,_,0,h2,KF _ rfl),rfl,q l h1 (!0) _ (j.hok.fresh (Kz _)));rw[Ki];lia
variable{ta to:DE}
def CO(te:DE):DE:=λenv R=>te env λs a=>∃ds,aV a s=OV (.list ds)/\∀es:OM,(∀x∈es,x∈ds)->-es<=-ds->R (.ow es) a
def Ea{st:ba}(hK:X.K=K)(j:PE X e (up K ta))(c:PE X st (tC (.int (-1)))):PE X (.Subscript e (.Slice OW OW (OV st) p2) pos) (up K (CO ta)):=(BP (K:=K) hK j c).imp λσ H Q h=>by
 let(M,P,H0,σ0,env,ts,R,d,ht,k):=h;show(M,P,H0,σ0,env,ts,_,d,ht,λs1 i v1 H1 h1 b=>?_);let(ds,e1,hR):=h1;let(a,vs,rfl,sq,q):=(b.view (v:=v1) (!1) e1).list;show(a,vs,_,ds,rfl,sq,q,λl hz m p n=>k _ _ _ _ (hR (l.map (·.2)) (λx hx=>?_) (by rw[Ki];show m)) (b.resOw n (qp λz f=>(hz z f).1)));let(z,g,rfl):=Ko.mp hx;show(hz z g).2
def lN:PE X (.UnaryOp .USub (.Constant (.int 1) j p3) p4) (tC (.int (-1))):=(Ex gE kL).imp λσ H Q h=>(1,rfl,h)
def zZ(K:bg):V->OU->Hp->VK->Prop:=λx vs H Q=>∃(p:ac) (ns:OD) (i:Int),x=.ref p/\vs=[.int i]/\SqL K H p (ns.map .int)/\i∈ns/\ns.length<=1000000/\∀j:Nat,j< -ns->ns.getD j 0=i->Q (.int j) H
def zi{ns:OD}(h:i∈ns):∃j,∃hj:j< -ns,ns[j]=i/\∀m (a:m< -ns),m<j->ns[m]≠i:=by
 induction ns with
 |nil=>cases h
 |cons n ns b =>
  by_cases e:n=i;show(0,!1,by simpa using e,λm Y a=>!0);rcases Kt.mp h with h|h;show absurd h.symm e;let(j,hj,e1,e2):=b h;show(j+1,by simpa using hj,by simpa using e1,λm a c=>?_);cases m with
  |zero=>simpa using e
  |succ m=>simpa using e2 m (by simpa using a) (!0)
def yD:MtR X "list.index" (zZ X.K):=by
 intro pins s σ H x vs v us Q I d rv h;let(p,ns,i,rfl,rfl,hs,hi,hz,q):=h;cases (show v=cu p from d)
 cbv;let(u,rfl,f):=rv.one;let(t,rfl):=f;let(its,r,pl,_):=I.list hs;let g:=-r;simp only[Ki]at g;let(j,hj,e1,e2):=zi hi
 w_up;let a:∀(m:Nat) (b:m< -its),∃t,its[m]=eE (ns[m]'(!0)) t:=λm b=>by
  cbv;let(u,e1,(t,e2)):=r.get (i:=m) (x:=.int (ns[m]'(!0))) (by rw[KM,Kk (!0)];rfl);rw[Kk b]at e1;cases e1
  w_up;show(t,e2)
 let' ev:ao->Bool:=λy=>match y with|.int n _=>n==i|_=>OY
 let((cls,dd,data,sl),n,ho,hc,k,hd):=pl;simp only at hc hd;subst hc hd;show Qy F.slot_list_index (_,ho,rfl) F.entry_list_index (F.args_list_index_2 _ _) (M9 p its.toArray n dd sl (.int i t) ev j (by simp;lia) (!0) ?_ λm b c=>?_) (ho,λy l=>?_,(.int j,H,I.tok _,(_,rfl),q j hj (by rw[Kn,Kk hj];show e1)));let(t',e):=a j (!0);show ev its[j]=OX;rw[e,e1];simp[ev];let(t',e):=a m (by simpa using b);show ev its[m]=OY;rw[e];let:=e2 m (by simp at b;lia) c;simp[ev,this];let(m,b,rfl):=M4 l;let(t',e):=a m (by simpa using b);show sa _ _ its[m] _ (ev its[m]);rw[e];show MI _ _ _ _
def Fe(hK:X.K=K):MtR X "list.index" (zZ K):=by subst hK;show yD
def wW(to ta:DE):DE:=λenv R=>to env λs b=>∃es ns,aV b s=OV (.list es)/\fH es=OV ns/\ta b λs2 a=>∃i,aV a s2=OV (.int i)/\aV a s=OV (.list es)/\i∈ns/\ns.length<=1000000/\∀j:Nat,j< -ns->ns.getD j 0=i->R (.fr (.int j)) a
def Bv{apos cpos:Pos}(hK:X.K=K)(ho:PE X o (up K to))(u:PE X e (up K ta))
  (k:j0 [e] X.env=[(false,eval e X.env)]:=by rfl)
  (f:z5 o "index" X.env (eval o X.env)=eval o X.env:=by rfl)
  (l:((z4 cpos (j0 [e] X.env)).all (λx=>!x.1)&&(QD cpos (Qk [] X.env)).all (λx=>x.1.isSome)&&decide ([e].length+([]:OR).length+(if ([]:OR).isEmpty then 0 else 1)<30))=true:=by rfl)
  (g:(apos.endLine==cpos.line)=true:=by rfl) (c:(z4 cpos (j0 [] X.env)).any (·.1)=false:=by rfl) :
  PE X (.Call (.Attribute o "index" apos) [e] [] cpos) (up K (wW to ta)) :=
 (kBm (K:=K) hK ei Mz My (Fe hK) ho (b8 u d9 k) f l g k c).imp λσ H Q h=>by
 let(M,P,H0,σ0,env,ts,R,n,ht,w):=h;show(M,P,H0,σ0,env,ts,_,n,ht,λs1 m v1 H1 h1 d=>?_)
 cbv;let(es,ns,e1,e2,h1):=h1;let(a,vs,ev,sq,q):=(d.view (v:=v1) (!1) e1).list;subst ev
 w_up;show(.inl (rfl,_,sq),M,P,H0,σ0,m,ts++[(.ref a,s1)],_,d,h1,λs2 t y H2 h2 b=>?_)
 cbv;let(i,e3,e4,hi,hz,hR):=h2;let p:=(b.view (v:=y) (!1) e3).int;subst p;let(A,vs',ev,r,q'):=(b.view (v:=.ref a) (!1) e4).list;cases ev
 w_up;show(a,ns,i,rfl,rfl,?_,hi,hz,λj hj s=>w _ _ _ _ (hR j hj s) ?_);let z:=cH e2;subst z;rw[<-q'.ints];show r;show b.drop.res (bh.refl _) (.int _)
end
open PySem.Calls
section
def sX(P:ab->Prop)(hz:-ds<=1000000)(h:∀i,(h:i< -ds)->∀Q:ab->Prop,(∀d,P d->Q d)->g ds[i] (iT ix env) λb1=>te b1 λs b=>∃d,aM b s=OV d/\Q d)
  (hR:∀rs:OM,-rs=-ds->(∀d∈rs,P d)->R (.ow rs) env):CD ds ix g AB te env R:=by
 show(λi rs=>-rs=i/\i<=-ds/\∀d∈rs,P d,(rfl,KG _,!1),λi rs hi w=>?_,λrs w=>hR rs w.1 w.2.2);let(a,e,c):=w;show(by rw[a];show Ku (!0) ai,?_);let:=h i hi (λd=>(rs++[d]).length=i+1/\i+1<=-ds/\∀x∈rs++[d],P x) λd hd=>(by simp[a],hi,λx hx=>by
  rcases Km.mp hx with hx|hx;show c x hx;rw[Kj.mp hx];show hd)
 simpa only[AB,if_true] using this
end
theorem jo{p:Int->Prop}:∀{rs:OM},(∀d∈rs,∃x:Int,d=.int x/\p x)->∃ns:OD,rs=li ns/\∀x∈ns,p x
 |[],_=>([],rfl,!1)
 |d :: rs,h=>by
  let(ns,rfl,h2):=jo (rs:=rs) λe b=>h e (by simp[b]);let(x,rfl,hx):=h d (!1);show(x::ns,rfl,λy a=>by
   rcases Kt.mp a with rfl|a;show hx;show h2 y a)
section
variable{CX:CXT}{P:k5}{w:q3}{K:bg}{mg:bc->OB}{base:bb}{k:Nat}{f c':ac}{qual:bc}{params:Zw}{body:ba}{scope:Qq}{pm ctv:ao}{N ps:OP}
 {A : Around}{outer:OI}{s:az}{H:Hp}{us:ON}{vs:OU}{Q:VK}{E:XK}{t:TE}
def Cf(S:aA N ps scope)(h:fb (k+1) A)(c:xM P w K mg base A outer s H)(ho:s.heap.get? f=OV (ZB "<lambda>" qual params body scope [] pm c' ctv))(d:s.heap.CodeRec (.ref c') qual)
  (i:QP (kla_fn "<lambda>" qual params body scope [] pm (.ref c') ctv) (us,[])=pure (ps.zip us)) (r:aS vs us) (j:-vs=-ps)
  (ht:PE (ux CX P w K mg base N qual scope f (.ref c') A outer s H E) body t) (l:t (start N vs) H Q):Qx (kq P w) A (.call (.ref f) (us,[])) (CR CX outer P w H s Q E) s:=by
 let g:s.heap.NoLimit:=c.mod.nolimit.keeps λb o e=>(c.bs b o e).1;let a:∀y∈ps.zip us,scope.names.lookup y.1=OV .local\/(scope.names.lookup y.1=OV .cell/\((Qc ((~~~s)+1) scope.names []).lookup y.1).isSome=OX):=λz m=>by
  let(n,v):=z;rcases S.par n (Ma m).1 with q|q;show .inl q;show .inr (q,oL _ _ _ (.inl q))
 show kla_callFunE h.depth ho rfl S.co S.gen rfl d ?_;rw[i];show js ?_;show ZV S.kind a λenv p s1 x=>?_;subst p;show(g.keeps x.toInCall.keep,kla_codeExpr ?_);let I:Inv (ux CX P w K mg base N qual scope f (.ref c') A outer s H E) [] (start N vs) H s1:=nZ S h.hd c j r x;show KX (ht [] s1 (start N vs) H _ I l) (λu s' hs=>?_) λe s' hs=>hs;let(v,H',J,rv,q):=hs;show(v,H',J.os,J.bare,J.base,J.hok,rv,q)
end
def uo(l:ON)(h:TriplesOk l)(hn:Zu pos (l++[Qt a,Qt b,c])=OV cv):Zu pos l=OV cv\/cv=c:=by
 fun_induction TriplesOk l with
 |case1 =>
  simp only[Mt,Zu,Qt]at hn;split at hn;cases hn;show .inr rfl;cases hn
 |case2 e t f u x rest d =>
  simp only[vu,Zu]at hn ⊢;split at hn;rename_i hc;rw[N6 hc];show .inl hn;rename_i hc;rw[N7 hc];show d h hn
 |case3 l h1 h2=>show h.elim
def FV(H:Hp)(c:ac)(q:bc):Prop:=∃oc u vs t,H c=OV (.frz oc u)/\oc.data=.fields vs/\vs[1]?=OV (.str q t)
def zL(X:Cx):Prop:=∃c T,X.env.code=.ref c/\CodeHd X.base c T/\kh X.K T (X.env.qual ++ "<lambda>")
section
variable{X:Cx}{pins:Oq}{σ:St}{H:Hp}{s:az}
def Inv.grow(I:Inv X pins σ H s){T c':ac}{q:bc}{h':bb}{oc:Obj}{vs:OF}{t:Tok}{tk:Nat}(hT:H T=some (.tbl q))(hx:yb T s.heap h')(hc:s.heap.objs.size<=c')(ho:h'.get? c'=some oc)(hd:oc.data=.fields vs)(hv:vs[1]?=some (.str q t))
  (ht:Dg (upd H c' (.frz oc (.own 0))) h' T q):Inv X pins σ (upd H c' (.frz oc (.own 0))) { s with heap:=h',toks:=tk }/\bh H (upd H c' (.frz oc (.own 0))):=by
 let hn:H c'=OW:=I.hok.fresh hc;let d:T<(~~~s):=I.hok.lt hT;let h:T≠c':=KO (Ku d hc);let(i,j,_):=id ht;show(I.un (t':=tk) (λb o e n Y Y=>?_,λb o e n Y Y=>(o.slots,?_),λb o e n Y=>?_,λb o e Y=>?_,λb xs e=>?_,λb o u e=>?_,λb q e=>?_) (λb u e=>?_),λb o e=>by rw[aw (aL e hn)];show e);show hx b o (λz=>by rw[z,hT]at n;cases n) e;show hx b o (λz=>by rw[z,hT]at n;cases n) e;rw[aw (KO (Ku (KB e) hc))];show n;by_cases z:b=T;subst z;show(_,j);show(o,hx b o z e);rw[aw (aL e hn)];show e;rw[aw (aL e hn)];show e;rw[aw (aL e hn)];show e
 .by_cases g:b=c'
  .cbv;subst g;rw[aC]at e;cases e
   w_up;show(ho,_,ho)
  .rw[aw g]at e;by_cases a:b=T
   .cbv;subst a;rw[hT]at e;cases e
    w_up;show ht
   show(I.hok b u e).stay (λc v f q=>hx c v ?_ q) (λc q=>by rw[aw (aL q hn)];show q) λc o Y q=>by rw[aw (aL q hn)];show q
   rcases f with z|z;rw[z];show a
   exactλk=>by rw[k,hT]at z;cases z
end
section
def oO(X:Cx)(pins:Oq)(σ:St)(H:Hp)(s:az)(d:ab)(u:ao)(s':az):Prop :=
 ∃H' v,Inv X pins σ H' s'/\bh H H'/\bE v u/\DN X.K N0 H' v d/\∀b o,kj X pins H b->s.heap.get? b=OV o->s'.heap.get? b=OV o/\H' b=OW
end
section
def wG(h:kj X pins H b)(n:H' b=OW):kj X pins H' b:=(n,h.2)
def uD(h:aS xs us)(q:bE x u):aS (xs++[x]) (us++[u]):=by
 induction h with
 |nil=>show .cons q .nil
 |cons r _ i=>show .cons r i
end
section
variable{K:bg}{t:TA}
def Fg(d:ab):Prop:=∃ns:OD,d=.list (ns.map .int)
def wO{vs:OU}{ds:OM}{us:ON}(h:DNs K N H vs ds)(a:aS vs us):∀u∈us,∃v d,bE v u/\DN K N H v d/\d∈ds :=
 DNs.ind (C:=λvs ds=>∀us:ON,aS vs us->∀u∈us,∃v d,bE v u/\DN K N H v d/\d∈ds) (λY a u h=>by cases a;cases h) (λ{x xs d ds} q _ i us a u h=>by
  let(w,ws,rfl,r,t):=a.consI;rcases Kt.mp h with rfl|h;show(_,d,r,q,!1);let(v,d,a,b,c):=i _ t u h;show(v,d,a,b,by simp[c])) h us a
end
section
variable{P:k5}{w:q3}{K:bg}{mg:bc->OB}{base:bb}
def xB(K:bg)(base:bb)(x:bc)(fd:k3):Prop:=∃c T,fd.code=.ref c/\CodeHd base c T/\kh K T (x ++ ".<locals>.<lambda>")
def IB{x:bc}{st:Stmt}{f:ac}{fd:k3}{N ps:OP}{k:Nat}{sp:DSp}(F:Fun K x x st f fd)(S:aA N ps (ae st))(len:∀ss R,sp ss R->-ss=-ps)(hN:-ps<=-N)
  (b:∀(cdv:ao) (a:cdv=fd.code) (A:Around) (outer:OI) (s:az) (H:Hp) (E:XK),fb k (A.deeper (Q8 x (ae st) (~~~s) f cdv)) ->
   ∃t:DS,PSs (ux CX0 P w K mg base N x (ae st) f cdv A outer s H E).nox (cI st) (upS K t)/\∀ss R,sp ss R->t (qk (-ps) R) (c8 (-N) ss)):cg P w K mg base CX0 (k+1) f fd ps (spD K sp):=by let(oc,od,kV,doc,pm,an,cdv,ct,osl,rfl,c,a):=F.ex;show JP (λA outer s H E d=>b cdv rfl A outer s H E d) c a S len hN
def xD(vs:OF)(c T:ac):Prop:=vs[11]?=OV (.ref T)/\vs.getD 11 .none=.ref T/\(∃a d,vs.getD 18 .none=.str a d)/\(∃i t,vs.getD 7 .none=.int i t)/\(∃b,vs.getD 9 .none=.bool b)/\(∃i t,vs.getD 10 .none=.int i t)/\c≠T
def EW(hx:x∈fU)(a:bt K k0 x=OV (OV (.ref f)))(l:K.lookup f=OV (oc,od,.func fd,osl))(hc:fd.code=.ref c)
  (h:K.lookup c=OV (.type "code",e,.fields vs,g)) (hT:xD vs c T) (k:K.In base):xB K base x fd:=by let(h1,h2,(d,m,h3),(i,t,h4),(b,h5),(j,u,h6),n):=hT;show(c,T,hc,(_,vs,d,m,i,t,b,j,u,k _ _ h,rfl,rfl,h1,h2,h3,h4,h5,h6,n),x,hx,f,_,fd,c,_,vs,a,l,rfl,hc,h,rfl,h1,rfl)
structure uq(K:bg)(h:bb)(x:bc)(c T:ac):Prop where
 tab:∀T0,(∃f o fd c0 oc vs,bt K k0 x=some (some (.ref f))/\K.lookup f=some o/\o.data=.func fd/\fd.code=.ref c0/\K.lookup c0=some oc/\oc.data=.fields vs/\vs[11]?=some (.ref T0))->T0=T
 at':h.get? T=some { cls:=.none,data:=.fields #[] }/\K.lookup T=none/\∃c,h.TableAt c T #[]
def si
  (G : wr q b [] p w s₀ mg mb h) (r:K.In h) (s:(recsOf q).find? (λe=>e.name==x)=OV d)
  (a : bt K k0 x=OV (OV (.ref f))) (l:K.lookup f=OV (oc,od,.func fd,osl)) (hc:fd.code=.ref c) (k:K.lookup c=OV (.type "code",i,.fields vs,j)) (hT:xD vs c T) (hn:K.lookup T=OW):uq K h x c T:=by
 let ht:tabIn K x=OV (c,T):=by unfold tabIn;rw[a];simp only[l,hc,k,hT.1]
 let(C,g):=tab_of G.T r s ht;show(λT0 e=>?_,g,hn,c,C.tab g)
 cbv;let(A,B,t,c0,u,v,a1,a2,y,m,n,z,o):=e;rw[a]at a1;cases a1;rw[l]at a2;cases a2;cases y;rw[hc]at m;cases m;rw[k]at n;cases n;cases z;rw[hT.1]at o;cases o
 w_up;rfl
def A6(ps:List (bc×ac×ac))(a:∀p∈ps,uq K h p.1 p.2.1 p.2.2)(nd:(ps.map λp=>p.2.2).Nodup)(hL:∀n∈fU,n∈ps.map (·.1)\/bt K k0 n=some none) :
  ∃tb:List (ac×bc),(∀b q,tb.lookup b=some q->h.get? b=some { cls:=.none,data:=.fields #[] }/\K.lookup b=none/\∃c,h.TableAt c b #[])/\∀T q,kh K T q->tb.lookup T=some q:=by
 show(ps.map λp=>(p.2.2,p.1 ++ ".<locals>.<lambda>"),λb q' e=>?_,λT0 q' L=>?_);let : ∃p∈ps,p.2.2=b:=by
  clear a nd hL
  induction ps with
  |nil=>cases e
  |cons p ps f =>
   rw[Kw,Lf]at e;by_cases k:b=p.2.2;show(p,Ks,k.symm);let h1:(b==p.2.2)=OY:=by simpa using k
   rw[h1]at e;let(p',m,o):=f e;show(p',Kv _ m,o)
 let(p,m,rfl):=this;show(a p m).at';let(n,r,s,t,g,c0,i,j,a1,a2,u,v,w,x,l,rfl):=L;rcases hL n r with d|d;let(p,m,rfl):=Ko.mp d;let e:=(a p m).tab T0 (s,t,g,c0,i,j,a1,a2,u,v,w,x,l);subst e;clear a hL a1 l d
 induction ps with
 |nil=>cases m
 |cons p' ps f =>
  rw[Kw,Lf];rw[Kw,KY]at nd;rcases Kt.mp m with rfl|m;simp;let h1:(p.2.2==p'.2.2)=OY:=by
   simp only[beq_eq_false_iff_ne,ne_eq]
   exactλz=>nd.1 (z▸LS m)
  rw[h1];show f nd.2 m
 rw[d]at a1;cases a1
def Cg:∀p∈([]:List (bc×ac×ac)),uq K h p.1 p.2.1 p.2.2:=λp a=>by cases a
def sf(h1:uq K h x c T)(h2:∀p∈ps,uq K h p.1 p.2.1 p.2.2):∀p∈(Pm x (Pm c T))::ps,uq K h p.1 p.2.1 p.2.2:=λp a=>by
 rcases Kt.mp a with rfl|a;show h1;show h2 p a
def Ci{P:bc->Prop}(h1:P "choices")(h2:P "full_rows")(h3:P "chain_plan")(h4:P "least_ranks"):∀n∈fU,P n:=λn hn=>by
 simp only[fU,Kt,Ld,or_false]at hn;rcases hn with rfl|rfl|rfl|rfl <;> assumption
end
open PySem.AutoSeq1 (wpAny_loadPart')
def At(items:OF)(ns:OD):Prop:=-ns=items.size/\∀j (h:j<items.size),∃t,items[j]=eE (ns.getD j 0) t
def yG{ns a:OD}(h1:i< -ns)(h2:i< -a):HT.lexLt (ns.drop i) (a.drop i)=if ns.getD i 0=a.getD i 0 then HT.lexLt (ns.drop (i+1)) (a.drop (i+1)) else decide (ns.getD i 0<a.getD i 0):=by
 let e1:ns.drop i=ns.getD i 0::ns.drop (i+1):=by rw[Lb h1];simp[Kn,h1]
 let e2:a.drop i=a.getD i 0::a.drop (i+1):=by rw[Lb h2];simp[Kn,h2]
 rw[e1,e2,HT.lexLt_cons]
def iw(a b:Int×OD):Bool:=if a.1=b.1 then (if a.2=b.2 then OY else HT.lexLt a.2 b.2) else decide (a.1<b.1)
section
variable{X:Cx}{H:Hp}
def FL{ns:OD}{vs:OU}{us:ON}(q:DVs X.K H vs (ns.map .int))(t:aS vs us):-ns=-us/\∀j (h:j< -us),∃t,us[j]=eE (ns.getD j 0) t:=by
 cases q.map_int;show(by rw[<- -t,Ki],λj h=>?_);let e:=_L.Paired.at t j (by rw[t.length];show h) h;rw[KJ]at e;let(t,e):=e;show(t,by rw[e,Kn,Kk];rfl)
end
open Builtin.ObjectAttr
abbrev Ii:=OL->(Sl->OL->Prop)->(Int->Prop)->Prop
def us1{Q:ON->Prop}{us:ON}(l:-us=1)(h:∀a:ao,Q [a]):Q us:=by let(a,rfl):=kB l;show h a
def us2{Q:ON->Prop}{us:ON}(l:-us=2)(h:∀a b:ao,Q [a,b]):Q us:=by let(a,b,rfl):=F6 l;show h a b
def us3{Q:ON->Prop}{us:ON}(l:-us=3)(h:∀a b c:ao,Q [a,b,c]):Q us:=by let(a,b,c,rfl):=IE l;show h a b c
def us4{Q:ON->Prop}{us:ON}(l:-us=4)(h:∀a b c d:ao,Q [a,b,c,d]):Q us:=by let(a,b,c,d,rfl):=JX l;show h a b c d
def dA.off(D:dA)(i:Nat):dA:=(λσ H=>D.nx (σ.set i OW) H,D.rt,λσ H=>D.bk (σ.set i OW) H,λσ H=>D.ct (σ.set i OW) H)
theorem vB:∀{a b:OD},a.map db=b.map db->a=b
 |[],[],_=>rfl
 |[],_::_,e=>by simp at e
 |_::_,[],e=>by simp at e
 |x::xs,y::ys,e=>by
  rw[Kw,Kw]at e;injection e with e1 e2;injection e1 with e1;rw[e1,vB e2]
def x8(e:aN k=aN k'):k=k':=by let(d,l):=k;let(d',l'):=k';simp only[aN,PyData.tuple.injEq,lp,PyData.int.injEq,and_true]at e;rw[e.1,vB e.2]
theorem jm:∀{kvs kvs':Ou},kvs.map (λp=>(Pm (aN p.1) p.2))=kvs'.map (λp=>(Pm (aN p.1) p.2))->kvs=kvs'
 |[],[],_=>rfl
 |[],_::_,e=>by simp at e
 |_::_,[],e=>by simp at e
 |(Pm k v)::xs,(Pm k' v')::ys,e=>by
  rw[Kw,Kw]at e;injection e with e1 e2;injection e1 with e1 e3;let e1:=x8 e1;simp only at e1 e3;rw[e1,e3,jm e2]
section
variable{K:bg}{M P N:ac->Prop}{H0 H:Hp}{A B:OJ}{σ0 σ:St}{env:OL}{ts:Ox}{v:V}{d:ab}{kvs:Ou}
def Gr(K:bg)(N:ac->Prop)(H:Hp)(v:V)(kvs:Ou):Prop :=
 ∃a es,v=.ref a/\H a=OV (.ext (bf a es))/\DNs K N H (es.map λp=>V.ref p.2.1) (kvs.map λp=>aN p.1)/\DNs K N H (es.map λp=>p.2.2) (kvs.map λp=>p.2)/\es.map (λp=>p.1)=kvs.map (λp=>p.1)
def Gr.dctV(h:Gr K N H v kvs):Ih K H v kvs:=by let(a,es,e,b,hk,hv,c):=h;show(a,es,e,b,hk.dv,hv.dv,c)
def zh(e:fzD ds=br kvs):False:=by
 cases kvs with
 |nil=>cases e
 |cons p kvs=>simp[fzD,br,aN]at e
def sB(e:dY kv=br kvs):False:=by
 cases kvs with
 |nil=>cases e
 |cons p kvs=>simp[dY,br,aN]at e
def DN.dct_of(h:DN K N H v d)(e:d=br kvs):Gr K N H v kvs:=by
 cases h with
 |fz _=>show(zh e).elim
 |idc _ _ _ _=>show(sB e).elim
 |@dct a es kvs' n b hk hv c =>
  injection e with e;let e:=jm e;subst e;show(a,es,rfl,b,hk,hv,c)
 |_=>cases e
theorem Vw.dct_of(h:Vw K N H v d)(e:d=br kvs):Gr K N H v kvs:=by
 cases h with
 |dn h=>show h.dct_of e
 |ow h q=>cases e
 |idc _ _ _=>show(sB e).elim
 |@dct a es kvs' b hk hv c =>
  injection e with e;let e:=jm e;subst e;show(a,es,rfl,b,hk,hv,c)
def OT.dct_of(h:OT K N H v d S)(e:d=br kvs):∃a es,v=.ref a/\S=[a]/\H a=OV (.ext (bf a es))/\DNs K N H (es.map λp=>V.ref p.2.1) (kvs.map λp=>aN p.1)/\DNs K N H (es.map λp=>p.2.2) (kvs.map λp=>p.2)/\es.map (λp=>p.1)=kvs.map (λp=>p.1):=by
 cases h with
 |fz _=>show(zh e).elim
 |idc _ _ _=>show(sB e).elim
 |@dct a es kvs' b hk hv c =>
  injection e with e;let e:=jm e;subst e;show(a,es,rfl,rfl,b,hk,hv,c)
 |_=>cases e
def Hy:G2:=λd e R=>∃k kvs,d=aN k/\e=br kvs/\R (.bool (aJ kvs k).isSome)
def qh:G2:=λd e R=>∃k kvs,d=aN k/\e=br kvs/\R (.bool (!(aJ kvs k).isSome))
def Gb:G2:=λd e R=>∃kvs k x,d=br kvs/\e=aN k/\aJ kvs k=OV x/\R x
def F3:cP K (GS K) Hy:=by rintro N H x y d e R Q a b ⟨k,kvs,rfl,rfl,hR⟩ c;show(k,kvs,a.dv,(b.dct_of rfl).dctV,c _ _ hR (.bl _))
def gj:cP K (pE K) qh:=by rintro N H x y d e R Q a b ⟨k,kvs,rfl,rfl,hR⟩ c;show(k,kvs,a.dv,(b.dct_of rfl).dctV,c _ _ hR (.bl _))
def JT:cP K (D3 K) Gb:=by
 rintro N H x y d e R Q b c ⟨kvs,k,z,rfl,rfl,hg,hR⟩ f;let(a,es,rfl,g,hk,hv,h):=b.dct_of rfl;show(k,a,es,kvs,rfl,c.dv,g,hk.dv,hv.dv,h,by rw[hg];rfl,λi v d hd h1 h2=>?_);rw[hg]at hd
 cbv;cases hd;let(j,e1,dn):=hv.get h1;rw[h2]at e1;cases e1
 w_up;show f _ _ hR dn
theorem xu:∀{es:Oo}{kvs:Ou} (k:ar),es.map (λp=>p.1)=kvs.map (λp=>p.1)->(es.any λp=>decide (p.1=k))=(aJ kvs k).isSome
 |[],[],k,_=>rfl
 |[],_::_,k,e=>by simp at e
 |_::_,[],k,e=>by simp at e
 |p::es,q::kvs,k,e=>by
  rw[Kw,Kw]at e;injection e with e1 e2;rw[LV,xu k e2,aq,e1];by_cases h:q.1=k <;> simp[h]
def ym{es:Oo}{kvs:Ou}(k:ar)(v:V)(d:ab)(e:es.map (λp=>p.1)=kvs.map (λp=>p.1))(h1:DNs K N H (es.map λp=>V.ref p.2.1) (kvs.map λp=>aN p.1))(h2:DNs K N H (es.map λp=>p.2.2) (kvs.map λp=>p.2))(dn:DN K N H v d) :
    (es.map λp=>if p.1=k then (p.1,p.2.1,v) else p).map (λp=>p.1)=(kvs.map λp=>if p.1=k then (p.1,d) else p).map (λp=>p.1) /\
    DNs K N H ((es.map λp=>if p.1=k then (p.1,p.2.1,v) else p).map λp=>V.ref p.2.1) ((kvs.map λp=>if p.1=k then (p.1,d) else p).map λp=>aN p.1) /\
    DNs K N H ((es.map λp=>if p.1=k then (p.1,p.2.1,v) else p).map λp=>p.2.2) ((kvs.map λp=>if p.1=k then (p.1,d) else p).map λp=>p.2):=by
  induction es generalizing kvs with
  |nil =>
    cases kvs with
    |nil=>show(rfl,.nil,.nil)
    |cons q kvs=>simp at e
  |cons p es c =>
   cases kvs with
   |nil=>simp at e
   |cons q kvs =>
    rw[Kw,Kw]at e h1 h2;injection e with e1 e2;cases h1 with
    |cons a1 a2 =>
      cases h2 with
      |cons b1 f =>
        let(i1,i2,b):=c e2 a2 f;simp only[Kw];by_cases h:q.1=k;let a:p.1=k:=e1.trans h;simp only[h,a,if_true];show(by rw[i1],.cons ?_ i2,.cons dn b);rw[<-h];show a1;let a:¬p.1=k:=λz=>h (e1.symm.trans z);simp only[h,a,if_false];show(by rw[i1,e1],.cons a1 i2,.cons b1 b)
def vx(e:es.map (λp=>p.1)=kvs.map (λp=>p.1))(h1:DNs K N H (es.map λp=>V.ref p.2.1) (kvs.map λp=>aN p.1))(h2:DNs K N H (es.map λp=>p.2.2) (kvs.map λp=>p.2))(a:DN K N H (.ref b) (aN k))(dn:DN K N H v d) :
  (oQ es k b v).map (λp=>p.1)=(c7 kvs k d).map (λp=>p.1)/\DNs K N H ((oQ es k b v).map λp=>V.ref p.2.1) ((c7 kvs k d).map λp=>aN p.1)/\DNs K N H ((oQ es k b v).map λp=>p.2.2) ((c7 kvs k d).map λp=>p.2):=by unfold oQ c7;rw[xu k e];by_cases c:(aJ kvs k).isSome=OX;rw[N6 c,N6 c];show ym k v d e h1 h2 dn;rw[N7 c,N7 c];simp only[KC,Kw,LQ];show(by rw[e],h1.app (.cons a .nil),h2.app (.cons dn .nil))
def bS.retreeR(h:bS K M P H0 (A++(Pm (OV v) (.tr S d))::B) H)(ma:a∈S)(pm:S.Perm (S'++R))(k:OT K (Nw M (A++(Pm (OV v) (.tr S d))::B)) (upd H a o) v d' S') :
  bS K M P H0 (A++(Pm (OV v) (.tr S' d'))::B) (upd H a o):=by
 cbv;let(v',ev,ot,h0):=h.tr _ _ _ (Kl _ Ks);cases ev;let l:oas (A++(Pm (OV v) (Sl.tr S d))::B)=oas A++(S++oas B):=by rw[am,au,aZ]
 let nd:=h.nd;rw[l]at nd;let(C,r,s):=Ky.mp nd;let(D,E,w):=Ky.mp r
 w_up;let y:Nw M (A++(Pm (OV v) (Sl.tr S d))::B) a:=.inr (by rw[l];show Kl _ (Kp _ ma));let j:bd (Nw M (A++(Pm (OV v) (Sl.tr S d))::B)) H (upd H a o):=bd.own y;let f:oas (A++(Pm (OV v) (Sl.tr S' d'))::B)=oas A++(S'++oas B):=by rw[am,au,aZ]
 let g:∀b,b∈S'->b∈S:=λb z=>pm.mem_iff.mpr (Kp _ z);let up:∀b,Nw M (A++(Pm (OV v) (Sl.tr S' d'))::B) b->Nw M (A++(Pm (OV v) (Sl.tr S d))::B) b:=Nw.sub λb z=>by
  rw[f]at z;rw[l];rcases Km.mp z with z|z;show Kp _ z;rcases Km.mp z with z|z;show Kl _ (Kp _ (g b z));show Kl _ (Kl _ z)
 let c:∀(b:ac) (u:HO),upd H a o b=OV u->Nw M (A++(Pm (OV v) (Sl.tr S' d'))::B) b->Nw M (A++(Pm (OV v) (Sl.tr S d))::B) b:=λb Y Y z=>up b z;let back:∀x t,(Pm x t)∈A\/(Pm x t)∈B->(Pm x t)∈A++(Pm (OV v) (Sl.tr S d))::B:=λx t m=>by
  rcases m with m|m;show Kp _ m;show Kl _ (Kv _ m)
 let old:∀x t,(Pm x t)∈A++(Pm (OV v) (Sl.tr S' d'))::B->(Pm x t)=(Pm (OV v) (Sl.tr S' d'))\/((Pm x t)∈A\/(Pm x t)∈B):=λx t m=>by
  rcases Km.mp m with m|m;show .inr (.inl m);rcases Kt.mp m with m|m;show .inl m;show .inr (.inr m)
 let other:∀x t b,(Pm x t)∈A\/(Pm x t)∈B->b∈dg (Pm x t)->b≠a:=λx t b m p z=>by
  subst z;rcases m with m|m;show s b (bu.mpr ⟨_,m,p⟩) b (Kp _ ma) rfl;show w b ma b (bu.mpr ⟨_,m,p⟩) rfl
 show⟨h.keep.put (h0 a ma),λb q z=>?_,h.mt,h.pm,λx d' m=>?_,λx d' m=>?_,λx d' m=>?_,λx S2 d' m=>?_,?_⟩;by_cases e:b=a;subst e;rw[aC]at z;cases z;rw[aw e]at z;show h.live b q z;rcases old _ _ m with m|m;cases m;let(w',e1,dn):=h.fr x d' (back _ _ m);show⟨w',e1,(dn.keep j).to c⟩;rcases old _ _ m with m|m;cases m;let(b,us2,e1,e2,dn,i):=h.ow x d' (back _ _ m);subst e1;show⟨b,us2,rfl,by rw[aw (other _ _ b m (Kj.mpr rfl))];show e2,(dn.keep j).to c,i⟩;rcases old _ _ m with m|m;cases m;let(b,us2,e1,e2,dn,i):=h.io x d' (back _ _ m);subst e1;show⟨b,us2,rfl,by rw[aw (other _ _ b m (Kj.mpr rfl))];show e2,(dn.keep j).to c,i⟩;rcases old _ _ m with m|m;cases m;show⟨v,rfl,k.to c,λb e=>h0 b (g b e)⟩;let(w',e1,dn,i):=h.tr x S2 d' (back _ _ m);subst e1;show⟨w',rfl,(dn.keep j λb e=>aw (other _ _ b m (by rw[aZ];show e))).to c,i⟩;rw[f];let n:(oas A++((S'++R)++oas B)).Nodup:=(eh _ (eT _ pm)).nodup_iff.mp nd;show n.sublist (List.Sublist.append_left (List.Sublist.append_right ?_ _) _);show List.sublist_append_left _ _
def Rel.retreeT(h:Rel K M P H0 σ0 σ env ts H)(e:env[i]?=OV (.tr S d))(ev:σ[i]?=OV (OV v))(ma:a∈S)(pm:S.Perm (S'++R))(b:OT K (Nw M (aK σ env ts)) (upd H a o) v d' S') :
  Rel K M P H0 σ0 σ (env.set i (.tr S' d')) ts (upd H a o):=by
 cbv;let(x,A,B,e1,q1,q2):=h.split e;rw[ev]at e1;cases e1
 w_up;let r:=h.e;rw[q1]at r b;show(by rw[q2];show r.retreeR ma pm b,by simp[h.len],h.vw,λj c f=>?_);by_cases hj:i=j;subst hj;let hi:i< -env:=(Kx.mp e).1;rw[KN hi]at f;cases f;rw[KS hj]at f;show h.ios j c f
def Rel.dct{i:Nat}{S:OO}(h:Rel K M P H0 σ0 σ env ts H)(e:env[i]?=OV (.tr S (br kvs))):∃a es,σ[i]?=OV (OV (.ref a))/\S=[a]/\H a=OV (.ext (bf a es))/\DNs K (Nw M (aK σ env ts)) H (es.map λp=>V.ref p.2.1) (kvs.map λp=>aN p.1) /\
  DNs K (Nw M (aK σ env ts)) H (es.map λp=>p.2.2) (kvs.map λp=>p.2)/\es.map (λp=>p.1)=kvs.map (λp=>p.1):=by
 cbv;let(x,e1,m):=h.slot e;let(v,ev,ot,_):=h.e.tr _ _ _ m;let(a,es,rfl,b,c,hk,hv,d):=ot.dct_of rfl
 w_up;show(a,es,by rw[e1,ev],b,c,hk,hv,d)
end
section
variable{X:Cx}{K:bg}{pos:Pos}{e:ba}{te tj:DE}
def F8(hK:X.K=K)(a:X.A.units+2<KI):OpR X (zs .In) (GS K):=by subst hK;show EH a
def gn(hK:X.K=K)(a:X.A.units+2<KI):OpR X (zs .NotIn) (pE K):=by subst hK;show vP a
def J2(hK:X.K=K)(a:X.A.units+2<KI):IxR X (D3 K):=by subst hK;show IF a
def hu2(a:fb k A):A.units+2<KI:=Ls (Nat.add_le_add_left (by decide:2<=64) _) a.units
def CU(i:Nat)(tj te:DE):DS:=λDD env=>te env λs1 b=>(∃S kvs,b[i]?=OV (.tr S (br kvs)))/\tj b λs2 a=>∃(S:OO) (kvs:Ou) (k:ar) (d:ab),
 a[i]?=OV (.tr S (br kvs))/\aM a s2=OV (aN k)/\aM a s1=OV d/\kvs.length<sizeLine/\DD.nx (a.set i (.tr S (br (c7 kvs k d))))
def fD(i:Nat){y:bc}{npos c:Pos}{j:ba}(hK:X.K=K)(I:X.A.units+2<KI)(hN:X.N[i]?=some y)(hj:PE X j (up K tj))(J:PE X e (up K te))
  (hv:Vis X.env.scope y:=by walk_at"v0") (hd:(y==("__debug__" : bc))=false:=by decide)
  (r:(y==("__classdict__" : bc))=false:=by decide)
  (L:∀v,assign (.Subscript (.Name y npos) j c) X.env v=(do
   let ov <-Qo [v] (eval (.Name y npos) X.env)
   let iv <-Qo [v,ov] (eval j X.env)
   Q0 c
   Qo [v,ov,iv] (Ze ov iv v)
   ZT [v,ov,iv] []):=by intro _;rfl)
  (hs:QG [.Subscript (.Name y npos) j c] e pos.line X.env=pure false:=by rfl) (hw:QH [.Subscript (.Name y npos) j c] e X.env=pure none:=by rfl)
  (h1:(Qh [.Subscript (.Name y npos) j c] X.env).map (·.2)=[assign (.Subscript (.Name y npos) j c) X.env]:=by rfl):PS X (.Assign [.Subscript (.Name y npos) j c] e pos) (upS K (CU i tj te)):=by
 subst hK;show(rK J (vE (bJ hN hv hd r) hj (DY I) L) hs hw h1).imp λD σ H h=>?_;let(M,P,H0,σ0,env,ts,DD,nv,t,ht,ok):=h;show(M,P,H0,σ0,env,ts,_,t,ht,λs1 n v1 H1 h1 l=>?_);let((Y,C,O),h1):=h1;let(a,_,q,_):=l.dct O;show(.ref a,q,M,P,H0,σ0,n,ts++[(v1,s1)],_,l,h1,λs2 g E H2 h2 o=>?_)
 cbv;let(S,kvs,k,d,e2,Q,T,Z,hR):=h2;let f:Rel X.K M P H0 σ0 σ g (ts++[(v1,s1),(E,s2)]) H2:=by simpa using o
 let u:=f.kept (v:=v1) (s:=s1) (!1) T;let m:=f.kept (v:=E) (s:=s2) (!1) Q;let(a',es,p,w,U,hk,hv,z):=f.drop.dct e2;rw[q]at p;cases p;let(b,xs,rfl,_,_):=m.tuple
 w_up;let F:-es=-kvs:=by let:=congrArg eH z;simpa using this
 show(k,a,b,es,kvs,rfl,rfl,m.dv,U,hk.dv,z,!0,ok.nx _ _ _ hR ?_);let(V,p2,p3):=vx (b:=b) (k:=k) z hk hv m u;let W:Nw M (aK σ g ts) a:=by let(x,A,B,e1,q1,q2):=f.drop.split e2;show .inr ?_;rw[q1,am,au];rw[q]at e1;cases e1;rw[aZ,w];simp
 let G:bd (Nw M (aK σ g ts)) H2 (upd H2 a (.ext (bf a (oQ es k b v1)))):=bd.own W;show f.drop.retreeT (R:=[]) e2 q (by rw[w];simp) (!1) ?_;rw[w];show .dct aC (p2.keep G) (p3.keep G) V
end
section
variable{K:bg}{M P N:ac->Prop}{H0 H:Hp}{E:OJ}{σ0 σ:St}{env:OL}{ts:Ox}{v:V}{d:ab}{kvs:Ou}
def bS.addO(h:bS K M P H0 E H)(c:H p=OW)(ot:∀N,OT K N (upd H p o) (.ref p) d [p]):bS K M P H0 (E++[(OV (.ref p),.tr [p] d)]) (upd H p o):=by
 let g:oas (E++[(OV (.ref p),Sl.tr [p] d)])=oas E++[p]:=by rw[am];rfl
 let i:p ∉ oas E:=λz=>by
  let(vs',q,_):=h.own z;rw[c]at q;cases q
 let h0:H0 p=OW:=by
  cases e:H0 p with
  |none=>rfl
  |some o=>show absurd c (h.live p (by rw[e];simp))
 let up:∀b o,H b=OV o->Nw M (E++[(OV (.ref p),Sl.tr [p] d)]) b->Nw M E b:=λb Y e z=>by
  rcases z with z|z;show .inl z;rw[g]at z;rcases Km.mp z with z|z;show .inr z;rw[Kj.mp z,c]at e;cases e
 let h':=h.same (bh.new (o:=o) c);show(h'.keep,h'.live,h.mt,h.pm,λx d' m=>?_,λx d' m=>?_,λx d' m=>?_,λx S d' m=>?_,?_);rcases Km.mp m with m|m;let(v,e,dn):=h.fr x d' m;show(v,e,(dn.to up).keep (bd.same (bh.new c)));rw[Kj]at m;cases m;rcases Km.mp m with m|m;let(a,ws,e,e2,dn,r):=h.ow x d' m;show(a,ws,e,bh.new c _ _ e2,(dn.to up).keep (bd.same (bh.new c)),r);rw[Kj]at m;cases m;rcases Km.mp m with m|m;let(a,ws,e,e2,dn,r):=h.io x d' m;show(a,ws,e,bh.new c _ _ e2,(dn.to up).keep (bd.same (bh.new c)),r);rw[Kj]at m;cases m;rcases Km.mp m with m|m;let(v,e,dn,r):=h.tr x S d' m;show(v,e,(dn.to up).keep (bd.same (bh.new c)) λa f=>by
  let(xs,z):=dn.lives a f;rw[bh.new c _ _ z,z],r)
 rw[Kj]at m;cases m;show(_,rfl,ot _,λa f=>by rw[Kj.mp f];show h0);rw[g];show Ky.mpr (h.nd,!1,λa f b j=>by rw[Kj.mp j];exactλz=>i (z▸f))
def bS.addD(h:bS K M P H0 E H)(a:H p=OW):bS K M P H0 (E++[(OV (.ref p),.tr [p] (br []))]) (upd H p (.ext (bf p []))):=h.addO a λY=>.dct (es:=[]) (kvs:=[]) aC .nil .nil rfl
theorem Rel.addD(h:Rel K M P H0 σ0 σ env ts H)(a:H p=OW):Rel K M P H0 σ0 σ env (ts++[(.ref p,.tr [p] (br []))]) (upd H p (.ext (bf p []))):=h.withRes (h.e.addD a) rfl
end
section
variable{X:Cx}{K:bg}{pos:Pos}{e1 e2:ba}{tk tv:DE}
def C5:DE:=λenv R=>∀S,R (.tr S (br [])) env
def gN:PE X (.Dict [] [] pos) (up K C5):=vH.imp λσ H Q h=>by
 let(M,P,H0,σ0,env,ts,R,a,ht,b):=h
 exactλp c=>b _ _ _ _ (ht _) (a.addD c)
def C4(tk tv:DE):DE:=λenv R=>tk env λs1 b=>tv b λs2 a=>∃(k:ar) (d:ab),aM a s1=OV (aN k)/\aM a s2=OV d/\∀S,R (.tr S (br [(k,d)])) a
def Ei(hK:X.K=K)(w:X.A.units+2<KI)(hk:PE X e1 (up K tk))(hv:PE X e2 (up K tv)):PE X (.Dict [OV e1] [e2] pos) (up K (C4 tk tv)):=by
 subst hK;show(BS (Ls (LD _) w) hk hv).imp λσ H Q h=>?_;let(M,P,H0,σ0,env,ts,R,q,ht,x):=h;intro p y;show(M,P,H0,σ0,env,_,_,q.addD y,ht,λs1 j v1 H1 h1 l=>(M,P,H0,σ0,j,_,_,l,h1,λs2 f o H2 h2 m=>?_))
 cbv;let(k,d,z,C,hR):=h2;let c:Rel X.K M P H0 σ0 σ f ((ts++[(.ref p,.tr [p] (br []))])++[(v1,s1),(o,s2)]) H2:=by simpa using m
 let g:=c.kept (v:=v1) (s:=s1) (!1) z;let n:=c.kept (v:=o) (s:=s2) (!1) C;let i:=c.drop;let hE:=i.e;rw[aG]at hE g n;let(v',ev,ot,h0):=hE.tr _ _ _ (Kl _ Ks);let(a,es,r,J,D,E,F,G):=ot.dct_of (kvs:=[]) rfl;rw[r]at ev;cases ev;let t:es=[]:=by simpa using G
 subst t;let(b,xs,rfl,_,_):=g.tuple
 w_up;show(k,b,rfl,g.dv,D,x _ _ _ _ (hR [p]) ?_);let I:Nw M (aK σ f ts++tmp [(V.ref p,Sl.tr [p] (br []))]) p:=.inr (by rw[am];show Kl _ (bu.mpr (_,Kj.mpr rfl,Kj.mpr rfl)));let u:bd (Nw M (aK σ f ts++tmp [(V.ref p,Sl.tr [p] (br []))])) H2 (upd H2 p (.ext (bf p [(k,b,o)]))):=bd.own I;show i.drop.withRes ?_ rfl;show bS.retreeR (B:=[]) (R:=[]) (S:=[p]) hE (!1) (!1) ?_;show .dct (es:=[(k,b,o)]) (kvs:=[(k,d)]) aC ((DNs.cons g .nil).keep u) ((DNs.cons n .nil).keep u) rfl
end
abbrev wD(w:Ol):ab:=.list (w.map λr=>fzD (r.map .int))
abbrev gA(W:N9):ab:=.list (W.map wD)
section
variable{K:bg}{M P N:ac->Prop}{H0 H:Hp}{A B:OJ}{σ0 σ:St}{env:OL}{ts:Ox}{v:V}{s:Sl}{d:ab}
def OT.unfz(h:OT K N H v d S)(e:d=fzD ds):DN K N H v (.list ds)/\S=[]:=by
 cases h with
 |@fz _ ds' h =>
  simp only[fzD,MK,lp,m7,MJ,and_true,true_and]at e;subst e;show(h,rfl)
 |dct _ _ _ _=>show(zh e.symm).elim
 |idc _ _ _=>simp[fzD,dY]at e
 |_=>cases e
def DN.unfz(h:DN K N H v d)(e:d=fzD ds):DN K N H v (.list ds):=by
 cases h with
 |@fz _ ds' h =>
  simp only[fzD,MK,lp,m7,MJ,and_true,true_and]at e;subst e;show h
 |dct _ _ _ _ _=>show(zh e.symm).elim
 |idc _ _ _ _=>simp[fzD,dY]at e
 |_=>cases e
theorem Ar:∀w:Ol,fzs (w.map λr=>dt (r.map .int))=OV (w.map λr=>fzD (r.map .int))
 |[]=>rfl
 |r::w=>by
  show(fzs (w.map λr=>dt (r.map .int))).map (fzD (r.map .int)::·)=_;rw[Ar w];rfl
def qQ(w:Ol):ko env (.ow (w.map λr=>dt (r.map .int)))=OV (wD w):=by
 show(if pU _=OX then _ else _)=_;rw[Ar];cases w with
 |nil=>rfl
 |cons r w =>
  rw[N7 (by simp[pU,noL])];rfl
theorem OTs.row:∀{w:Ol}{us:OU}{S:OO},OTs K N H us (w.map λr=>fzD (r.map .int)) S->S=[]/\DNs K N H us (w.map λr=>dt (r.map .int))
 |[],_,_,h=>by cases h;show(rfl,.nil)
 |r :: w,_,_,h=>by
  rw[Kw]at h;cases h with
  |cons h q =>
   cbv;let(e1,e2):=OTs.row q;let(d1,d2):=h.unfz rfl;subst e1 d2
   w_up;show(rfl,.cons d1 e2)
theorem DNs.row:∀{w:Ol}{us:OU},DNs K N H us (w.map λr=>dt (r.map .int))->OTs K N H us (w.map λr=>fzD (r.map .int)) []
 |[],_,h=>by cases h;show .nil
 |r::w,_,h=>by
  rw[Kw]at h;cases h with
  |cons h q=>show .cons (S:=[]) (S':=[]) (.fz h) (DNs.row q)
def OTs.last(h:OTs K N H vs ((W++[w]).map wD) S) :
  ∃vs' S' b us,vs=vs'++[.ref b]/\S=S'++[b]/\OTs K N H vs' (W.map wD) S'/\H b=OV (.lst us)/\DNs K N H us (w.map λr=>dt (r.map .int)):=by
 induction W generalizing vs S with
 |nil =>
  rw[Mt,Kw,LQ]at h;cases h with
  |cons h q =>
   cases q;cases h with
   |@lst b us _ S a c =>
    let(e1,e2):=c.row;subst e1;show([],[],b,us,rfl,!1,.nil,a,e2)
 |cons e W d =>
  rw[vu,Kw]at h;cases h with
  |@cons x xs _ _ S1 S2 h q =>
   let(vs',S',b,us,e1,e2,q',a,dn):=d q;subst e1 e2;show(x::vs',S1++S',b,us,rfl,!1,.cons h q',a,dn)
def OTs.snoc(q:OTs K N H vs (W.map wD) S)(a:H b=OV (.lst us))(dn:DNs K N H us (w.map λr=>dt (r.map .int))) :
  OTs K N H (vs++[.ref b]) ((W++[w]).map wD) (S++[b]):=by rw[KC];show q.app ?_;let:=OTs.cons (OT.lst a dn.row) (OTs.nil (K:=K) (N:=N) (H:=H));simpa using this
def Rel.ways{i:Nat}{S:OO}{W:N9}{w:Ol}(h:Rel K M P H0 σ0 σ env ts H)(e:env[i]?=OV (.tr S (gA (W++[w])))) :
  ∃a vs S' b us,σ[i]?=OV (OV (.ref a))/\S=a::(S'++[b])/\S.Nodup/\(∀c∈S,Nw M (aK σ env ts) c)/\H a=OV (.lst (vs++[.ref b]))/\OTs K (Nw M (aK σ env ts)) H vs (W.map wD) S'/\H b=OV (.lst us)/\DNs K (Nw M (aK σ env ts)) H us (w.map λr=>dt (r.map .int)):=by
 cbv;let(x,A,B,e1,q1,q2):=h.split e;let(l,d,m):=h.slot e;let(v,ev,ot,_):=h.e.tr _ _ _ m;rw[e1]at d;cases d;subst ev
 w_up;cases ot with
 |@lst a g _ n j q =>
  let(vs',S',b,us,rfl,rfl,q',k,dn):=OTs.last q;let f:oas (aK σ env ts)=oas A++((a::(S'++[b]))++oas B):=by rw[q1,am,au,aZ]
  let nd:=h.e.nd;rw[f]at nd;show(a,vs',S',b,us,e1,rfl,(Ky.mp (Ky.mp nd).2.1).1,λc hc=>.inr ?_,j,q',k,dn);rw[f];show Kl _ (Kp _ hc)
def Hx:G2:=λd e R=>∃ds i x,gb d=OV ds/\e=.int i/\atI ds i=OV (fzD x)/\R (.list x)
def JS:cP K (Dk K) Hx:=by rintro N H x y d e R Q f b ⟨ds,i,z,e1,rfl,e2,hR⟩ c;let(a,vs,rfl,s,q):=f.seq e1;let(u,e3,dn):=q.atI e2;rcases s with s|s;show .inl (a,vs,i,u,rfl,b.int,s,e3,c _ _ hR (dn.unfz rfl));show .inr (a,vs,i,u,rfl,b.int,s,e3,c _ _ hR (dn.unfz rfl))
def eD(xs:List α)(v:α):atI (xs++[v]) (-1)=OV v:=by unfold atI ixN;rw[N7 (!2),N6 (by rw[KD];simp;lia)];show(xs++[v])[(-1+((xs++[v]).length:Int)).toNat]?=OV v;rw[show(-1+((xs++[v]).length:Int)).toNat=-xs by rw[KD];simp;lia];simp
end
section
variable{X:Cx}{K:bg}{pos npos:Pos}{y:bc}{j j2:Nat}{p3 p4 p5 p6 apos cpos:Pos}
def mo(i:Nat):DT:=λenv R=>∃(S:OO) (W:N9) (w:Ol),env[i]?=OV (.tr S (gA (W++[w])))/\R (!w.isEmpty) env
def vj(i:Nat)(hK:X.K=K)(hN:X.N[i]?=some y)(hv:Vis X.env.scope y:=by walk_at"v0")(hd:(y==("__debug__" : bc))=false:=by decide)
  (f:(y==("__classdict__" : bc))=false:=by decide) (g:fK (.UnaryOp .USub (.Constant (.int 1) j p3) p4):=by intro _ _;rfl)
  (k:∀c,Zo (.Subscript (.Name y npos) (.UnaryOp .USub (.Constant (.int 1) j p3) p4) pos) X.env c=(do let v <-c;Q0 (Expr.pos (.Subscript (.Name y npos) (.UnaryOp .USub (.Constant (.int 1) j p3) p4) pos));Qo [v] (ZX v)):=by intro _;rfl) :
  PT X (.Subscript (.Name y npos) (.UnaryOp .USub (.Constant (.int 1) j p3) p4) pos) (upT K (mo i)) :=
 (Ao (K:=K) hK (pL (iM hK) (bJ hN hv hd f) lN g) k).imp λσ H Q h=>by
 let(M,P,H0,σ0,env,ts,R,d,(S,W,w,e,hR),l):=h;let(a,vs,S',b,us,m,_,_,_,n,_,o,dn):=d.ways e;show(.ref a,m,.inl (a,_,-1,.ref b,rfl,rfl,SqL.of n,eD _ _,_,.inl (us,SqL.of o,?_),l _ _ _ hR d));let:=dn.len;cases us with
 |nil=>cases w with
  |nil=>rfl
  |cons r w=>simp at this
 |cons u us=>cases w with
  |nil=>simp at this
  |cons r w=>rfl
def sR(i:Nat):DE:=λenv R=>∃(S:OO) (W:N9) (r:OD) (w:Ol),env[i]?=OV (.tr S (gA (W++[r::w])))/\R (.fr (.list (r.map .int))) env
def Bw(i:Nat)(hK:X.K=K)(hN:X.N[i]?=some y)(hv:Vis X.env.scope y:=by walk_at"v0")(hd:(y==("__debug__" : bc))=false:=by decide)
  (d:(y==("__classdict__" : bc))=false:=by decide) (k:fK (.UnaryOp .USub (.Constant (.int 1) j p3) p4):=by intro _ _;rfl) (f:fK (.Constant (.int 0) j2 p5):=by intro _ _;rfl) :
  PE X (.Subscript (.Subscript (.Name y npos) (.UnaryOp .USub (.Constant (.int 1) j p3) p4) pos) (.Constant (.int 0) j2 p5) p6) (up K (sR i)) :=
 (pL (iM hK) (pL (iM hK) (bJ hN hv hd d) lN k) kL f).imp λσ H Q h=>by
 let(M,P,H0,σ0,env,ts,R,c,(S,W,r,w,e,hR),l):=h;let(a,vs,S',b,us,m,_,_,_,n,_,o,dn):=c.ways e;rw[Kw]at dn;cases dn with
 |@cons u us _ _ g p =>
  show(.ref a,m,.inl (a,_,-1,.ref b,rfl,rfl,SqL.of n,eD _ _,.inl (b,_,0,u,rfl,rfl,SqL.of o,by simp[atI,ixN],l _ _ _ _ hR (c.addFr g))))
def wU(i:Nat):DE:=λenv R=>∃(S:OO) (W:N9) (r:OD) (w:Ol),env[i]?=OV (.tr S (gA (W++[r::w])))/\R (.fr (.list (r.map .int))) (env.set i (.tr S (gA (W++[w]))))
def Bs(i:Nat)(hK:X.K=K)(hN:X.N[i]?=some y)(hv:Vis X.env.scope y:=by walk_at"v0")(hd:(y==("__debug__" : bc))=false:=by decide)
  (n:(y==("__classdict__" : bc))=false:=by decide) (L:fK (.UnaryOp .USub (.Constant (.int 1) j p3) p4):=by intro _ _;rfl)
  (l:j0 [.Constant (.int 0) j2 p5] X.env=[(false,eval (.Constant (.int 0) j2 p5) X.env)]:=by rfl)
  (f:z5 (.Subscript (.Name y npos) (.UnaryOp .USub (.Constant (.int 1) j p3) p4) pos) "pop" X.env (eval (.Subscript (.Name y npos) (.UnaryOp .USub (.Constant (.int 1) j p3) p4) pos) X.env)=eval (.Subscript (.Name y npos) (.UnaryOp .USub (.Constant (.int 1) j p3) p4) pos) X.env:=by rfl)
  (m:((z4 cpos (j0 [.Constant (.int 0) j2 p5] X.env)).all (λx=>!x.1)&&(QD cpos (Qk [] X.env)).all (λx=>x.1.isSome)&&decide ([Expr.Constant (.int 0) j2 p5].length+([]:OR).length+(if ([]:OR).isEmpty then 0 else 1)<30))=true:=by rfl)
  (g:(apos.endLine==cpos.line)=true:=by rfl) (d:(z4 cpos (j0 [] X.env)).any (·.1)=false:=by rfl) :
  PE X (.Call (.Attribute (.Subscript (.Name y npos) (.UnaryOp .USub (.Constant (.int 1) j p3) p4) pos) "pop" apos) [.Constant (.int 0) j2 p5] [] cpos) (up K (wU i)) :=
 (kBm (K:=K) hK ei m6 m5 rV (pL (iM hK) (bJ hN hv hd n) lN L) (b8 kL d9 l) f m g l d).imp λσ H Q h=>by
 let(M,P,H0,σ0,env,ts,R,k,(S,W,r,w,e,hR),O):=h;let(a,vs,S',b,us,p,G,s,t,I,q,J,dn):=k.ways e;rw[Kw]at dn;cases dn with
 |@cons u us _ _ v C =>
  show(.ref a,p,.inl (a,_,-1,.ref b,rfl,rfl,SqL.of I,eD _ _,.inl (rfl,_,SqL.of J),b,_,0,0,u,rfl,rfl,J,!2,!2,by simp[ZK],rfl,O _ _ _ _ hR ?_));let mb:b∈S:=by rw[G];simp
  let D:bd (Nw M (aK σ env ts)) H (upd H b (.lst us)):=bd.own (t b mb)
  cbv;subst G;let(T,U):=KY.mp s;let(Y,Z,V):=Ky.mp U
  w_up;let E:a≠b:=λz=>T (by rw[z];simp);show Rel.addFr (k.retreeT (R:=[]) e p mb (!1) ?_) ?_;show .lst (by rw[aw E];show I) ?_;show OTs.snoc (q.keep D λc hc=>aw λz=>V c hc b (!1) z) aC (C.keep D);let oe:aK σ (env.set i (.tr (a::(S'++[b])) (gA (W++[w])))) ts=aK σ (env.set i (.tr (a::(S'++[b])) (gA (W++[w])))) ts:=rfl;let(x,A,B,e1,q1,q2):=k.split e;show(v.keep D).to λc o F z=>?_;rw[q2]at z;rw[q1];rcases z with z|z;show .inl z;show .inr ?_;rw[p]at e1;cases e1;rw[am,au,aZ]at z ⊢;show z
def zt(i:Nat):DE:=λenv R=>∃(S:OO) (W:N9) (w:Ol),env[i]?=OV (.tr S (gA (W++[w])))/\∀S',R .un (env.set i (.tr S' (gA W)))
def Ed(i:Nat)(hK:X.K=K)(hN:X.N[i]?=some y)(hv:Vis X.env.scope y:=by walk_at"v0")(hd:(y==("__debug__" : bc))=false:=by decide)
  (k:(y==("__classdict__" : bc))=false:=by decide)
  (d:z5 (.Name y npos) "pop" X.env (eval (.Name y npos) X.env)=eval (.Name y npos) X.env:=by rfl) (f:(apos.endLine==cpos.line)=true:=by rfl) :
  PE X (.Call (.Attribute (.Name y npos) "pop" apos) [] [] cpos) (up K (zt i)) :=
 (Hn (K:=K) hK ei m6 m5 Aj (bJ hN hv hd k) d f).imp λσ H Q h=>by
 cbv;let(M,P,H0,σ0,env,ts,R,g,(S,W,w,e,hR),s):=h;let(a,vs,S',b,us,p,u,l,n,r,q,C,dn):=g.ways e;subst u
 w_up;show(.ref a,p,.inl (rfl,_,SqL.of r),a,_,.ref b,rfl,rfl,r,!1,s _ _ _ _ (hR (a::S')) ?_);let ma:a∈a::(S'++[b]):=Ks;let v:bd (Nw M (aK σ env ts)) H (upd H a (.lst vs)):=bd.own (n a ma);let(A,D):=KY.mp l;rw[List.dropLast_concat];let j:=g.retreeT (o:=.lst vs) (S':=a::S') (R:=[b]) (d':=gA W) e p ma (!1) (.lst aC (q.keep v λc hc=>aw λz=>A (by rw[<-z];simp[hc])));let B:bS K M P H0 (aK σ (env.set i (.tr (a::S') (gA W))) ts++tmp [(V.ref b,Sl.un)]) (upd H a (.lst vs)):=by show j.e.sub (λx t m=>?_) ?_;rcases Km.mp m with m|m;show .inl m;let m:=Kj.mp m;injection m with m1 m2;show .inr (.inl m2);rw[am];show(oas _++oas [(OV (.ref b),Sl.un)]).Nodup;rw[show oas [((OV (.ref b),Sl.un):Ent)]=[] from rfl,K1];show j.e.nd
 show(by rw[aG];show B,j.len,λw i m=>?_,j.ios);rcases Km.mp m with m|m;show j.vw w i m;rw[Kj]at m;cases m
end
section
def Cr(h2:2<=-us)(k:∀u∈us,∃x t,u=eE x t):ut prog w A us s:=by
 show kas_kind (T:=.type "int") h2 (λv hv=>?_) (!2) (by rfl) (rfl,λi j C hi hj hc=>?_);let(x,t,rfl):=k v hv;show .now;let e1:us.getD i du=us[i]:=by simp[hi]
 let e2:us.getD j du=us[j]:=by simp[hj]
 show j4 (kq prog w) A (Z2 _ (us.getD i du) (us.getD j du)) C (λY Y=>False) s;rw[e1,e2];let(x,t,ex):=k us[i] (KL hi);let(y,u,a):=k us[j] (KL hj);rw[ex,a];show kat_lt_int (hc _)
def IS(h:bb)(v:ao):Prop:=∃(l:ac) (its:OF),v=.ref l/\h.IsList l its/\∀j (h:j<its.size),∃x t,its[j]=eE x t
def tW(p:s.heap.IsList l items)(q:s.heap.IsList b a)(f:∀j (h:j<items.size),∃x t,items[j]=eE x t)(g:∀j (h:j<a.size),∃x t,a[j]=eE x t)
  (r:A.units<KI) (h:∀c,Q c s):j4 (kq prog w) A (oneLt' OX (.ref l) (.ref b)) Q E s:=by
 cbv;let((cls,dd,data,sl),ho,hc,n,hd):=id p;let((o,i,data2,k),m,d,u,e):=id q;simp only at hc hd d e;subst hc hd d e
 w_up;rw[oneLt'_eq];simp only[if_true];show jj (wpAny_cRoomFor r ?_);show jj (wpAny_callSpecialIfBound?_slot (_,ho,rfl) F.slot_list_lt (Qy F.slot_list_lt (_,ho,rfl) F.entry_list_lt (F.args_list_lt_2 _ _) (nF l b items a n u dd i sl k f g) (ho,m,λc=>?_)));show QK (h c)
def Bo(c:A.units<KI)(h2:2<=-us)(k:∀u∈us,IS s.heap u):ut prog w A us s:=by
 show kas_kind (T:=.type "list") h2 (λv hv=>?_) (!2) (by rfl) (rfl,λi j C hi hj hc=>?_);let(l,its,rfl,(o,ho,hc,_),_):=k v hv;show hc▸(Looks.ld ho).andThen .now;let e1:us.getD i du=us[i]:=by simp[hi]
 let e2:us.getD j du=us[j]:=by simp[hj]
 show j4 (kq prog w) A (Z2 _ (us.getD i du) (us.getD j du)) C (λY Y=>False) s;rw[e1,e2];let(l,its,d,i1,i2):=k us[i] (KL hi);let(b,a,e,j1,j2):=k us[j] (KL hj);rw[d,e,keyLt'_oneType];show tW i1 j1 i2 j2 c hc
end
def Ap(d:ab):Prop:=∃n:Int,d=.int n
section
variable{X:Cx}{pins:Oq}{σ:St}{H:Hp}{s:az}
def wz(I:Inv X pins σ H s){vs:OU}{ds:OM}{us:ON}(q:DVs X.K H vs ds)(t:aS vs us)(k:∀d∈ds,Ap d)(u)(a:u∈us):∃x t,u=eE x t:=by
 cbv;let(v,d,r,q,h):=Dvp q t u a;let(n,rfl):=k d h;cases q;let(t,rfl):=r
 w_up;show(_,_,rfl)
def rq(I:Inv X pins σ H s){vs:OU}{ds:OM}{us:ON}(q:DVs X.K H vs ds)(t:aS vs us)(k:∀d∈ds,Fg d)(u)(a:u∈us):IS s.heap u:=by
 cbv;let(v,d,r,q,h):=Dvp q t u a;let(ns,rfl):=k d h;let(a,xs,rfl,sq,q):=q.lstI;let(its,rv,b,_):=I.list sq
 w_up;show(a,its.toArray,r,b.isList,λj hj=>by
  let:=lZ q rv j (by simpa using hj);simpa using this)
end
section
variable{X:Cx}{pins:Oq}{σ:St}{H0:Hp}{f:ao}{vs:ON}{A:Around}{E:ao->az->Prop}{a kS:ac}
structure AV(KP:ab->Prop)(X:Cx)(pins:Oq)(σ:St)(H0:Hp)(a kS:ac)(e1:Nat)(ks:ON)(s:az):Prop where
 ex : ∃H kv kd c,Inv X pins σ H s/\bh H0 H/\aS kv ks/\DNs X.K N0 H kv kd/\(∀d∈kd,KP d)/\kj X pins H a/\kj X pins H kS/\s.heap.get? kS=some (Qi "list" ks.toArray c)
 la : s.heap.get? a=some (Qi "list" #[] e1)
theorem mT(ne:a≠kS)(hn:n<64)
  (F:∀x ks e (s:az) (C:ao->az->Prop),eH ks<64->j4 (kq X.prog X.w) A (call f [x]) (λk s1=>s1.heap.get? kS=some (Qi "list" (px ks) e)/\C k s1) (λY Y=>False) s ->
   j4 (kq X.prog X.w) A (body x ⟨⟩) (λr s'=>r=.yield ⟨⟩/\∃k s1 c,C k s1/\s'={ s1 with heap:=s1.heap.update kS (eb (·.push k)) }/\s'.heap.get? kS=some (Qi "list" (px (ks++[k])) c)) E s)
  (call:∀x∈vs,∀H s,Inv X pins σ H s->bh H0 H->j4 (kq X.prog X.w) A (call f [x]) (λr s2=>∃d,KP d/\oO X pins σ H s d r s2) (λY Y=>False) s) :
  ∀(r ks:ON) (s:az),(∀x∈r,x∈vs)->ks.length+r.length=n->AV KP X pins σ H0 a kS e1 ks s ->
   j4 (kq X.prog X.w) A (forIn r PUnit.unit body) (λY s'=>∃ks,ks.length=n/\AV KP X pins σ H0 a kS e1 ks s') E s
 |[],ks,s,_,u,h=>by
  rw[L4];show js (ks,by simpa using u,h)
 |x :: r,ks,s,G,u,h=>by
  rw[K4]at u;rw[Mb];let((H,kv,kd,c,I,J,rv,dn,hk,fa,fk,K),la):=h;let hc:=call x (G x (!1)) H s I J;show jj (KX (F x ks c s (λk s1=>∃d,KP d/\oO X pins σ H s d k s1) (!0) (KX hc (λk s1 i=>?_) λY Y z=>z)) (λq s' N=>?_) λY Y z=>z);let(d,j,H',v,L,g,l,m,kp):=id i;show((kp kS _ fk K).1,i);let(rfl,k,s1,c2,(d,j,H',v,L,g,l,m,kp),es,B):=N;subst es;let p:=wG fk (kp kS _ fk K).2;let D:=wG fa (kp a _ fa la).2;let M:=dk s1.heap kS (eb (·.push k));let O:=L.turnedN (t':=s1.toks) (fp:=[kS]) (h':=s1.heap.update kS (eb (·.push k))) (λb hb'=>by rw[Kj.mp hb'];show p) λb o hb' e=>(M.2 b (λz=>hb' (by simp[z]))).trans e;show j4 (kq X.prog X.w) A (forIn r PUnit.unit body) _ E _;show mT ne hn F call r (ks++[k]) _ (λy P=>G y (by simp[P])) (by rw[KD,K5];lia) ((H',kv++[v],kd++[d],c2,O,J.trans g,uD rv l,?_,?_,D,p,B),?_);show(dn.keep (bd.same g)).app (.cons m .nil);intro e t;rcases Km.mp t with t|t;show hk e t;rw[Kj.mp t];show j;show(M.2 a ne).trans (kp a _ fa la).1
end
noncomputable def AG(CX:CXT)(P:k5)(w:q3)(K:bg)(mg:bc->OB)(base:bb)(N:OP)(qual:bc)(scope:Qq)(f:ac)(cd:ao)(cl:Ov)(A:Around)(outer:OI)(s:az)(H:Hp)(E:XK):Cx where
 prog:=P
 w := w
 K := K
 mg := mg
 base:=base
 A := A.deeper (envX qual scope (~~~s) f cd cl)
 N := N
 s₀ := s
 H₀ := H
 env:=envX qual scope (~~~s) f cd cl
 outer:=outer
 stack:=envX qual scope (~~~s) f cd cl::outer
 ex := []
 calm:=OX
 fn := λY=>OY
 pn := []
 xe := λe s'=>j4 (kq P w) (A.deeper (envX qual scope (~~~s) f cd cl)) (leaving (envX qual scope (~~~s) f cd cl) e) (λY a=>CX outer H s E e a) (λb a=>CX outer H s E b a) s'
structure mE(p x:bc)(sc:Qq):Prop where
 kind:sc.kind=.function
 co : sc.isCoroutine=false
 gen:sc.isGenerator=false
 par:sc.names.lookup p=some .local
 fre:sc.names.lookup x=some .free
 nocell:∀y∈sc.names,y.2≠.cell
 one:∀y∈sc.names,y.2=.free->y.1=x
 ne : p≠x
section
variable{CX:CXT}{P:k5}{w:q3}{K:bg}{mg:bc->OB}{base:bb}{qual p x:bc}{scope:Qq}{f c:ac}{cd:ao}{A:Around}{outer:OI}{s:az}{H:Hp}{E:XK}{u u0:ao}{v v0:V}{h₁:bb}{tk:Nat}
def uj(S:mE p x scope)(hd:A.handled=none)(g:xM P w K mg base A outer s H)(e:s.heap.IsCell c (some u0))(t:bE v0 u0)(l:H c=none)(r:bE v u)
  (m:h₁.Ns s.heap.objs.size (λy=>[(p,u)].reverse.lookup y)) (hk:∀b o,s.heap.get? b=some o->h₁.get? b=some o) :
  Inv (AG CX P w K mg base [p,x] qual scope f cd [(x,c)] A outer s H E) [] [some v,some v0] H { s with heap:=h₁,toks:=tk }:=by
 let j:∀b:ac,b ∉ (AG CX P w K mg base [p,x] qual scope f cd [(x,c)] A outer s H E).ex:=λb z=>absurd (show b∈([]:OO) from z) (!1);let a:∀y d,xb y [(x,c)]=OV d->y=x/\d=c:=λy d h=>by
  let:=fy h;rw[Kj]at this;cases this;show(rfl,rfl)
 let n:xb x [(x,c)]=OV c:=!1
 show((g.mod,S.kind,rfl,rfl,Kz _,λy z d h1 h2=>?_,λy k=>?_,λy d h=>absurd h (by show ¬OY=OX;decide),λY=>hd,Around.frames_deeper g.frames,.inr (rfl,rfl),λb z=>absurd z (j b),g.bs,g.bsz,λb Y Y=>j b,λb z=>absurd z (j b),g.funs,g.frf,g.tab),
  rfl,g.bare,Un.kept hk,(_,m,λi y z h1 h2 h3=>?_),λy d h=>?_,g.hok.fresh (Kz _),λy d h=>?_,λq B=>absurd (show q∈([]:Oq) from B) (!1),g.hok.kept hk,rfl)
 rw[(a y d h1).1,(a z d h2).1];let k:scope.names.lookup y=OV .cell\/scope.names.lookup y=OV .free:=k;rcases k with k|k;show absurd rfl (S.nocell _ (fy k));let:=S.one _ (fy k) rfl;simp only at this;rw[this];show(c,n)
 match i,h1,h2 with
 | 0,h1,h2 =>
  let h1:p=y:=by simpa[AG] using h1
  let h2:v=z:=by simpa using h2
  subst h1 h2;show(u,r,.inl (S.par,?_));simp
 | 1,h1,h2 =>
  let h1:x=y:=by simpa[AG] using h1
  let h2:v0=z:=by simpa using h2
  subst h1 h2;show(u0,t,.inr (.inr S.fre,c,n,e.keeps hk))
 |i+2,h1,h2=>simp at h2
 let(_,rfl):=a y d h;show(_,e.keeps hk);let(_,rfl):=a y d h;show l
def yO(S:mE p x scope)(n:fb (k+1) A)(h:xM P w K mg base A outer s H)(ho:s.heap.get? f=OV (ZB "<lambda>" qual params body scope [(Pm x c)] pm c' ctv))(i:s.heap.CodeRec (.ref c') qual)
  (B:QP (kla_fn "<lambda>" qual params body scope [(Pm x c)] pm (.ref c') ctv) ⟨[u],[]⟩=pure [(Pm p u)]) (a:s.heap.IsCell c (OV u0)) (C:bE v0 u0) (j:H c=OW) (r:bE v u)
  (ht:PE (AG CX P w K mg base [p,x] qual scope f (.ref c') [(Pm x c)] A outer s H E) body t) (D:t [OV v,OV v0] H Q):Qx (kq P w) A (.call (.ref f) ⟨[u],[]⟩) (CR CX outer P w H s Q E) s:=by let l:s.heap.NoLimit:=h.mod.nolimit.keeps λb o e=>(h.bs b o e).1;show kla_callFunE n.depth ho rfl S.co S.gen rfl i ?_;rw[B];show js (wpAny_newFunctionEnv S.nocell (λy F=>by rw[Kj.mp F];show S.par) (λh₁ m g=>⟨l.fresh _ g,?_⟩) S.kind);let d:∀b o,s.heap.get? b=OV o->h₁.get? b=OV o:=λb o e=>g.extBut b o (KO (KB e)) (Kq _ e);show Qx _ _ (.expr body (envX qual scope (~~~s) f (.ref c') [(Pm x c)])) _ _;show kla_codeExpr ?_;let I:=uj (CX:=CX) (E:=E) (qual:=qual) (f:=f) (cd:=.ref c') (tk:=s.toks+[(Pm p u)].length) S n.hd h a C j r m d;show KX (ht [] _ _ H _ I D) (λG s' hs=>?_) λe s' hs=>hs;let(z,H',J,rv,q):=hs;show⟨z,H',J.os,J.bare,J.base,J.hok,rv,q⟩
end
section
variable{X:Cx}{pins:Oq}{σ:St}{H:Hp}{s:az}{params:Zw}{body:ba}{scope:Qq}{pos:Pos}{E:ao->az->Prop}{clos:Ov}
def wg(I:Inv X pins σ H s)(L:zL X)(l:QV scope X.env=pure clos)(m:Z4 params X.env=([],[]))
  (h : ∀f c' pm ctv s' H',Inv X pins σ H' s'->bh H H'->s'.heap.get? f=OV (ZB "<lambda>" (X.env.qual ++ "<lambda>") params body scope clos pm c' ctv)->kj X pins H' f->FV H' c' (X.env.qual ++ "<lambda>")->Q (.ref f) s') :
  j4 (kq X.prog X.w) X.A (eval (.Lambda params body scope pos) X.env) Q E s:=by
 cbv;let(c,T,a,C,hL):=L;let hT:H T=OV (.tbl (X.env.qual ++ "<lambda>")):=I.base.tbls T _ (I.ok.tab T _ hL);let(ps,e,g,d):=I.hok T _ hT;let(bm,ob,b1,O,x,N,P,y):=I.mod.bmain
 w_up;let hg:=I.mod.glob.keeps I.bk;let z:k0≠T:=λq=>by
  let(o,es,ep,j,hd,_):=hg;rw[q,e]at j;cases j;cases hd
 let B:bm≠T:=λq=>by
  let j:=I.bk _ _ x;rw[q,e]at j;cases j;cases N
 let D:bm≠k0:=λq=>by
  let(o,es,ep,j,hd,_):=hg;let e2:=I.bk _ _ x;rw[q,j]at e2;cases e2;rw[hd]at y;cases y
 let hB:s.heap.BuiltinsAt X.mg T:=(bm,ob,b1,O,D,B,I.bk _ _ x,N,P,y)
 show kla_eval m ?_;cases hc:Zu pos ps.toList with
 |none =>
  show kla_makeFunction l I.ok.glob hg a (C.keeps I.bk) e g hc z hB λc' ctv h' tk hx n R r F=>?_
  cbv;let(c2,oc,vs,t,e2,v,hd,hv):=r;cases e2;let G:Dg (upd H c' (.frz oc (.own 0))) h' T (X.env.qual ++ "<lambda>"):=by show(_,F,by rw[dw];show TriplesOk_snoc _ _ _ _ g,λp cv i=>?_);rw[dw]at i;rcases uo _ g i with i|rfl;let(c2,J,S,K,t2,e1,e2,e3):=d _ _ i;show(c2,J,S,K,t2,e1,by rw[aw (aL e2 (I.hok.fresh n))];show e2,e3);show(c',oc,_,vs,t,rfl,aC,hd,hv)
  let(k,U):=I.grow (tk:=tk) hT hx n v hd hv G
  w_up;let M:=k.kept (t':=tk) (h':=h'.push (ZB "<lambda>" (X.env.qual ++ "<lambda>") params body scope clos ((X.mg "__name__").getD .none) c' ctv)) λb o e=>Kq _ e;show h _ c' _ ctv _ _ M U (KF _ rfl) (k.fpOk (Kz _) (k.hok.fresh (Kz _))) (_,_,_,_,aC,hd,hv)
 |some cv =>
  let(c',oc,u,vs,t,rfl,e1,hd,hv):=d _ _ hc;let(v,_):=I.hok c' _ e1;show kla_makeFunctionHit l I.ok.glob hg a (C.keeps I.bk) e g hc hB λctv h' tk hk hsz=>?_;let k:=I.kept (t':=tk) hk;let M:=k.kept (t':=tk) (h':=h'.push (ZB "<lambda>" (X.env.qual ++ "<lambda>") params body scope clos ((X.mg "__name__").getD .none) c' ctv)) λb o e=>Kq _ e;show h _ c' _ ctv _ _ M (bh.refl _) (KF _ rfl) (k.fpOk (Kz _) (k.hok.fresh (Kz _))) (_,_,_,_,e1,hd,hv)
end
theorem p9:∀a:OD,HT.lexLt a a=OY
 |[]=>HT.lexLt_nil_nil
 |x::a=>by rw[HT.lexLt_cons,N6 rfl];show p9 a
theorem An:∀a b:OD,HT.lexLt a b=OX->HT.lexLt b a=OY
 |[],[],h=>by rw[HT.lexLt_nil_nil]at h;cases h
 |[],y::b,_=>HT.lexLt_cons_nil ..
 |x::a,[],h=>by rw[HT.lexLt_cons_nil]at h;cases h
 |x :: a,y::b,h=>by
  rw[HT.lexLt_cons]at h ⊢;by_cases e:x=y;rw[N6 e]at h;rw[N6 e.symm];show An a b h;rw[N7 e]at h;rw[N7 λz=>e z.symm];let:=of_decide_eq_true h;show decide_eq_false (!0)
theorem Al:∀a b c:OD,HT.lexLt a b=OY->HT.lexLt b c=OY->HT.lexLt a c=OY
 |[],[],c,_,h=>h
 |[],y::b,c,h,_=>by rw[HT.lexLt_nil_cons]at h;cases h
 |x::a,b,[],_,_=>HT.lexLt_cons_nil ..
 |x::a,[],z::c,_,h=>by rw[HT.lexLt_nil_cons]at h;cases h
 |x :: a,y::b,z::c,h1,h2=>by
  rw[HT.lexLt_cons]at h1 h2 ⊢;by_cases e1:x=y;rw[N6 e1]at h1;by_cases e2:y=z;rw[N6 e2]at h2;rw[N6 (e1.trans e2)];show Al a b c h1 h2;rw[N7 e2]at h2;rw[N7 λq=>e2 (e1.symm.trans q),e1];show h2;rw[N7 e1]at h1;let h1:=of_decide_eq_false h1;by_cases e2:y=z;rw[N7 λq=>e1 (q.trans e2.symm)];show decide_eq_false (!0);rw[N7 e2]at h2;let h2:=of_decide_eq_false h2;rw[N7 (!0)];show decide_eq_false (!0)
def jf(a b:Int×OD):iw a b=if a.1=b.1 then HT.lexLt a.2 b.2 else decide (a.1<b.1):=by unfold iw;by_cases e:a.1=b.1;rw[N6 e,N6 e];by_cases e2:a.2=b.2;rw[N6 e2,e2,p9];rw[N7 e2];rw[N7 e,N7 e]
def yR(a b:Int×OD)(h:iw a b=OX):iw b a=OY:=by rw[jf]at h ⊢;by_cases e:a.1=b.1;rw[N6 e]at h;rw[N6 e.symm];show An _ _ h;rw[N7 e]at h;rw[N7 λz=>e z.symm];let:=of_decide_eq_true h;show decide_eq_false (!0)
def yQ(a b c:Int×OD)(h1:iw a b=OY)(h2:iw b c=OY):iw a c=OY:=by rw[jf]at h1 h2 ⊢;by_cases e1:a.1=b.1;rw[N6 e1]at h1;by_cases e2:b.1=c.1;rw[N6 e2]at h2;rw[N6 (e1.trans e2)];show Al _ _ _ h1 h2;rw[N7 e2]at h2;rw[N7 λq=>e2 (e1.symm.trans q),e1];show h2;rw[N7 e1]at h1;let h1:=of_decide_eq_false h1;by_cases e2:b.1=c.1;rw[N7 λq=>e1 (q.trans e2.symm)];show decide_eq_false (!0);rw[N7 e2]at h2;let h2:=of_decide_eq_false h2;rw[N7 (!0)];show decide_eq_false (!0)
def HY{CX:CXT}{P:k5}{w:q3}{K:bg}{mg:bc->OB}{base:bb}{N N':OP}{qual:bc}{scope sc:Qq}{f:ac}{cd:ao}{cl:Ov}{A:Around}{outer:OI}{s:az}{H:Hp}{E:XK}{ix:Og}
  (h : bOk N scope N' ix sc=OX):dB (AG CX P w K mg base N qual scope f cd cl A outer s H E).N (AG CX P w K mg base N qual scope f cd cl A outer s H E).env N' ix sc:=zF rfl rfl h
def Bp{K:bg}{H:Hp}{vs:OU}{ds:OM}(q:DNs K N0 H vs ds):Rel K N0 N0 H (vs.map OV) (vs.map OV) (ds.map Sl.fr) [] H:=by
 let c:∀x s,(x,s)∈aK (vs.map OV) (ds.map Sl.fr) []->∃v d,x=OV v/\s=.fr d/\(v,d)∈vs.zip ds:=λx s m=>by
  let m:(x,s)∈(vs.map OV).zip (ds.map Sl.fr)++[]:=m;rw[K1,N4]at m
  cbv;let((v,d),f,e):=Ko.mp m;cases e
  w_up;show(v,d,rfl,rfl,f)
 let g:oas (aK (vs.map OV) (ds.map Sl.fr) [])=[]:=pr.mpr λhz m=>by
  let(x,s):=hz;let(v,d,rfl,rfl,_):=c x s m;show eW _ _
 let ne:∀b,Nw N0 (aK (vs.map OV) (ds.map Sl.fr) []) b->N0 b:=λb z=>by
  rcases z with z|z;show z;rw[g]at z;cases z
 show((bd.refl,λa h=>h,λa z=>z.elim,λa z=>z,λx e m=>?_,λx e m=>?_,λx e m=>?_,λx S e m=>?_,by rw[g];show LA),by rw[Ki,Ki,q.len],λw i m=>(by cases m),λi ds' e=>rfl)
 .cbv;let(v,d,rfl,e1,f):=c _ _ m;cases e1
  w_up;show(v,rfl,(qo q _ f).to λb Y Y z=>ne b z)
 let(v,d,_,e1,_):=c _ _ m;cases e1;let(v,d,_,e1,_):=c _ _ m;cases e1;let(v,d,_,e1,_):=c _ _ m;cases e1
def Ev(t:DE)(env:OL)(s:Sl):Prop:=∀R:Sl->OL->Prop,R s env->t env R
def EvA(t:DA)(env:OL)(ss:OL):Prop:=∀R:OL->OL->Prop,R ss env->t env R
def EvT(t:DT)(env:OL)(k:Bool):Prop:=∀R:Bool->OL->Prop,R k env->t env R
def EvO(t:DO)(env:OL)(k:Oy):Prop:=∀R:Oy->OL->Prop,R k env->t env R
def EvI(t:DI)(env:OL)(ds:OM):Prop:=∀R:OM->OL->Prop,R ds env->t env R
def E2(g:G2)(d e x:ab):Prop:=∀R:ab->Prop,R x->g d e R
def E1(g:G1)(d x:ab):Prop:=∀R:ab->Prop,R x->g d R
def EB(g:GB)(ds:OM)(x:ab):Prop:=∀R:ab->Prop,R x->g ds R
def EL(g:ab->ab->(OM->Prop)->Prop)(d e:ab)(x:OM):Prop:=∀R:OM->Prop,R x->g d e R
section
def Fn(h:(env[i]?).bind slD=OV d):Ev (Gf i) env (.vw i):=λY r=>(d,h,r)
def J9:Ev (dC d) env (.fr d):=λY r=>r
def Fu(h:env[i]?=OV (.fr d)):Ev (zv i) env (.fr d):=λR r=>by unfold zv;rw[h];show r
def HC(h1:Ev ta env s1)(h2:Ev tb env s2)(e1:aV env s1=OV d1)(e2:aV env s2=OV d2)(h:E2 g d1 d2 x):Ev (dOp g ta tb) env (.fr x):=λY r=>h1 _ (h2 _ (d1,d2,e1,e2,h _ r))
def Fq{g:ab->ab->(OM->Prop)->Prop}(h1:Ev ta env s1)(h2:Ev tb env s2)(e1:aV env s1=OV d1)(e2:aV env s2=OV d2)(h:EL g d1 d2 xs):Ev (FF g ta tb) env (.ow xs):=λY r=>h1 _ (h2 _ (d1,d2,e1,e2,h _ r))
def HB{g:G1}(h1:Ev ta env s1)(e1:aV env s1=OV d1)(h:E1 g d1 x):Ev (dUn g ta) env (.fr x):=λY r=>h1 _ (d1,e1,h _ r)
def HE{g:GB}(h1:EvA tl env ss)(e1:gC env ss=OV ds)(h:EB g ds x):Ev (dCB g tl) env (.fr x):=λY r=>h1 _ (ds,e1,h _ r)
def Fo(h1:EvA tl env ss)(e1:bH env ss=OV ds)(z:-ss<=sizeLine):Ev (Dp tl) env (.fr (.tuple ds)):=λY r=>h1 _ (ds,e1,z,r)
def Ft(h1:EvA tl env ss)(e1:bH env ss=OV ds)(z:-ss<=sizeLine):Ev (Gk tl) env (.ow ds):=λY r=>h1 _ (ds,e1,z,r)
def CF(h1:Ev ta env s1)(h2:Ev tb env s2)(e1:aV env s1=OV (.tuple xs))(e2:aV env s2=OV (.tuple ys))(z:-xs+-ys<=sizeLine):Ev (zx ta tb) env (.fr (.tuple (xs++ys))):=λY r=>h1 _ (h2 _ (xs,ys,e1,e2,z,r))
def Fp(h1:Ev te env s)(h2:EvO t1 env l)(h3:EvO t2 env h)(e1:aV env s=OV (.list ds)):Ev (Gg te t1 t2) env (.ow (oT ds l h)):=λY r=>h1 _ (h2 _ (h3 _ (ds,e1,r)))
def HD:EvO mq env OW:=λY r=>r
def CB(h1:Ev te env s)(e1:aV env s=OV (.int n)):EvO (zu te) env (OV n):=λY r=>h1 _ (n,e1,r)
def Fs:EvA FG env []:=λY r=>r
def CC(h1:Ev te env s)(h2:EvA tl env ss):EvA (w4 te tl) env (s::ss):=λY r=>h1 _ (h2 _ r)
def CA(h1:Ev te env s)(e1:aV env s=OV (.bool k)):EvT (qr te) env k:=λY r=>h1 _ (k,e1,r)
def Fr(h1:EvT t env k):EvT (Gj t) env (!k):=λY r=>h1 _ r
def Ka:E2 (gI f) (.int m) (.int n) (.int (f m n)):=λY r=>(m,n,rfl,rfl,r)
def HJ(c:C m n):E2 (gIC C f) (.int m) (.int n) (.int (f m n)):=λY r=>(m,n,rfl,rfl,c,r)
def Kb:E2 (gB f) (.int m) (.int n) (.bool (f m n)):=λY r=>(m,n,rfl,rfl,r)
def HI(h1:shp d)(h2:shp e):E2 gEq d e (.bool (eu d e)):=λY r=>(h1,h2,r)
def HF(h1:shp d)(h2:shp e):E2 gNe d e (.bool (!PyData.eqv d e)):=λY r=>(h1,h2,r)
def FA:E2 Gd d .none (.bool (l7 d)):=λY r=>(rfl,r)
def CK:E2 zf d .none (.bool (!l7 d)):=λY r=>(rfl,r)
def HG(h1:gb d=OV ds)(h2:atI ds n=OV x):E2 gIx d (.int n) x:=λY r=>(ds,n,x,h1,rfl,h2,r)
def HH(h1:gb e=OV ds)(h2:fH ds=OV ns):E2 gIn (.int n) e (.bool (decide (n∈ns))):=λY r=>(n,ds,ns,rfl,h1,h2,r)
def FB:E1 Ga (.int n) (.int (-(n))):=λY r=>(n,rfl,r)
def Fz(h:gb d=OV es):EB Fl [d] (.int (-es)):=λY r=>(d,es,rfl,h,r)
def Fy(z:-xs+-ys<=sizeLine):EL Ge (.list xs) (.list ys) (xs++ys):=λY r=>(xs,ys,rfl,rfl,z,r)
def CI(h1:Ev te env s)(e1:aM env s=OV (.list ds)):EvI (sQ te) env ds:=λY r=>h1 _ (ds,e1,r)
def CH(h1:EvA tl env [s])(e1:aV env s=OV (.int n))(z1:-4611686018427387904<=n)(z2:n<4611686018427387904):EvI (zr tl) env (iH 0 n.toNat):=λY r=>h1 _ (s,n,rfl,e1,z1,z2,r)
def CJ(h1:EvA tl env [s])(e1:aM env s=OV (sqD b ds)):EvI (zw b tl) env (mi ds):=λY r=>h1 _ (s,ds,rfl,e1,r)
def Cc{n:Nat}(h:decide (n<=100)=OX):n<=sizeLine:=Kr (of_decide_eq_true h) (Kr (!2) ai)
def ws_seq(h:t { DD with nx:=u DD } env):FC t u DD env:=h
def Dx(h1:Ev te env s)(z:i< -env)(e1:kr env s=OV s')(h:DD.nx (env.set i s')):AD i te DD env:=h1 _ (s',z,e1,h)
def Dy(h1:Ev te env s)(h:DD.rt s env):FE te DD env:=h1 _ h
def Dz(h1:EvT c env k)(h:if k=OX then t DD env else u DD env):Gm c t u DD env:=h1 _ h
def DB{it:DI}{g:DG}{tb:DS}(h1:EvI it env ds)(h:FD ds g tb DD env):Gn it g tb DD env:=h1 _ h
def DC(h1:Ev te env s)(e1:aM env s=OV d)(e2:env[i]?=OV a)(e3:ij a=OV ds)(z:-ds<sizeLine)(e4:cR a (ds++[d])=OV s')(h:DD.nx (env.set i s')):wX (Go i te) DD env:=((ds,by rw[e2];show e3),h1 _ (d,a,ds,s',e1,e2,e3,z,e4,h))
def A3(h1:EvA tl env ss)(a1:ss[q]?=OV (.vw i))(a2:env[i]?=OV b)(c:ij b=OV l)(d:bH env (ss.take q)=OV a)(e:bH env (ss.drop (q+1))=OV ds2)
  (h : sp (a.map .fr++.io l::ds2.map .fr) (dK (λr as=>∃l' s',as[q]?=OV (.io l')/\cR b l'=OV s'/\R r (env.set i s')) ⟨⟩)):oz sp q tl env R:=h1 _ (i,b,l,a,ds2,a1,a2,c,d,e,h)
def DH(h1:EvA tl env ss)(e1:bH env ss=OV ds)(h:sp (ds.map .fr) (dK (λr Y=>R r env) ⟨⟩)):w9 sp tl env R:=h1 _ (ds,e1,h)
def DF{it:DI}{ix:Og}{g:DG}{tt:DT}{R:Sl->OL->Prop}(h1:EvI it env ds)(h:CD ds ix g tt te env (dK R ⟨⟩)):qw it ix g tt te env R:=h1 _ h
def w_pop(a1:env[i]?=OV a)(a2:ij a=OV ds)(b:ds.getLast? = OV d)(c:cR a ds.dropLast=OV s')(h:R (.fr d) (env.set i s')):Gh i env R:=(a,ds,d,s',a1,a2,b,c,h)
def wg_name(z:i< -env)(h:R (env.set i (.fr d))):kY i d env R:=(z,h)
def wk_K(h:R s env):dK R w s env:=h
def wx_set(h:te env λs a=>∃s',i< -a/\kr a s=OV s'/\DD.nx (a.set i s')):AD i te DD env:=h
def wx_ret(h:te env DD.rt):FE te DD env:=h
def wx_drop(h:te env λY a=>DD.nx a):wX te DD env:=h
end
def Itv(K:bg)(a:ac)(m:Nat):It :=
 (λi H=>i<m/\∃xs x,SqL K H a xs/\xs[m-1-i]?=OV x,λi H x H'=>H'=H/\∀xs,SqL K H a xs->xs[m-1-i]?=OV x,λi Y=>i=m)
def xR{P:k5}{w:q3}{K:bg}{tg:ba}(a it:ac)(m:Nat):Df P w K tg (Itv K a m) [it] it (λi h=>h.IsRevIter it a ((m:Int)-1-i)) where
 mem:=!1
 obj:=λi h st b f=>by
  let e:b=it:=by simpa using f
  subst e;let(o,e,c,d):=st;show(o,e,λv z=>by rw[d]at z;cases z)
 keep:=λi h h' st k=>st.at λo e=>k it (!1) o e
 item:=by
  intro X hP hw hK hc i pins s σ H E I g st hg
  cbv;subst hP hw hK;let(hi,xs,x,t,hx):=hg;let(its,rv,p,hz):=I.list t;let(u,y,A):=rv.get hx;let(j,l,B,n,q,r):=g it (!1)
  w_up;let e1:(m:Int)-1-i=((m-1-i:Nat):Int):=!0
  let st:s.heap.IsRevIter it a ((m:Int)-1-i):=st;rw[e1]at st;show wpAny_pyNext_rev_item st p.isList (x:=u) (by simpa using y) λh' st' C=>?_;let D:Inv X pins σ H { s with heap:=h' }:=I.turned (t':=s.toks) (λb o f e=>(C.2 b f).trans e) j l n q r;let e2:((m-1-i:Nat):Int)-1=(m:Int)-1-(i+1:Nat):=!0
  rw[e2]at st';let(o,e,c,d):=id st';show(u,rfl,y8 (s:={ s with heap:=h' }) e c d (!2) (x,H,D,A,(rfl,λys F=>by rw[I.list_inj F t];show hx),st',λb f=>(g b f).1))
 done:=by intro X hP hw hK hc i pins s σ H E I g st hg;subst hP hw hK;let hg:i=m:=hg;let(j,l,B,n,q,r):=g it (!1);let st:s.heap.IsRevIter it a ((m:Int)-1-i):=st;rw[show(m:Int)-1-i = -1 by lia]at st;show wpAny_pyNext_rev_end (I.ok.hd hc) st λh' G=>(rfl,I.turned (t':=s.toks) (λb o f e=>G b o f e) j l n q r)
 self:=λY Y Y Y Y st h=>wpAny_pyIter_revIter st h
section
def J4(K:bg)(ta:TA):TI:=λσ H R=>ta σ H λvs H1=>∃(a:ac) (xs:OU),vs=[.ref a]/\SqL K H1 a xs/\R (Itv K a (-xs)) H1
def Eu(hg:Gl X "reversed")(f:X.mg "reversed" = none)(g:PA X [e] ta)(hs:j0 [e] X.env=[(false,eval e X.env)]:=by rfl):PI X tg (.Call (.Name "reversed" p) [e] [] pos) (J4 X.K ta):=by
 intro pins s σ H R I h;show Call_ (gS I hg f boot_reversed (fx (thn (g pos pins s σ H _ I h) λus s1 d=>?_) hs rfl))
 cbv;let(vs,H1,c,i,q1):=d;let(a,xs,rfl,j,q):=q1;let(u,rfl,k):=iQ i
 w_up;cases (show u=cu a from k);let(its,rv,l,hz):=c.list j;let n:=-rv;let st:(s1.heap.push (revObj a ((its.toArray.size:Int)-1))).IsRevIter (~~~s1) a ((its.toArray.size:Int)-1):=(_,KF _ rfl,rfl,rfl)
 show call_reversed_list l.isList ?_;show wpAny_pyIter_revIter st ?_;show((~~~s1),[(~~~s1)],_,_,H1,rfl,c.kept (t':=s1.toks) λb o e=>Kq _ e,xR a _ (-xs),?_,λb m=>?_,q);rw[show((-xs:Nat):Int)-1-(0:Nat)=(its.toArray.size:Int)-1 by rw[KA];lia];show st;let e:b=(~~~s1):=by simpa using m
 subst e;show c.fpOk (Kz _) (c.hok.fresh (Kz _))
end
section
variable{X:Cx}{K:bg}{tg e:ba}{p pos:Pos}{tl:DA}
def yX:k7 K (Itv K a (-ds)) [(.ref a,.fr (.list ds))] ds.reverse where
 go := λc i hi=>by
  rw[Ly]at hi;let(xs,s,q):=cV (b:=OY) (a:=a) (ds:=ds) c (Kl _ (!1));let(x,e,_):=q.item (i:=-ds-1-i) (!0);show(hi,xs,x,s,e)
 yld:=λc i x H' hi y=>by
  cbv;let(xs,s,q):=cV (b:=OY) (a:=a) (ds:=ds) c (Kl _ (!1));let(e,y):=y;subst e;rw[Ly]at hi;let(f,d,dn):=q.item (i:=-ds-1-i) (!0);rw[y xs s]at d;cases d
  w_up;show(bh.refl _,by rw[M6];show dn)
 stop:=λc=>Ly ..
 nv := yA
def HM(tl:DA):DI:=λenv RR=>tl env λss a=>∃s ds,ss=[s]/\aM a s=OV (.list ds)/\RR ds.reverse a
def D9(hK:X.K=K)(hg:Gl X "reversed")(f:X.mg "reversed" = none)(g:PA X [e] (upA K tl))(hs:j0 [e] X.env=[(false,eval e X.env)]:=by rfl):PI X tg (.Call (.Name "reversed" p) [e] [] pos) (upI K (HM tl)):=by
 subst hK;show(Eu hg f g hs).imp λσ H R h=>?_;let(M,P,H0,σ0,env,ts,RR,c,ht,i):=h;show(M,P,H0,σ0,env,ts,_,c,ht,λss d vs H1 h1 j b=>?_)
 cbv;let(s,ds,rfl,k,hR):=h1;let(v,rfl):=kB j;let dn:=b.kept (v:=v) (s:=s) (!1) k;let(a,xs,rfl,l,q):=dn.list
 w_up;show(a,xs,rfl,l.sq,?_);rw[q.len];show i _ _ _ _ _ hR (b.drop.addFr dn) yX
end
section
def uJ{ns:OD}(h:j< -ns):ns.take (j+1)=ns.take j++[ns.getD j 0]:=by rw[K3,Kk h,Kn,Kk h];rfl
end
section
variable{X:Cx}{K:bg}
def HP(i:Nat)(u:DS):DS:=λDD env=>∃S d,env[i]?=OV (.tr S d)/\u DD (env.set i (.fr d))
def fC(i:Nat)(h:PSs X ss (upS K u)):PSs X ss (upS K (HP i u)):=h.imp λD σ H h=>by
 let(M,P,H0,σ0,env,ts,DD,nv,a,(S,d,e,b),ok):=h;show(M,P,H0,σ0,_,ts,DD,nv,a.frzT e,b,ok)
end
section
variable{X:Cx}{K:bg}
def HQ(i:Nat)(tl:DA):DE:=λenv R=>(∃ds,(env[i]?).bind ij=OV ds)/\tl env λss a=>∃l b ds s',ss=[.ow l]/\a[i]?=OV b/\ij b=OV ds/\ds.length+-l<=sizeLine/\cR b (ds++l)=OV s'/\R (.fr .none) (a.set i s')
def GZ(i:Nat){apos cpos npos:Pos}(hK:X.K=K)(hN:X.N[i]?=some y)(u:PA X [e1] (upA K tl))
  (hv:Vis X.env.scope y:=by walk_at"v0") (hd:(y==("__debug__" : bc))=false:=by decide)
  (p:(y==("__classdict__" : bc))=false:=by decide)
  (r:j0 [e1] X.env=(false,eval e1 X.env)::j0 [] X.env:=by rfl)
  (f:z5 (.Name y npos) "extend" X.env (eval (.Name y npos) X.env)=eval (.Name y npos) X.env:=by rfl)
  (j:((z4 cpos (j0 [e1] X.env)).all (λx=>!x.1)&&(QD cpos (Qk [] X.env)).all (λx=>x.1.isSome)&&decide ([e1].length+([]:OR).length+(if ([]:OR).isEmpty then 0 else 1)<30))=true:=by rfl)
  (g:(apos.endLine==cpos.line)=true:=by rfl) (d:(z4 cpos (j0 [] X.env)).any (·.1)=false:=by rfl) :
  PE X (.Call (.Attribute (.Name y npos) "extend" apos) [e1] [] cpos) (up K (HQ i tl)) :=
 (kBm (K:=K) hK ei PySem.F.slot_list_extend PySem.F.type_list_extend vZ (bJ hN hv hd p) u f j g r d).imp λσ H Q h=>by
 cbv;let(M,P,H0,σ0,env,ts,R,k,((v,h0),ht),w):=h;let(L,A,B):=mC h0;let(a,vs,s,C,_):=k.mine A B
 w_up;show(.ref a,s,.inl (rfl,vs,SqL.of C),M,P,H0,σ0,env,ts,_,k,ht,λss m D H1 h1 E c=>?_)
 cbv;let(l,O,ds,s',rfl,z2,G,hz,es,hR):=h1;let(v1,rfl):=kB E;let(S,us,n,t,q):=c.drop.mine z2 G;rw[s]at n;cases n;let hE:=c.e;let(b,ws,I,hB,J,_):=hE.ow (OV v1) l (by rw[aG];show Kl _ (by simp[tmp]));cases I
 w_up;let o:DNs K (Nw M (aK σ m ts)) H1 ws l:=J.to λb Y Y z=>by rw[aG];show f6 z
 show(a,b,us,ws,rfl,rfl,t,hB,by rw[q.len,o.len];show hz,w _ _ _ _ hR ((c.drop.mut (ds:=ds) z2 es s (q.app o)).addFr .non))
end
def FnI(K:bg)(x:bc)(st:Stmt):Prop:=∃f fd,bt K k0 x=OV (OV (.ref f))/\Fun K x x st f fd
def FnL(K:bg)(x:bc)(st:Stmt):Prop:=∃f fd,bt K k0 x=OV (OV (.ref f))/\Fun K x x st f fd/\∀base:bb,K.In base->xB K base x fd
structure BnI(K:bg):Prop where
 len:bt K k0 "len" = some none
 range:bt K k0 "range" = some none
 min:bt K k0 "min" = some none
 max:bt K k0 "max" = some none
 enumerate:bt K k0 "enumerate" = some none
 zip:bt K k0 "zip" = some none
 all:bt K k0 "all" = some none
 any:bt K k0 "any" = some none
 isinstance:bt K k0 "isinstance" = some none
 bool:bt K k0 "bool" = some none
 int:bt K k0 "int" = some none
 list:bt K k0 "list" = some none
 tuple:bt K k0 "tuple" = some none
 sorted:bt K k0 "sorted" = some none
 str:bt K k0 "str" = some none
 sum:bt K k0 "sum" = some none
 abs:bt K k0 "abs" = some none
 reversed:bt K k0 "reversed" = some none
 dict:bt K k0 "dict" = some none
section
variable{P:k5}{w:q3}{K:bg}{mg:bc->OB}{base h:bb}{x:bc}{st:Stmt}{f:ac}{oc:ao}{od an:OC}{osl:Oh}{kV doc pm cdv ct:ao}{k:Nat}{ps:OP}{sp:DSp}
def BnI.bn(X:K.In h)(G:h.Ns k0 mg)(z:BnI K):Bn mg :=
 let m:∀{y:bc},bt K k0 y=OV OW->mg y=OW:=λe=>PySem.W.mg_none_of X G e
 (m z.len,m z.range,m z.min,m z.max,m z.enumerate,m z.zip,m z.all,m z.any,m z.isinstance,m z.bool,m z.int,m z.list,m z.tuple,m z.sorted,m z.str,m z.sum,m z.abs,m z.reversed,m z.dict)
def fnI(a:bt K k0 x=OV (OV (.ref f)))(l:K.lookup f=OV (oc,od,.func (gi x x (eY st) (cI st) (ae st) .none kV doc pm an cdv ct),osl))(c:mA K cdv x=OX)(k:mu K (.ref f)=OX):FnI K x st:=(f,_,a,As l c k)
def fnL(hx:x∈fU)(a:bt K k0 x=OV (OV (.ref f)))(l:K.lookup f=OV (oc,od,.func (gi x x (eY st) (cI st) (ae st) .none kV doc pm an cdv ct),osl))(c:mA K cdv x=OX)(k:mu K (.ref f)=OX)
  (hc:cdv=.ref b) (g:K.lookup b=OV (.type "code",d,.fields vs,e)) (hT:xD vs b T):FnL K x st:=(f,_,a,As l c k,λbase h=>EW hx a l hc g hT h)
def fi(X:K.In h)(G:h.Ns k0 mg)(g:FnI K x st)(b:∀{f:ac}{fd:k3},Fun K x x st f fd->gY K fd ps [])(ok:∀{f:ac}{fd:k3},Fun K x x st f fd->cg P w K mg base CX0 k f fd ps (spD K sp)):Cal P w K mg base x k (spD K sp):=by let(f,fd,a,F):=g;show IR F (I7 X G a) (b F) (ok F)
def IQ(X:K.In h)(G:h.Ns k0 mg)(c:K.In base)(g:FnL K x st)(b:∀{f:ac}{fd:k3},Fun K x x st f fd->gY K fd ps [])(ok:∀{f:ac}{fd:k3},Fun K x x st f fd->xB K base x fd->cg P w K mg base CX0 k f fd ps (spD K sp)):Cal P w K mg base x k (spD K sp):=by let(f,fd,a,F,L):=g;show IR F (I7 X G a) (b F) (ok F (L base c))
def JY{l:o0}(X:K.In h)(G:h.Ns k0 mg)(b:mg "law" = OV (.ref fa))(g:FnI K "law" st)(c:∀{fd:k3},Fun K "law" "law" st fa fd->∀(s:az) (v:ao),Zv s fd ([v],[]) [("_law_script",v)])
  (ok:∀{fd:k3}{base:bb},Fun K "law" "law" st fa fd->K.In base->cg l.prog w K mg base CX0 k fa fd ["_law_script"] (spD K sp)):∃fd:k3,(∀(s:az) (v:ao),Zv s fd ([v],[]) [("_law_script",v)])/\∀base:bb,K.In base->base.Ns k0 mg->cg l.prog w K mg base CX0 k fa fd ["_law_script"] (spD K sp):=by
 cbv;let(f,fd,a,F):=g;let e:=b.symm.trans (I7 X G a);cases e
 w_up;show(fd,c F,λbase d Y=>ok F d)
end
section
def B8(b:(d==Qd)=false)(ho:s.heap.get? d=some o)(hc:o.ExactDict)(a:o.data=.dict es ep)(c:(es.size:Int)<2 ^ 63)
  (h : Q (.int es.size (s.toks+1)) { s with toks:=s.toks+1+1 }):j4 (kq prog w) A (call (.builtin "len") [.ref d]) Q E s:=by
 let hT:s.TypeIs (.ref d) "dict" := (o,ho,hc.1)
 let g:MeetsIn prog w (Builtin.«dict.__len__» ([.ref d],[])) (λY R s=>∃o ep,s.heap.get? d=OV o/\o.data=.dict es ep/\R (.ok (.ret (.int es.size s.toks))) { s with toks:=s.toks+1 }) :=
  .of_wp λA R s z=>by
   let(o,ep,ho,a,h):=z;show j4 _ _ (dictSize d >>= _) _ _ s;unfold dictSize;show jj (jj (QN ho a (js ?_)));show j4 _ _ (Builtin.Dict.pendingCount d >>= _) _ _ s;show jj (wpAny_pendingCount_other b ?_);show wpAny_ret_mkInt ?_;rw[Nat.add_zero];show h
 show Calls.call_function_entry kind_len plain_len entry_len (args_len1 _) ?_;unfold Builtin.«len»;show jj (m:=oneArg "len" _) (js ?_);show jj (m:=callSpecial? (.ref d) (fI "__len__")) (K0 (name:=fI "__len__") hT F.slot_dict_len
  (ZH F.slot_dict_len hT F.entry_dict_len (F.args_dict_len_1 _) g (o,ep,ho,a,?_)))
 show j4 _ _ _ _ _ { s with toks:=s.toks+1 };show jj (q4 (js ?_));show jj (wpAny_letGo ?_);show j4 _ _ (if ((es.size:Nat):Int)<0 then _ else _) _ _ _;rw[N7 (!0)];show j4 _ _ (if ((es.size:Nat):Int)≥2 ^ 63 then _ else _) _ _ _;rw[N7 (!0)];show jj (wpAny_mkInt (js (_,rfl,h)))
end
section
variable{X:Cx}{K:bg}{tg e:ba}
def gv{pins:Oq}{σ:St}{H:Hp}{s:az}{a:ac}{es:Oo}(I:Inv X pins σ H s)(c:H a=OV (.ext (bf a es))) :
  (-es)<=sizeLine/\(a==Qd)=OY/\∃o ds,s.heap.get? a=OV o/\o.ExactDict/\o.data=.dict ds (-es)/\ds.size=-es/\∀i (hi:i<ds.size) (h2:i< -es),ds[i].key=.ref es[i].2.1:=by
 let((z,y,xs,r,o,ds,ep,h1,h2,h3,h4,_,h6),_):=I.hok a _ c;let b:=Paired.length r;let hs:ds.size=-xs:=by rw[<-lu,h4,Ki]
 show(z,y,o,ds,h1,h2,by rw[h3,h6,b],by rw[hs,b],λi hi hj=>?_);let hx:i< -xs:=!0
 let e1:ds[i]=jZ xs[i]:=by
  let:ds.toList[i]'(by simpa using hi)=(xs.map jZ)[i]'(by simpa using hx):=by simp only[h4]
  simpa using this
 let e2:es[i].2.1=xs[i].2.1:=(Paired.at r i hj hx).2.1;rw[e1,e2];rfl
def cO:fM X (.builtin "len") (λxs H Q=>∃p es,xs=[.ref p]/\H p=OV (.ext (bf p es))/\Q (.int (-es)) H):=by
 intro pins s σ H xs us Q I r h
 cbv;let(p,es,rfl,a,q):=h;let(u,rfl,b):=iQ r;cases b;let hn:=kQ;let(z,y,o,ds,h1,h2,h3,h4,_):=gv I a
 w_up;show B8 y h1 h2 h3 (!0) (.int (-es),H,I.tok _,(s.toks+1,by rw[h4]),q)
def Itd(a:ac)(n:Nat):It :=
  (λi H=>i<n/\∃es:Oo,H a=OV (.ext (bf a es))/\es.length=n,
   λi H x H'=>H'=H/\∀es:Oo,H a=OV (.ext (bf a es))->(es.map λp=>V.ref p.2.1)[i]?=OV x,
   λi H=>i=n/\∃es:Oo,H a=OV (.ext (bf a es))/\es.length=n)
def xS(a it:ac)(n:Nat):Df P w K tg (Itd a n) [it] it (λi h=>h.IsKeyIter it a i n n) where
 mem:=!1
 obj:=λi h st b f=>by
  let e:b=it:=by simpa using f
  subst e;let(o,e,c,d):=st;show(o,e,λv z=>by rw[d]at z;cases z)
 keep:=λi h h' st k=>by
  let(o,e,c):=st;show(o,k it (!1) o e,c)
 item:=by
  intro X hP hw hK hc i pins s σ H E I g st hg
  cbv;subst hP hw hK;let(hi,es,j,hn):=hg;let(z,y,o,ds,h1,h2,h3,h4,h5):=gv I j;let(l,m,x,p,q,r):=g it (!1)
  w_up;let st:s.heap.IsKeyIter it a i ds.size (-es):=by rw[h4,hn];show st
  show rT st h1 h3 (!0) λh' st' A=>?_;let B:Inv X pins σ H { s with heap:=h' }:=I.turned (t':=s.toks) (λb o f e=>(A.2 b f).trans e) l m p q r;rw[h4,hn]at st';let(o',e,c,d):=id st';show(_,rfl,y8 (s:={ s with heap:=h' }) e c d (!2) (.ref (es[i]'(!0)).2.1,H,B,h5 i (!0) (!0),(rfl,λt u=>?_),st',λb f=>(g b f).1))
  cbv;let(F,G,o',ds',g1,g2,g3,J,C):=gv I u;rw[h1]at g1;cases g1;rw[h3]at g3;injection g3 with g3 g6;subst g3;let:=C i (!0) (!0);rw[h5 i (!0) (!0)]at this;injection this with this
  w_up;rw[KM,Kk (by lia:i< -t),Nl,this]
 done:=by
  intro X hP hw hK hc i pins s σ H E I g st hg
  cbv;subst hP hw hK;let(hi,es,j,hn):=hg;let(z,y,o,ds,h1,h2,h3,h4,h5):=gv I j;let(l,m,x,p,q,r):=g it (!1)
  w_up;let st:s.heap.IsKeyIter it a i ds.size (-es):=by rw[h4,hn];show st
  show sM (I.ok.hd hc) st h1 h3 (!0) λh' D=>(rfl,I.turned (t':=s.toks) (λb o f e=>D b o f e) l m p q r)
 self:=λY Y Y Y Y st h=>wpAny_pyIter_keyiter st h
def IG(tl:TE):TI:=λσ H R=>tl σ H λx H1=>∃(a:ac) (es:Oo),x=.ref a/\H1 a=OV (.ext (bf a es))/\R (Itd a (-es)) H1
def Ad(f:PE X l tl):PI X tg l (IG tl):=by
 intro pins s σ H R I h;show thn (f pins s σ H _ I h) λv s1 d=>?_
 cbv;let(x,H1,c,g,q1):=d;let(a,es,e,i,q):=q1;subst e;cases g;let(z,y,o,ds,h1,h2,h3,h4,h5):=gv c i
 w_up;show nO y h1 h2 h3 ?_;rw[h4];show((~~~s1),[(~~~s1)],_,_,H1,rfl,c.kept (t':=s1.toks) λb o e=>Kq _ e,xS a _ (-es),(_,KF _ rfl,rfl,rfl),λb j=>?_,q);let e:b=(~~~s1):=by simpa using j
 subst e;show c.fpOk (Kz _) (c.hok.fresh (Kz _))
end
section
variable{X:Cx}{K:bg}{tg e:ba}{te:DE}{kvs:Ou}
def mn(b:Rel K M P H0 σ0 σ env (ts++[(.ref a,.fr (br kvs))]) H) :
  ∃es:Oo,H a=OV (.ext (bf a es))/\DNs K (Nw M (aK σ env (ts++[(.ref a,.fr (br kvs))]))) H (es.map λp=>V.ref p.2.1) (kvs.map λp=>aN p.1)/\es.length=-kvs:=by
 cbv;let(v,e,dn):=b.e.fr _ _ (fF (Kl _ (Kj.mpr rfl)));cases e;let(f,es,e,c,hk,_,d):=dn.dct_of rfl;cases e
 w_up;show(es,c,hk,by simpa using congrArg eH d)
def yY:k7 K (Itd a (-kvs)) [(.ref a,.fr (br kvs))] (kvs.map λp=>aN p.1) where
 go := λb i hi=>by
  let(es,c,hk,d):=mn b;rw[Ki]at hi;show(hi,es,c,d)
 yld:=λb i x H' hi y=>by
  cbv;let(es,c,hk,d):=mn b;let(e,y):=y;subst e;let(g,f,dn):=hk.item hi;rw[y es c]at f;cases f
  w_up;show(bh.refl _,dn)
 stop:=λb=>by
  let(es,c,hk,d):=mn b;show(Ki ..,es,c,d)
 nv := yA
def C1(te:DE):DI:=λenv RR=>te env λs a=>∃kvs,aM a s=OV (br kvs)/\RR (kvs.map λp=>aN p.1) a
def kJ(h:PE X e (up K te))(hK:X.K=K:=by rfl):PI X tg e (upI K (C1 te)):=(Ad h).imp λσ H R h=>by
 let(M,P,H0,σ0,env,ts,RR,c,ht,f):=h;show(M,P,H0,σ0,env,ts,_,c,ht,λs1 d v1 H1 h1 b=>?_);let(kvs,k,hR):=h1;let dn:=b.kept (v:=v1) (s:=s1) (!1) k;let(a,es,rfl,g,hk,_,i):=dn.dct_of rfl;show(a,es,rfl,g,?_);rw[show -es=-kvs by simpa using congrArg eH i];show f _ _ _ _ _ hR (b.drop.addFr dn) yY
def Cv:GB:=λds R=>∃kvs:Ou,ds=[br kvs]/\R (.int (-kvs))
def v8:kg K (λxs H Q=>∃p es,xs=[.ref p]/\H p=OV (.ext (bf p es))/\Q (.int (-es)) H) Cv:=by
 rintro N H xs ds R Q w ⟨kvs,rfl,hR⟩ b;cases w with
 |cons c d =>
  cbv;cases d;let(a,es,rfl,e,_,_,f):=c.dct_of rfl
  w_up;show(a,es,rfl,e,?_);rw[show -es=-kvs by simpa using congrArg eH f];show b _ _ hR (.int _)
end
section
def AX(h1:Ev te env s)(e1:aV env s=OV (.bool k))(h:RT k env):qr te env RT:=h1 _ (k,e1,h)
def xP(h1:Ev te env s)(e1:aV env s=OV d)(e2:zN d=OV k)(h:RT k env):sP te env RT:=h1 _ (d,k,e1,e2,h)
def wK(a:env[i]?=OV (.tr S (.list ds)))(e1:ds=eC wD (W++[w])):EvT (mo i) env (!w.isEmpty):=λY h=>(S,W,w,a.trans (congrArg (λy=>OV (Sl.tr S (dt y))) e1),h)
def zj(a:env[i]?=OV (.tr S (.list ds)))(e1:ds=eC wD (W++[r::w])):Ev (sR i) env (.fr (.list (r.map .int))):=λY h=>(S,W,r,w,a.trans (congrArg (λy=>OV (Sl.tr S (dt y))) e1),h)
def w_popL(a:env[i]?=OV (.tr S (.list ds)))(e1:ds=eC wD (W++[w]))(h:∀S',R .un (env.set i (.tr S' (gA W)))):zt i env R:=(S,W,w,a.trans (congrArg (λy=>OV (Sl.tr S (dt y))) e1),h)
def A0{c:Bool}{A d B e:Prop}(a:d->A)(b:e->B)(h:if c=OX then d else e):if c=OX then A else B:=uC (p:=c=OX) (by cases c <;> rfl) a b h
def AZ{c:Bool}{A d B e:Prop}(a:d->A)(b:e->B)(h:if c=OY then d else e):if (!c)=OX then A else B:=uC (p:=c=OY) (by cases c <;> rfl) a b h
def JG(h1:Ev (dOp g ta tb) env s)(h:R s env):dOp g ta tb env R:=h1 _ h
def Gu(h1:Ev (Dp tl) env s)(h:R s env):Dp tl env R:=h1 _ h
def Gv(h1:Ev (zv i) env s)(h:R s env):zv i env R:=h1 _ h
end
abbrev k8(h:bb)(z TI TO:ac)(a b:ao):Prop :=
 h.get? z=OV { cls:=.type "zip",dict:=OW,data:=.fields #[a,b,.bool OY,.ref TI,.ref TO],slots:=#[] }
section
def qF{z TI TO a:ac}{f:Bool}{e:Obj}{Q:Bool->az->Prop}(hz:k8 s.heap z TI TO (Qt a) (.bool f))(g:s.heap.get? a=some e)
  (h : ∀h₁,k8 h₁ z TI TO (Qt a) (.bool true)->gk z s.heap h₁->Q false { s with heap:=h₁ }):j4 (kq prog w) A (gh (.ref z)) Q E s:=by
 unfold gh;show jj (Qw hz rfl (x:=Qt a) rfl ?_);show j4 _ _ (loadIfAlive ((a:Int).toNat) >>= _) _ _ _;rw[K2];show jj (kdx_alive g ?_);simp only[Option.isNone_some,KW,if_false];show jj (Qw hz rfl (x:=.bool f) rfl ?_);cases f with
 |true =>
  rw[N7 (show ¬((hU OX != hU OX)=OX) from KH)];show js (h _ hz (Heap.SameBut.refl _ _))
 |false =>
  rw[N6 (show(hU OY != hU OX)=OX from rfl)];show jj (wpAny_setField_rec hz (!1) λd b c=>js (h d b c))
def mJ{z TI TO i1 i2 l1 l2 a:ac}{f:Bool}{r:Obj}{l k2:Nat}{xs ys:OF}{x y:ao}{Q:ao->az->Prop}(D:Zb z TI TO i1 i2 l1 l2)
  (hz:k8 s.heap z TI TO (Qt a) (.bool f)) (t:s.heap.get? a=some r) (m:ZM s.heap TI (.ref i1) (.ref i2))
  (h1:s.heap.IsListIter i1 l1 l) (h2:s.heap.IsListIter i2 l2 k2) (n:s.heap.IsList l1 xs) (p:s.heap.IsList l2 ys) (hx:xs[l]?=some x) (u:ys[k2]?=some y)
  (hQ:∀h',k8 h' z TI TO (Qt a) (.bool true)->h'.IsListIter i1 l1 (l+1)->h'.IsListIter i2 l2 (k2+1)->ZM h' s.heap.objs.size x y->h'.objs.size=s.heap.objs.size+1 ->
   (∀c o,c≠z->c≠i1->c≠i2->s.heap.get? c=some o->h'.get? c=some o)->Q (.ref s.heap.objs.size) { s with heap:=h' }) :
  j4 (kq prog w) A (Builtin.«zip.__next__» ([.ref z],[])) (λfin s'=>∃v,fin=.done (.ret v)/\Q v s') E s:=by
 show j4 _ _ (Yc (.ref z) 2 >>= _) _ _ _;show jj (Qw hz rfl (x:=.bool OY) rfl ?_);show j4 _ _ (Yc (.ref z) 3 >>= _) _ _ _;show jj (Qw hz rfl (x:=.ref TI) rfl ?_);show jj (QB m rfl ?_);show j4 _ _ (gh (.ref z) >>= _) _ _ _;show jj (qF hz t λh₁ i b=>?_);simp only[KW,if_false];show jj ?_;rw[<-ms];simp only[Mb,L4];show jj (jj (q4 ?_));show j4 _ _ (eg (.ref i1) >>= _) _ _ _;show jj (QM (h1.extBut b.extBut D.i1z) (n.extBut b.extBut D.l1z) hx λq j d=>js ?_);dsimp only;show js ?_;dsimp only;show jj (jj (q4 ?_));show j4 _ _ (eg (.ref i2) >>= _) _ _ _;show jj (QM ((h2.extBut b.extBut D.i2z).extBut d.extBut D.i12.symm) ((p.extBut b.extBut D.l2z).extBut d.extBut D.l2i1) u λg k h=>js ?_);dsimp only;show js (js ?_);dsimp only;let hsz:g.objs.size=(~~~s):=by rw[h.1,d.1,b.1]
 show jj (ZU ?_ (by simp[zg]));show js (_,rfl,?_);let up:∀c o,g.get? c=OV o->(g.push { cls:=.type "tuple",data:=.seq #[x,y] }).get? c=OV o:=λc o e=>Kq _ e;let B:∀{c o},g.get? c=OV o->c<g.objs.size:=λe=>KB e;let key:=hQ (g.push { cls:=.type "tuple",data:=.seq #[x,y] }) (up _ _ (h.extBut _ _ D.i2z.symm (d.extBut _ _ D.i1z.symm i))) ((j.extBut h.extBut D.i12).at λo e=>up _ o e) (k.at λo e=>up _ o e) (by rw[<-hsz];show KF _ rfl) (by rw[LK,hsz])
  λc o c1 C F e=>up c o (h.extBut _ _ F (d.extBut _ _ C (b.extBut _ _ c1 e)))
 show Q (.ref g.objs.size) _;rw[hsz];show key
def oV{z TI TO i1 i2 l1 l2 a:ac}{f:Bool}{y:Obj}{m k2:Nat}{xs ys:OF}{Q:Fin->az->Prop}(v:A.handled=none)(D:Zb z TI TO i1 i2 l1 l2)
  (hz:k8 s.heap z TI TO (Qt a) (.bool f)) (B:s.heap.get? a=some y) (n:ZM s.heap TI (.ref i1) (.ref i2))
  (h1:s.heap.IsListIter i1 l1 m) (h2:s.heap.IsListIter i2 l2 k2) (j:s.heap.IsList l1 xs) (p:s.heap.IsList l2 ys) (k:xs[m]?=none\/ys[k2]?=none)
  (hE:∀h' e,(∀c o,c≠z->c≠i1->c≠i2->s.heap.get? c=some o->h'.get? c=some o)->(∃o,h'.get? e=some o/\o.cls=.type "StopIteration")->E (.ref e) { s with heap:=h' }) :
  j4 (kq prog w) A (Builtin.«zip.__next__» ([.ref z],[])) Q E s:=by
 show j4 _ _ (Yc (.ref z) 2 >>= _) _ _ _;show jj (Qw hz rfl (x:=.bool OY) rfl ?_);show j4 _ _ (Yc (.ref z) 3 >>= _) _ _ _;show jj (Qw hz rfl (x:=.ref TI) rfl ?_);show jj (QB n rfl ?_);show j4 _ _ (gh (.ref z) >>= _) _ _ _;show jj (qF hz B λh₁ q b=>?_);simp only[KW,if_false];show jj ?_;rw[<-ms];simp only[Mb,L4];show jj (jj (q4 ?_));show j4 _ _ (eg (.ref i1) >>= _) _ _ _;cases hx:xs[m]? with
 |none =>
  show jj (Zk v (h1.extBut b.extBut D.i1z) (j.extBut b.extBut D.l1z) hx λg e d r=>?_);show hE g e (λc o c1 t Y x=>d _ _ t (b.extBut _ _ c1 x)) r
 |some x =>
  let C:ys[k2]?=OW:=by rcases k with h|h;rw[hx]at h;cases h;show h
  show jj (QM (h1.extBut b.extBut D.i1z) (j.extBut b.extBut D.l1z) hx λg u d=>js ?_);dsimp only;show js ?_;dsimp only;show jj (jj (q4 ?_));show j4 _ _ (eg (.ref i2) >>= _) _ _ _;show jj (Zk v ((h2.extBut b.extBut D.i2z).extBut d.extBut D.i12.symm) ((p.extBut b.extBut D.l2z).extBut d.extBut D.l2i1) C λl e i r=>?_);show hE l e (λc o c1 t F x=>i _ _ F (d.extBut _ _ t (b.extBut _ _ c1 x))) r
def ZSt(h:bb)(z TI TO i1 i2 l1 l2:ac)(xs ys:OF)(i:Nat):Prop :=
 ZM h TI (.ref i1) (.ref i2)/\h.IsListIter i1 l1 i/\h.IsListIter i2 l2 i/\h.IsList l1 xs/\h.IsList l2 ys/\((i=0/\IsZip h z TI TO .none/\∃a b,ZM h TO a b)\/∃(a:ac) (f:Bool) (c:Obj),k8 h z TI TO (Qt a) (.bool f)/\h.get? a=OV c/\c.cls=.type "tuple" /\ a≠z/\a≠i1/\a≠i2)
def ZSt.keep{h h':bb}{z TI TO i1 i2 l1 l2 S:ac}{r:Obj}{xs ys:OF}{i:Nat}(x:ZSt h z TI TO i1 i2 l1 l2 xs ys i)(t:h.get? S=OV r)(hc:r.cls=.type "list")(u:l1≠S)(v:l2≠S)
  (k : ∀b o,b≠S->h.get? b=OV o->h'.get? b=OV o):ZSt h' z TI TO i1 i2 l1 l2 xs ys i:=by
 let ne:∀b o,h.get? b=OV o->o.cls≠.type "list" -> b≠S:=λb o e c q=>c (by subst q;rw[t]at e;cases e;show hc);let(g,h1,h2,m,n,hz):=x;show(k _ _ (ne _ _ g (!1)) g,?_,?_,m.at λo e=>k _ o u e,n.at λo e=>k _ o v e,?_);let(o,e,c,d):=id h1;show h1.at λo' p=>k _ o' (ne _ _ e (by rw[c];simp)) p;let(o,e,c,d):=id h2;show h2.at λo' p=>k _ o' (ne _ _ e (by rw[c];simp)) p;rcases hz with⟨e,hz,a,b,j⟩|⟨a,f,w,hz,s,l,q1,q2,y⟩
 show .inl (e,k _ _ (ne _ _ hz (!1)) hz,a,b,k _ _ (ne _ _ j (!1)) j);show .inr (a,f,w,k _ _ (ne _ _ hz (!1)) hz,k _ _ (ne _ _ s (by rw[l];simp)) s,l,q1,q2,y)
def Dv{z TI TO i1 i2 l1 l2:ac}{i:Nat}{xs ys:OF}{x y:ao}{Q:OB->az->Prop}(D:Zb z TI TO i1 i2 l1 l2)(k:ZSt s.heap z TI TO i1 i2 l1 l2 xs ys i)(hx:xs[i]?=some x)(r:ys[i]?=some y)
  (hQ:∀h',ZSt h' z TI TO i1 i2 l1 l2 xs ys (i+1)->ZM h' s.heap.objs.size x y->h'.objs.size=s.heap.objs.size+1 ->
   (∀c o,c≠z->c≠TO->c≠i1->c≠i2->s.heap.get? c=some o->h'.get? c=some o)->Q (some (.ref s.heap.objs.size)) { s with heap:=h' }) :
  j4 (kq prog w) A (Q3 (.ref z)) Q E s:=by
 let(d,h1,h2,g,h,hz):=k;rcases hz with⟨rfl,hz,a,b,l⟩|⟨a,f,t,hz,u,m,v,a1,a2⟩
 show wpAny_pyNext_zip_item D hz d l h1 h2 g h hx r λh' c1 c2 n p j q hk=>?_;let lt:∀{c o},s.heap.get? c=OV o->(~~~s)≠c:=λe=>Lh (KB e);show hQ h' (hk _ _ D.TIz D.TITO D.TIi1 D.TIi2 d,n,p,g.at λo e=>hk _ o D.l1z D.l1TO D.l1i1 D.l1i2 e,h.at λo e=>hk _ o D.l2z D.l2TO D.l2i1 D.l2i2 e,
  .inr (_,OY,_,c1,j,rfl,lt hz,(by let(_,e,_):=h1;show lt e),(by let(_,e,_):=h2;show lt e))) j q hk
 let hT:s.TypeIs (.ref z) "zip" := (_,hz,rfl)
 unfold Q3;show jj (QW (K0 (name:=fI "__next__") hT F.slot_zip_next
  (Qb F.slot_zip_next hT F.entry_zip_next (mJ D hz u d h1 h2 g h hx r λh' c1 n p j q hk=>js ?_) (F.args_zip_next_1 _))))
 show hQ h' (hk _ _ D.TIz D.TIi1 D.TIi2 d,n,p,g.at λo e=>hk _ o D.l1z D.l1i1 D.l1i2 e,h.at λo e=>hk _ o D.l2z D.l2i1 D.l2i2 e,
  .inr (a,OX,t,c1,hk a t v a1 a2 u,m,v,a1,a2)) j q λc o d1 Y B C e=>hk c o d1 B C e
def Dw{z TI TO i1 i2 l1 l2:ac}{i:Nat}{xs ys:OF}{Q:OB->az->Prop}(m:A.handled=none)(D:Zb z TI TO i1 i2 l1 l2)(k:ZSt s.heap z TI TO i1 i2 l1 l2 xs ys i)(d:xs[i]?=none\/ys[i]?=none)
  (hQ:∀h',(∀c o,c≠z->c≠TO->c≠i1->c≠i2->s.heap.get? c=some o->h'.get? c=some o)->Q none { s with heap:=h' }):j4 (kq prog w) A (Q3 (.ref z)) Q E s:=by
 let(g,h1,h2,h,j,hz):=k;rcases hz with⟨rfl,hz,a,b,l⟩|⟨a,f,u,hz,n,p,v,a1,a2⟩
 show wpAny_pyNext_zip_end m D hz g l h1 h2 h j d hQ;let hT:s.TypeIs (.ref z) "zip" := (_,hz,rfl)
 unfold Q3;show jj (QW (K0 (name:=fI "__next__") hT F.slot_zip_next
  (Qb F.slot_zip_next hT F.entry_zip_next (oV m D hz n g h1 h2 h j d λh' e hk q=>?_) (F.args_zip_next_1 _))))
 let(o,ho,hc):=q;show jj (QE (T := "StopIteration") (b:=OX) (o,ho,hc) isSubtype_stop ?_);show js (hQ _ λc o d1 Y r t e=>hk c o d1 r t e)
end
section
variable{prog:k5}{w:q3}{A:Around}{s:az}{R:Z5->az->Prop}{z TI TO i1 i2 l1 l2:ac}{xs ys:OF}
structure ZG(xs ys:OF)(lo:ac)(h:bb)(as:OO):Prop where
 nd : as.Nodup
 above:∀a∈as,lo<=a
 pairs:∀(j:Nat) (a:ac),as[j]?=some a->∃x y,xs[j]?=some x/\ys[j]?=some y/\ZM h a x y
def Du{S lo:ac}{n:Nat}(W:A.handled=none)(D:Zb z TI TO i1 i2 l1 l2)(hn:n=min xs.size ys.size)(X:n<=sizeLine)(Y:l1≠S)(Z:l2≠S)(zl:z<lo)(tl:TO<lo)(il:i1<lo)(jl:i2<lo)(sl:S<lo)(d:S≠z/\S≠TO/\S≠i1/\S≠i2)(res:ao){h₁:bb}
  (hR:∀h' tk f c as,(∀b o,b≠S->b≠z->b≠TO->b≠i1->b≠i2->h₁.get? b=some o->h'.get? b=some o)->h'.get? S=some { cls:=.type "list",dict:=none,data:=.seq f c,slots:=#[] }->as.length=n->ZG xs ys lo h' as ->
   f.toList=as.map cu->R (.ok (.ret res)) { s with heap:=h',toks:=tk }) :
  ∀(k i:Nat) (h:bb) (tk c:Nat) (f:OF) (as:OO),n-i=k->i<=n->ZSt h z TI TO i1 i2 l1 l2 xs ys i->(∀b o,b≠S->b≠z->b≠TO->b≠i1->b≠i2->h₁.get? b=some o->h.get? b=some o) ->
   h.get? S=some { cls:=.type "list",dict:=none,data:=.seq f c,slots:=#[] }->f.toList=as.map cu->as.length=i->ZG xs ys lo h as->lo<=h.objs.size ->
   Qx (kq prog w) A (.builtin "list.extend.loop" ([.ref S,.ref z,res],[])) R { s with heap:=h,toks:=tk }:=by
 intro k;let E:∀b,lo<=b->b≠z/\b≠TO/\b≠i1/\b≠i2/\b≠S:=λb m =>
  (Lh (Ku zl m),Lh (Ku tl m),Lh (Ku il m),Lh (Ku jl m),Lh (Ku sl m))
 induction k with
 |zero =>
  intro i h tk c f as hk hi t g P l p hG u;let a3:i=n:=!0
  show Qr y2 ?_;rw[Around.under_plainId nT _];show j4 _ A.in1 (Q3 (.ref z) >>= _) _ _ _;let G:xs[i]?=OW\/ys[i]?=OW:=by rcases Nat.le_total xs.size ys.size with q|q;show .inl (pw (!0));show .inr (pw (!0))
  show jj (Dw (s:={ s with heap:=h,toks:=tk }) (A:=A.in1) W D t G λh' Q=>?_);show js (hR h' tk f c as (λb o b1 H I J K e=>Q b o H I J K (g b o b1 H I J K e)) (Q S _ d.1 d.2.1 d.2.2.1 d.2.2.2 P) (!0) (hG.nd,hG.above,λj a hj=>?_) l);let(x,y,e1,e2,e3):=hG.pairs j a hj;let(q1,q2,T,U,_):=E a (hG.above a (Lu hj));show(x,y,e1,e2,Q a _ q1 q2 T U e3)
 |succ k ih =>
  intro i h tk c f as hk hi t g P l p hG u;let V:i<n:=!0
  let L:i<xs.size:=!0
  let M:i<ys.size:=!0
  let hsz:f.size=i:=by rw[<-lu,l,Ki,p]
  show Qr y2 ?_;rw[Around.under_plainId nT _];show j4 _ A.in1 (Q3 (.ref z) >>= _) _ _ _;show jj (Dv (s:={ s with heap:=h,toks:=tk }) D t (gf L) (gf M) λh' N ht hz r=>?_);dsimp only at ht hz r ⊢;let v:=r S _ d.1 d.2.1 d.2.2.1 d.2.2.2 P;let up:∀b o,b≠S->h'.get? b=OV o->(h'.update S (eb (·.push (cu h.objs.size)))).get? b=OV o:=λb o m e=>(K6 _ _ (Ne.symm m)).trans e;let O:h.objs.size≠S:=Lh (KB P);show j4 _ A.in1 (Zs S (·.push (cu h.objs.size)) >>= _) _ _ _;show jj ?_;show QI v rfl (js (Qu nT _,ih (i+1) _ tk _ (f.push (cu h.objs.size)) (as++[h.objs.size]) (!0) V (N.keep v rfl Y Z up)
   (λb o b1 H I J K e=>up b o b1 (r b o H I J K (g b o b1 H I J K e))) (K9 _ v rfl) (by rw[oj,l,KC];rfl) (by rw[KD,p];rfl) (?_,?_,?_) ?_)) (by rw[hsz];lia) (by show(f.push (cu h.objs.size)).size<=sizeLine+1;rw[NE,hsz];lia)
  show Ky.mpr (hG.nd,!1,λa B b m=>?_);rw[Kj.mp m];let(j,hj):=Mj.mp B;let(_,_,_,_,e):=hG.pairs j a hj;show KO (KB e);intro a B;rcases Km.mp B with B|B;show hG.above a B;rw[Kj.mp B];show u;intro j b hj;rcases Nat.lt_trichotomy j (-as) with q|q|q;rw[Lk q]at hj;let(x,y,e1,e2,e3):=hG.pairs j b hj;let(q1,q2,T,U,q5):=E b (hG.above b (Lu hj));show(x,y,e1,e2,up b _ q5 (r b _ q1 q2 T U e3));subst q;let m:h.objs.size=b:=by simpa using hj
  subst m;show(_,_,by rw[p];show gf L,by rw[p];show gf M,up _ _ O ht);let C:(as++[h.objs.size])[j]?=OW:=Le (by rw[KD,K5];lia);rw[C]at hj;cases hj;let e:(h'.update S (eb (·.push (cu h.objs.size)))).get? h.objs.size=_:=up _ _ O ht;show Kr u (LP (KB e))
def tF:ZW (.type "zip") "__len__" = pure OW:=by rw[typeLookup_type,builtinLookup_eq_fast];kernel_rfl
def oU:ZW (.type "zip") "__length_hint__" = pure OW:=by rw[typeLookup_type,builtinLookup_eq_fast];kernel_rfl
def xO(u:A.handled=none)(D:Zb z TI TO i1 i2 l1 l2)(h:ZSt s.heap z TI TO i1 i2 l1 l2 xs ys 0)(hz:IsZip s.heap z TI TO .none)(p:min xs.size ys.size<=sizeLine)(q:l1≠S)(r:l2≠S)(tl:TO<s.heap.objs.size)(g:S≠z/\S≠TO/\S≠i1/\S≠i2)(res:ao)
  (n:s.heap.get? S=some { cls:=.type "list",data:=.seq #[] k })
  (hR:∀h' tk l c as,(∀b o,b≠S->b≠z->b≠TO->b≠i1->b≠i2->s.heap.get? b=some o->h'.get? b=some o)->h'.get? S=some { cls:=.type "list",dict:=none,data:=.seq l c,slots:=#[] }->as.length=min xs.size ys.size->ZG xs ys s.heap.objs.size h' as ->
   l.toList=as.map cu->R (.ok (.ret res)) { s with heap:=h',toks:=tk }) :
  j4 (kq prog w) A.in1 (eA (.ref S) (.ref z) res)
   (λfin s'=>match fin with|.done f=>R (.ok f) s'|.again c'=>c'.quiet=true/\Qx (kq prog w) A c' R s') (λe s'=>R (.error e) s') s:=by
 let hT:s.TypeIs (.ref z) "zip" := (_,hz,rfl)
 unfold eA;show jj (Zc hT ?_);let e1:hI (.ref S) (.ref z)=OY:=by simp[hI,g.1]
 let e2:(gs "zip" == gs "list")=OY:=!2
 let e3:(gs "zip" == gs "tuple")=OY:=!2
 simp only[e1,e2,e3,NX,KW,if_false];show jj (wpAny_pyIter_zip hz ?_);show jj (q4 ?_);unfold nf;show jj (Qn hT tF ?_);show j4 _ A.in1 (specialOf (cu z) (fI "__length_hint__") >>= _) _ _ _;show jj (Qn hT oU ?_);show js ?_;show j4 _ A.in1 (rule "list.extend.makes-room" >>= λY=>Builtin.List.listTouch (.ref S) >>= λY =>
  again (.builtin "list.extend.loop" ([.ref S,.ref z,res],[]))) _ _ _
 show jj (Qa ?_);show jj ?_;show j4 _ A.in1 (Zs S (·.push .none) >>= λY=>Zs S (·.pop)) _ _ _;show jj (QI n rfl ?_);let d:=K9 (eb (·.push du)) n rfl;show QI (hz:=by seq_fits) d rfl ?_;let i:=K9 (eb (·.pop)) d rfl;let m:∀b o,b≠S->s.heap.get? b=OV o->((s.heap.update S (eb (·.push du))).update S (eb (·.pop))).get? b=OV o :=
  λb o t e=>(K6 _ _ (Ne.symm t)).trans ((K6 _ _ (Ne.symm t)).trans e)
 let hsz:((s.heap.update S (eb (·.push du))).update S (eb (·.pop))).objs.size=(~~~s):=by rw[Mq,Mq]
 let(B,v,_):=id h.2.1;let(C,x,_):=id h.2.2.1;show js (Qu F.plain_extend_loop _,Du (lo:=(~~~s)) (h₁:=s.heap) u D rfl p q r (KB hz) tl (KB v) (KB x) (KB n) g res hR _ 0 _ s.toks _ #[] [] rfl (KG _) (h.keep n rfl q r m) (λb o b1 Y Y Y Y e=>m b o b1 e) i rfl rfl (LA,(λa y=>by cases y),λj a hj=>by simp at hj) (by rw[hsz];show Kz _))
end
section
variable{prog:k5}{w:q3}{A:Around}{E:ao->az->Prop}{s:az}{z TI TO i1 i2 l1 l2:ac}{xs ys:OF}
def my(B:A.handled=none)(D:Zb z TI TO i1 i2 l1 l2)(t:ZSt s.heap z TI TO i1 i2 l1 l2 xs ys 0)(hz:IsZip s.heap z TI TO .none)(u:min xs.size ys.size<=sizeLine)(tl:TO<s.heap.objs.size)
  (hQ:∀h' tk g c as,(∀b o,b≠z->b≠TO->b≠i1->b≠i2->s.heap.get? b=some o->h'.get? b=some o)->h'.get? s.heap.objs.size=some { cls:=.type "list",dict:=none,data:=.seq g c,slots:=#[] }->as.length=min xs.size ys.size ->
   ZG xs ys (s.heap.objs.size+1) h' as->g.toList=as.map cu->Q (.ref s.heap.objs.size) { s with heap:=h',toks:=tk }) :
  j4 (kq prog w) A (call (.type "list") [.ref z]) Q E s:=by
 show callType_codes (Q₁:=λobj h=>obj=.ref (~~~s)/\h={ s with heap:=s.heap.push { cls:=.type "list",data:=.seq #[] } }) F.called_list (F.typeCall_list_1 _) F.entry_list_init
  (code_list_new _ (rfl,rfl)) λobj h h₁=>?_
 let(rfl,rfl):=h₁;let p:(s.heap.push { cls:=.type "list",data:=.seq #[] }).get? (~~~s)=OV { cls:=.type "list",data:=.seq #[] }:=KF _ rfl;show((_,p,rfl),F.args_list_init_2 _ _,?_);show j4 _ _ (do let old <-v2 (.ref (~~~s));Builtin.List.listUpdate (.ref (~~~s)) (λY=>#[]);letGo old.toList.reverse;eA (.ref (~~~s)) (.ref z) .none) _ _ _;show jj ?_;unfold v2;show jj (QB p rfl (js ?_));show j4 _ _ (Zs (~~~s) (λY=>#[]) >>= λY=>letGo (#[]:OF).toList.reverse >>= λY=>eA (.ref (~~~s)) (.ref z) .none) _ _ _;show jj (QI p rfl ?_);let i:=K9 (eb (λY=>(#[]:OF))) p rfl;let d:∀b o,s.heap.get? b=OV o->((s.heap.push { cls:=.type "list",data:=.seq #[] }).update (~~~s) (eb (λY=>(#[]:OF)))).get? b=OV o :=
  λb o e=>(K6 _ _ (Lh (KB e))).trans (Kq _ e)
 show jj (wpAny_letGo ?_)
 cbv;let(v,h1,h2,k,l,x):=t;let j:∀{b o},s.heap.get? b=OV o->b≠(~~~s):=λe=>KO (KB e);let m:ZSt ((s.heap.push { cls:=.type "list",data:=.seq #[] }).update (~~~s) (eb (λY=>(#[]:OF)))) z TI TO i1 i2 l1 l2 xs ys 0:=by
  show(d _ _ v,h1.at λo e=>d _ o e,h2.at λo e=>d _ o e,k.at λo e=>d _ o e,l.at λo e=>d _ o e,?_);rcases x with⟨e,q,a,b,r⟩|⟨a,f,C,q,r,c,q1⟩
  show .inl (e,d _ _ q,a,b,d _ _ r);show .inr (a,f,C,d _ _ q,d _ _ r,c,q1)
 let hsz:((s.heap.push { cls:=.type "list",data:=.seq #[] }).update (~~~s) (eb (λY=>(#[]:OF)))).objs.size=(~~~s)+1:=by rw[Mq,LK]
 let(P,G,_):=id h1;let(S,H,_):=id h2;let(T,I,_):=id k;let(U,J,_):=id l
 w_up;show xO (R:=wants (λr n=>r=du/\Q (cu (~~~s)) n) E) (A:=A.in1) (s:={ s with heap:=(s.heap.push { cls:=.type "list",data:=.seq #[] }).update (~~~s) (eb (λY=>(#[]:OF))) }) B D m (d _ _ hz) u (j I) (j J) (by show TO<_;rw[hsz];show Mh tl) ((j hz).symm,Lh tl,(j G).symm,(j H).symm) .none i λh' tk g c as hk y K hG L=>?_;dsimp only at hG hk;rw[hsz]at hG;show(rfl,hQ h' tk g c as (λb o b1 M N O e=>hk b o (j e) b1 M N O (d b o e)) y K hG L)
end
section
variable{X:Cx}{pins:Oq}{σ:St}{s:az}
theorem jt:∀(L:List (ac×V×V)) (H:Hp),Inv X pins σ H s->(L.map λt=>t.1).Nodup->(∀t∈L,kj X pins H t.1/\∃x y,bE t.2.1 x/\bE t.2.2 y/\ZM s.heap t.1 x y) ->
  ∃H',Inv X pins σ H' s/\bh H H'/\(∀b,b ∉ L.map (λt=>t.1)->H' b=H b)/\∀t∈L,H' t.1=OV (.tup [t.2.1,t.2.2])
 |[],H,I,_,_=>(H,I,bh.refl H,λY Y=>rfl,λY z=>by cases z)
 |t :: L,H,I,nd,h=>by
  rw[Kw,KY]at nd;let(fp,x,y,e,g,i):=h t Ks;let j:Inv X pins σ (upd H t.1 (.tup [t.2.1,t.2.2])) s:=I.track fp (by rw[zg];simp,[x,y],.cons e (.cons g .nil),(_,i,rfl,(_,rfl),rfl));let k:bh H (upd H t.1 (.tup [t.2.1,t.2.2])):=bh.new fp.1;let(H',l,s2,d,g2):=jt L _ j nd.2 λu a=>by
   let(f,r):=h u (Kv _ a);let ne:u.1≠t.1:=λz=>nd.1 (Ko.mpr (u,a,z));show((by rw[aw ne];show f.1,f.2),r)
  show(H',l,k.trans s2,λb c=>?_,λu a=>?_);rw[Kw,Kt,not_or]at c;rw[d b c.2,aw c.1];rcases Kt.mp a with rfl|a;rw[d _ nd.1];show aC;show g2 u a
theorem mK:∀as:OO,aS (as.map V.ref) (as.map cu)
 |[]=>.nil
 |a::as=>.cons rfl (mK as)
def lg{xs:OU}{us:ON}{j:Nat}{u:ao}{x:V}(h:aS xs us):us[j]?=OV u->xs[j]?=OV x->bE x u:=by
 induction h generalizing j with
 |nil=>exactλe=>by simp at e
 |cons r _ i =>
  cases j with
  |zero =>
   intro e f;simp only[List.getElem?_cons_zero,ML]at e f;subst e;subst f;show r
  |succ j=>rw[List.getElem?_cons_succ,List.getElem?_cons_succ];show i
end
section
def GD(K:bg)(ta:TA):TE:=λσ H Q=>ta σ H λvs H1=>∃l1 l2 xs ys,vs=[.ref l1,.ref l2]/\SqL K H1 l1 xs/\SqL K H1 l2 ys /\
 ∀(H2:Hp) (as:OO),bh H1 H2->-as=(xs.zip ys).length->(∀t∈as.zip (xs.zip ys),H1 t.1=OW/\H2 t.1=OV (.tup [t.2.1,t.2.2]))->∀r,H2 r=OW->Q (.ref r) (upd H2 r (.lst (as.map V.ref)))
end
section
variable{K:bg}{N:ac->Prop}{H1 H2:Hp}
def sN(k:bh H1 H2)(hN:∀a,H1 a=OW->¬N a)(as:OO){xs ys:OU}{d1 d2:OM}(hx:DNs K N H1 xs d1):DNs K N H1 ys d2->-as=(xs.zip ys).length->(∀t∈as.zip (xs.zip ys),H1 t.1=OW/\H2 t.1=OV (.tup [t.2.1,t.2.2])) ->
  DNs K N H2 (as.map V.ref) ((d1.zip d2).map λp=>gr [p.1,p.2]) :=
 DNs.ind (C:=λxs d1=>∀(as:OO) (ys:OU) (d2:OM),DNs K N H1 ys d2->-as=(xs.zip ys).length->(∀t∈as.zip (xs.zip ys),H1 t.1=OW/\H2 t.1=OV (.tup [t.2.1,t.2.2]))->DNs K N H2 (as.map V.ref) ((d1.zip d2).map λp=>gr [p.1,p.2])) (λas Y Y Y e Y=>by
  cases as with
  |nil=>show .nil
  |cons=>simp at e) (λu Y i as ys d2 q e h=>by
  cases q with
  |nil =>
   cases as with
   |nil=>show .nil
   |cons=>simp at e
  |cons w ws =>
   cases as with
   |nil=>simp at e
   |cons a as =>
    simp only[LC,K4,Nat.add_right_cancel_iff]at e;simp only[LC,Kw];let(h1,h2):=h (a,_,_) (by rw[LC,LC];show Ks);show .cons (.tup (SnT.of h2 (hN a h1)) (.cons (u.keep (bd.same k)) (.cons (w.keep (bd.same k)) .nil))) (i as _ _ ws e λt ht=>h t ?_);rw[LC,LC];show Kv _ ht) hx as ys d2
end
section
def C0(t:DA):DE:=λenv R=>t env λss a=>∃s1 s2 d1 d2,ss=[s1,s2]/\aV a s1=OV (.list d1)/\aV a s2=OV (.list d2)/\R (.ow ((d1.zip d2).map λp=>gr [p.1,p.2])) a
end
def vK(h:Pairs (Qf p w) es kvs):Pairs (Qf p' w') es kvs:=by
 induction h with
 |nil=>show .nil
 |cons h1 h2 _ a=>show .cons h1 h2 a
def iB{h:bb}(x:h.DictOf (Qf p w) a kvs):h.DictOf (Qf p' w') a kvs:=by let(o,es,ep,h1,h2,h3,h4,h5,h6):=x;show(o,es,ep,h1,h2,h3,h4,vK h5,h6)
abbrev PrI:Ow->List (Int×ao)->Prop:=Paired (λ(p:Int×V) (q:Int×ao)=>p.1=q.1/\bE p.2 q.2)
section
variable{X:Cx}{pins:Oq}{σ:St}{H:Hp}{s:az}{a:ac}{k:Int}
def gp(I:Inv X pins σ H s)(b:H a=OV (.ext (be a es))):-es<=sizeLine/\(a==Qd)=OY/\∃xs,PrI es xs/\s.heap.DictOf (Qf X.prog X.w) a xs:=by let((z,y,xs,r,h),_):=I.hok a _ b;show(z,y,xs,r,h _ _)
def Dc{es:Ow}{xs:List (Int×ao)}{kvs:Os}{K:bg}(k:Int)(r:PrI es xs):es.map (λp=>p.1)=kvs.map (λp=>p.1)->DVs K H (es.map λp=>p.2) (kvs.map λp=>p.2) ->
  (aJ kvs k=OW/\QO xs k=OW)\/∃(i:Nat) (d:ab) (v:V) (u:ao),aJ kvs k=OV d/\QO xs k=OV u/\(es.map λp=>p.2)[i]?=OV v/\(kvs.map λp=>p.2)[i]?=OV d/\bE v u:=by
 induction r generalizing kvs with
 |nil =>
  intro e _;cases kvs with
  |nil=>show .inl (rfl,rfl)
  |cons kv kvs=>simp at e
 |@cons p q es xs r t b =>
  intro e h;cases kvs with
  |nil=>simp at e
  |cons kv kvs =>
   rw[Kw,Kw]at e h;injection e with e1 e2;cases h with
   |cons h1 h2 =>
    by_cases hk:kv.1=k;let a:q.1=k:=by rw[<-r.1,e1,hk]
    show .inr (0,kv.2,p.2,q.2,by rw[aq,N6 hk],?_,rfl,rfl,r.2);simp[QO,Lc,a];let a:¬q.1=k:=λz=>hk (by rw[<-e1,r.1,z]);let c:aJ (kv::kvs) k=aJ kvs k:=by rw[aq,N7 hk]
    let f:QO (q::xs) k=QO xs k:=by simp[QO,Lc,a]
    rw[c,f];rcases b e2 h2 with z|⟨i,d,v,u,z1,z2,z3,g,j⟩
    show .inl z;show .inr (i+1,d,v,u,z1,z2,by simpa using z3,by simpa using g,j)
end
section
variable{X:Cx}
def D4(K:bg):R2:=λx y H Q=>∃(k:Int) (a:ac) (es:Ow) (kvs:Os),x=.ref a/\y=.int k/\H a=OV (.ext (be a es))/\DVs K H (es.map λp=>p.2) (kvs.map λp=>p.2) /\
 es.map (λp=>p.1)=kvs.map (λp=>p.1)/\(aJ kvs k).isSome=OX/\∀(i:Nat) v d,aJ kvs k=OV d->(es.map λp=>p.2)[i]?=OV v->(kvs.map λp=>p.2)[i]?=OV d->Q v H
def J3:IxR X (D4 X.K):=by
 intro c slice pins s σ H x y v u Q I j l h hs;let(k,a,es,kvs,rfl,rfl,m,hv,e,b,q):=h;cases (show v=cu a from j);let(t,rfl):=l;let(z,y,xs,r,dd):=gp I m;let g:=dd.mapOf;let hT:=g.typeIs;unfold Q7;show jj ?_;rw[getitemInPython_of_ne hT.not_modules];show jj (Qn hT yn.lookup ?_);let fin:j4 (kq X.prog X.w) X.A (ZN slice OY (.ref a) (.int k t)) (λr f=>j4 (kq X.prog X.w) X.A (letTemporaryGo c (.ref a) r >>= λY=>pure r) (EP X pins σ Q) X.xe f) X.xe s:=by
  rw[hs];rcases Dc k r e hv with⟨z1,_⟩|⟨i,d,v,u,z1,z2,z3,n,o⟩
  rw[z1]at b;cases b;show wpAny_operating (wpAny_getItem_of (knd:=Qf X.prog X.w) (bT k t) g z2 ?_);show jj (wpAny_letTemporaryGo (js (v,H,I.tok _,o,q i v d z1 z3 n)))
 first
  |show js (jj fin)
  |show jj (js (jj fin))
  |show jj fin
theorem jn{κ β:Type} [DecidableEq κ]:∀(es:List (κ×β)) (k:κ),(es.any λp=>decide (p.1=k))=(aJ es k).isSome
 |[],k=>rfl
 |p::es,k=>by
  rw[LV,jn es k,aq];by_cases h:p.1=k <;> simp[h]
def gW{κ β γ:Type} [DecidableEq κ]{es:List (κ×β)}{kvs:List (κ×γ)}(k:κ)(e:es.map (λp=>p.1)=kvs.map (λp=>p.1)):(aJ es k).isSome=(aJ kvs k).isSome:=by
 let h:∀{β:Type} (es:List (κ×β)),(aJ es k).isSome=(es.map λp=>p.1).any λx=>decide (x=k):=λes=>by rw[<-jn,List.any_map];rfl
 rw[h,h,e]
def jI(r:PrI es xs)(k:Int)(rv:bE v u):PrI (c7 es k v) (stored xs k u):=by
 let e:(aJ es k).isSome=(xs.any λkv=>decide (kv.1=k)):=by
  rw[<-jn]
  induction r with
  |nil=>rfl
  |@cons p q ps qs h t a=>rw[LV,LV,a,h.1]
 unfold c7 stored;rw[e];by_cases c:(xs.any λkv=>decide (kv.1=k))=OX;rw[N6 c,N6 c];clear e c
 induction r with
 |nil=>show .nil
 |@cons p q ps qs h t a =>
  rw[Kw,Kw];show .cons ?_ a;by_cases hk:p.1=k;rw[N6 hk,N6 (show q.1=k by rw[<-h.1,hk])];show(h.1,rv);rw[N7 hk,N7 (λz=>hk (by rw[h.1,z]))];show h
 rw[N7 c,N7 c];show Paired.snoc r (rfl,rv)
def GQ:Dh:=λx y v H Q=>∃(k:Int) (a:ac) (es:Ow),x=.ref a/\y=.int k/\H a=OV (.ext (be a es))/\es.length<sizeLine/\Q (upd H a (.ext (be a (c7 es k v))))
def GM:FR X GQ:=by
 intro pins s σ H x y v ov iv u Q I f g rv h;let(k,a,es,rfl,rfl,d,A,q):=h;cases (show ov=cu a from f);let(t,rfl):=g;let(z,y,xs,r,dd):=gp I d;let hz:-xs<=sizeLine:=by rw[<-Paired.length r];show z
 show wpAny_setItem_pairs (hsz:=hz) (knd:=Qf X.prog X.w) (bT k t) dd λh' c hs=>?_;let(o,i,ep,h1,h2):=id c;show(_,?_,q);show I.write (x:=a) (e:=a) (by rw[d];show True.intro) (.inl rfl) (λb q j z=>(hs.2 b j).trans z) (_,h1) ?_;let new:be a (c7 es k v) h':=(by let:=rn es k v;lia,y,_,jI r k rv,λp w=>iB c)
 show(new,(_,h1),λl m hx n=>hx.keep λo e=>n _ e)
def GE:TE:=λY H Q=>∀p,H p=OW->Q (.ref p) (upd H p (.ext (be p [])))
def kW(h:bb)(a:Qd<h.objs.size):fL P w H (h.push { cls:=.type "dict",data:=.dict #[] }) h.objs.size (.ext (be h.objs.size [])):=by let e:=KF (o:=({ cls:=.type "dict",data:=.dict #[] }:Obj)) h rfl;show((KG _,beq_eq_false_iff_ne.mpr (Ne.symm (KO a)),[],.nil,λp w=>(_,#[],0,e,(rfl,rfl,rfl),rfl,λx hx=>by simp at hx,.nil,LA)),(_,e),λh1 h2 hx b=>hx.keep λo e=>b _ e)
def BR:PE X (.Dict [] [] pos) GE:=λpins s σ H Q I h =>
 wpAny_Dict_empty (.ref (~~~s),_,I.laid (a:=(~~~s)) (o:=.ext (be (~~~s) [])) (t':=s.toks) (λY Y q=>Kq _ q) (Kz _) (kW s.heap I.big'),rfl,h _ (I.hok.fresh (Kz _)))
end
theorem jg:∀{kvs kvs':Os},kvs.map (λp=>(Pm (db p.1) p.2))=kvs'.map (λp=>(Pm (db p.1) p.2))->kvs=kvs'
 |[],[],_=>rfl
 |[],_::_,e=>by simp at e
 |_::_,[],e=>by simp at e
 |(Pm k v)::xs,(Pm k' v')::ys,e=>by
  rw[Kw,Kw]at e
  cbv;injection e with e1 e2;injection e1 with e1 e3;injection e1 with e1
  w_up;simp only at e1 e3;rw[e1,e3,jg e2]
section
variable{K:bg}{M P N:ac->Prop}{H0 H:Hp}{σ0 σ:St}{env:OL}{ts:Ox}{v:V}{d:ab}{kvs:Os}
abbrev IDN(K:bg)(N:ac->Prop)(H:Hp)(es:Ow)(kvs:Os):Prop:=DNs K N H (es.map λp=>p.2) (kvs.map λp=>p.2)/\es.map (λp=>p.1)=kvs.map (λp=>p.1)
def qq(e:br kv=dY kvs):False:=sB e.symm
def DN.idc_of(h:DN K N H v d)(e:d=dY kvs):∃a es,v=.ref a/\H a=OV (.ext (be a es))/\IDN K N H es kvs:=by
 cases h with
 |fz _=>simp[fzD,dY]at e
 |dct _ _ _ _ _=>show(qq e).elim
 |@idc a es kvs' n b hv c =>
  cbv;injection e with e;injection e with _ e;let e:=jg e;subst e
  w_up;show(a,es,rfl,b,hv,c)
 |_=>cases e
theorem Vw.idc_of(h:Vw K N H v d)(e:d=dY kvs):∃a es,v=.ref a/\H a=OV (.ext (be a es))/\IDN K N H es kvs:=by
 cases h with
 |dn h=>show h.idc_of e
 |ow h q=>cases e
 |dct _ _ _ _=>show(qq e).elim
 |@idc a es kvs' b hv c =>
  cbv;injection e with e;injection e with _ e;let e:=jg e;subst e
  w_up;show(a,es,rfl,b,hv,c)
def OT.idc_of(h:OT K N H v d S)(e:d=dY kvs):∃a es,v=.ref a/\S=[a]/\H a=OV (.ext (be a es))/\IDN K N H es kvs:=by
 cases h with
 |fz _=>simp[fzD,dY]at e
 |dct _ _ _ _=>show(qq e).elim
 |@idc a es kvs' b hv c =>
  cbv;injection e with e;injection e with _ e;let e:=jg e;subst e
  w_up;show(a,es,rfl,rfl,b,hv,c)
 |_=>cases e
def Gc:G2:=λd e R=>∃(kvs:Os) (k:Int) (x:ab),d=dY kvs/\e=.int k/\aJ kvs k=OV x/\R x
def Dm:cP K (D4 K) Gc:=by
 rintro N H x y d e R Q b c ⟨kvs,k,z,rfl,rfl,hg,hR⟩ f;let(a,es,rfl,g,hv,h):=b.idc_of rfl;show(k,a,es,kvs,rfl,c.int,g,hv.dv,h,by rw[hg];rfl,λi v d hd h1 h2=>?_);rw[hg]at hd
 cbv;cases hd;let(j,e1,dn):=hv.get h1;rw[h2]at e1;cases e1
 w_up;show f _ _ hR dn
def mZ(k:Int)(h2:IDN K N H es kvs)(dn:DN K N H v d):IDN K N H (c7 es k v) (c7 kvs k d):=by
 let(h2,e):=h2;unfold c7;rw[gW k e];by_cases c:(aJ kvs k).isSome=OX;rw[N6 c,N6 c];clear c
 induction es generalizing kvs with
 |nil =>
  cases kvs with
  |nil=>show(.nil,rfl)
  |cons q kvs=>simp at e
 |cons p es b =>
  cases kvs with
  |nil=>simp at e
  |cons q kvs =>
   rw[Kw,Kw]at e h2;injection e with e1 e2;cases h2 with
   |cons b1 f =>
    let(i2,i1):=b f e2;simp only[Kw];by_cases h:q.1=k;let a:p.1=k:=e1.trans h;simp only[h,a,if_true];show(.cons dn i2,by rw[Kw,Kw,i1]);let a:¬p.1=k:=λz=>h (e1.symm.trans z);simp only[h,a,if_false];show(.cons b1 i2,by rw[Kw,Kw,i1,e1])
 rw[N7 c,N7 c];show(?_,by rw[KC,KC,e];rfl);rw[KC,KC];show h2.app (.cons dn .nil)
def Rel.idct{i:Nat}{S:OO}(h:Rel K M P H0 σ0 σ env ts H)(e:env[i]?=OV (.tr S (dY kvs))):∃a es,σ[i]?=OV (OV (.ref a))/\S=[a]/\H a=OV (.ext (be a es))/\IDN K (Nw M (aK σ env ts)) H es kvs:=by
 cbv;let(x,e1,m):=h.slot e;let(v,ev,ot,_):=h.e.tr _ _ _ m;let(a,es,rfl,b,c,hv):=ot.idc_of rfl
 w_up;show(a,es,by rw[e1,ev],b,c,hv)
end
section
variable{X:Cx}{K:bg}{pos:Pos}{e:ba}{te tj:DE}
def Do(hK:X.K=K):IxR X (D4 K):=by subst hK;show J3
def CV(i:Nat)(tj te:DE):DS:=λDD env=>te env λs1 b=>(∃S kvs,b[i]?=OV (.tr S (dY kvs)))/\tj b λs2 a=>∃(S:OO) (kvs:Os) (k:Int) (d:ab),
 a[i]?=OV (.tr S (dY kvs))/\aM a s2=OV (.int k)/\aM a s1=OV d/\kvs.length<sizeLine/\DD.nx (a.set i (.tr S (dY (c7 kvs k d))))
def vq(i:Nat){y:bc}{npos b:Pos}{j:ba}(hK:X.K=K)(hN:X.N[i]?=some y)(hj:PE X j (up K tj))(G:PE X e (up K te))
  (hv:Vis X.env.scope y:=by walk_at"v0") (hd:(y==("__debug__" : bc))=false:=by decide)
  (p:(y==("__classdict__" : bc))=false:=by decide)
  (I:∀v,assign (.Subscript (.Name y npos) j b) X.env v=(do
   let ov <-Qo [v] (eval (.Name y npos) X.env)
   let iv <-Qo [v,ov] (eval j X.env)
   Q0 b
   Qo [v,ov,iv] (Ze ov iv v)
   ZT [v,ov,iv] []):=by intro _;rfl)
  (hs:QG [.Subscript (.Name y npos) j b] e pos.line X.env=pure false:=by rfl) (hw:QH [.Subscript (.Name y npos) j b] e X.env=pure none:=by rfl)
  (h1:(Qh [.Subscript (.Name y npos) j b] X.env).map (·.2)=[assign (.Subscript (.Name y npos) j b) X.env]:=by rfl):PS X (.Assign [.Subscript (.Name y npos) j b] e pos) (upS K (CV i tj te)):=by
 subst hK;show(rK G (vE (bJ hN hv hd p) hj GM I) hs hw h1).imp λD σ H h=>?_;let(M,P,H0,σ0,env,ts,DD,nv,q,ht,ok):=h;show(M,P,H0,σ0,env,ts,_,q,ht,λs1 l v1 H1 h1 g=>?_);let((V,C,J),h1):=h1;let(a,_,o,_):=g.idct J;show(.ref a,o,M,P,H0,σ0,l,ts++[(v1,s1)],_,g,h1,λs2 f r H2 h2 m=>?_)
 cbv;let(S,kvs,k,d,e2,L,O,W,hR):=h2;let c:Rel X.K M P H0 σ0 σ f (ts++[(v1,s1),(r,s2)]) H2:=by simpa using m
 let t:=c.kept (v:=v1) (s:=s1) (!1) O;let u:=c.kept (v:=r) (s:=s2) (!1) L;let(Y,es,n,w,Q,hv):=c.drop.idct e2;rw[o]at n;cases n
 w_up;let z:r=.int k:=by cases u;rfl
 subst z;let E:-es=-kvs:=by let:=congrArg eH hv.2;simpa using this
 show(k,a,es,rfl,rfl,Q,!0,ok.nx _ _ _ hR ?_);let F:=mZ (k:=k) hv t;let T:Nw M (aK σ f ts) a:=by let(x,A,B,e1,q1,q2):=c.drop.split e2;show .inr ?_;rw[q1,am,au];rw[o]at e1;cases e1;rw[aZ,w];simp
 let U:bd (Nw M (aK σ f ts)) H2 (upd H2 a (.ext (be a (c7 es k v1)))):=bd.own T;show c.drop.retreeT (R:=[]) e2 o (by rw[w];simp) (!1) ?_;rw[w];show .idc aC (F.1.keep U) F.2
def C3:DE:=λenv R=>∀S,R (.tr S (dY [])) env
def z8:PE X (.Dict [] [] pos) (up K C3):=BR.imp λσ H Q h=>by
 let(M,P,H0,σ0,env,ts,R,a,ht,b):=h
 exactλp c=>b _ _ _ _ (ht [p]) (a.withRes (a.e.addO c λY=>.idc (es:=[]) (kvs:=[]) aC .nil rfl) rfl)
end
def lh(r:PrI es xs)(k:Int):(QO xs k).isSome=(aJ es k).isSome:=by
 induction r with
 |nil=>rfl
 |@cons p q es xs h t b =>
  rw[aq];by_cases hk:p.1=k;let a:q.1=k:=by rw[<-h.1,hk]
  rw[N6 hk];simp[QO,Lc,a];let a:¬q.1=k:=λz=>hk (by rw[h.1,z]);rw[N7 hk,<-b];simp[QO,Lc,a]
def A5(r:PrI es xs)(k:Int)(h:QO xs k=OV u):∃v,aJ es k=OV v/\bE v u:=by
 induction r with
 |nil=>simp[QO]at h
 |@cons p q es xs a t c =>
  rw[aq];by_cases hk:p.1=k;let b:q.1=k:=by rw[<-a.1,hk]
  let e:q.2=u:=by simpa[QO,Lc,b] using h
  show(p.2,N6 hk,e▸a.2);let b:¬q.1=k:=λz=>hk (by rw[a.1,z]);rw[N7 hk];show c (by simpa[QO,Lc,b] using h)
section
variable{X:Cx}
def Iy:R2:=λx y H Q=>∃(k:Int) (a:ac) (es:Ow),x=.int k/\y=.ref a/\H a=OV (.ext (be a es))/\Q (.bl (aJ es k).isSome) H
def vg:R2:=λx y H Q=>∃(k:Int) (a:ac) (es:Ow),x=.int k/\y=.ref a/\H a=OV (.ext (be a es))/\Q (.bl (!(aJ es k).isSome)) H
def EI:OpR X (zs .In) Iy:=by intro pins s σ H x y v u Q I b c h;let(k,a,es,rfl,rfl,d,q):=h;cases (show u=cu a from c);let(t,rfl):=b;let(z,y,xs,r,dd):=gp I d;show wpAny_in_of (knd:=Qf X.prog X.w) (bT k t) y dd.mapOf ?_;rw[lh r];show(.bl _,H,I.tok _,rfl,q)
def gO:OpR X (zs .NotIn) vg:=by intro pins s σ H x y v u Q I b c h;let(k,a,es,rfl,rfl,d,q):=h;cases (show u=cu a from c);let(t,rfl):=b;let(z,y,xs,r,dd):=gp I d;show wpAny_notIn_of (knd:=Qf X.prog X.w) (bT k t) y dd.mapOf ?_;rw[lh r];show(.bl _,H,I.tok _,rfl,q)
def yh:V->OU->Hp->VK->Prop:=λx vs H Q=>∃(a:ac) (es:Ow) (k:Int) (v:V),x=.ref a/\vs=[.int k,v]/\H a=OV (.ext (be a es))/\es.length<sizeLine /\
 (∀u,aJ es k=OV u->Q u H)/\(aJ es k=OW->Q v (upd H a (.ext (be a (c7 es k v)))))
set_option tactic.hygienic true in
def ua:MtR X "dict.setdefault" yh:=by
 intro pins s σ H x vs v us Q I l rv h;let(a,es,k,w,rfl,rfl,i,J,q1,q2):=h;cases (show v=cu a from l);cases rv with
 |cons m rv =>
  cases rv with
  |cons j rv =>
   cbv;cases rv;let(t,rfl):=m;rename_i n;let(z,y,xs,r,dd):=gp I i
   w_up;let hz:-xs<=sizeLine:=by rw[<-Paired.length r];show z
   let(o,A,ep,h1,h2):=id dd;show ZH F.slot_dict_setdefault (o,h1,h2.1.1) F.entry_dict_setdefault (F.args_dict_setdefault_3 _ _ _) (kt_meets_setdefault (Qf X.prog X.w) a (bT k t) y n) (xs,dd,hz,λu B=>?_,λhn h' d hs=>?_);let(w',e1,e2):=A5 r k B;show(w',H,I.tok _,e2,q1 w' e1);let f:aJ es k=OW:=by
    let:=lh r k;rw[hn]at this;cases e:aJ es k with
    |none=>rfl
    |some x=>rw[e]at this;cases this
   let(o',C,D,c,g):=id d;show(w,_,I.write (x:=a) (e:=a) (by rw[i];show True.intro) (.inl rfl) (λb q E z=>(hs.2 b E).trans z) (_,c) ?_,j,q2 f);let new:be a (c7 es k w) h':=(by let:=rn es k w;lia,y,_,jI r k j,λp w=>iB d)
   show(new,(_,c),λc g hx G=>hx.keep λo e=>G _ e)
def JM(r:V->OU->Hp->VK->Prop)(to:TE)(t:TA):TE:=λσ H Q=>to σ H λx H1=>(∃a es,x=.ref a/\H1 a=OV (.ext (be a es)))/\t σ H1 λxs H2=>r x xs H2 Q
variable{o e:ba}{es:OS}{to:TE}{t:TA}{name:bc}{apos cpos:Pos}{id:String}{r:V->OU->Hp->VK->Prop}
def EA(pa:Zf "dict")(slot:Slot "dict" name id)(i:Yg (.builtin id)=pure (.type "method_descriptor"))(l:MtR X id r)(ho:PE X o to)(m:PA X (e::es) t)
  (d:z5 o name X.env (eval o X.env)=eval o X.env:=by rfl)
  (g:((z4 cpos (j0 (e::es) X.env)).all (λx=>!x.1)&&(QD cpos (Qk [] X.env)).all (λx=>x.1.isSome)
   && decide ((e::es).length+([]:OR).length+(if ([]:OR).isEmpty then 0 else 1)<30))=true:=by rfl)
  (f:(apos.endLine==cpos.line)=true:=by rfl) (hs:j0 (e::es) X.env=(false,eval e X.env)::j0 es X.env:=by rfl) (c:(z4 cpos (j0 es X.env)).any (·.1)=false:=by rfl) :
  PE X (.Call (.Attribute o name apos) (e::es) [] cpos) (JM r to t):=by intro pins s σ H Q I h;show Zd d g f rfl (thn (ho pins s σ H _ I h) λv s1 j=>?_);let(x,H1,k,n,ty,q1):=j;let(a,p,rfl,q):=ty;cases (show v=cu a from n);let(_,_,_,_,o,_,_,h1,h2,_):=gp k q;show("dict",id,pa,slot,i,(o,h1,h2.1),λb e=>by cases e;show(o,h1,h2.2.1),?_);let hA:=m cpos pins s1 σ H1 _ k q1;rw[hs]at hA ⊢;show Calls.callWith_builtin (by show(OY ||(z4 cpos (j0 es X.env)).any (·.1))=OY;rw[c] <;> rfl) (Calls.evalArgs_plain ?_);show thn hA λus s2 z=>by let(vs,H2,u,w,q2):=z;show l pins s2 σ H2 (.ref a) vs _ us Q u rfl w q2
end
section
variable{K:bg}
def Hz:G2:=λd e R=>∃k kvs,d=.int k/\e=dY kvs/\R (.bool (aJ kvs k).isSome)
def qi:G2:=λd e R=>∃k kvs,d=.int k/\e=dY kvs/\R (.bool (!(aJ kvs k).isSome))
def JU:cP K Iy Hz:=by rintro N H x y d e R Q b c ⟨k,kvs,rfl,rfl,hR⟩ f;let(a,es,rfl,g,hv):=c.idc_of rfl;show(k,a,es,b.int,rfl,g,?_);rw[gW k hv.2];show f _ _ hR (.bl _)
def lW:cP K vg qi:=by rintro N H x y d e R Q b c ⟨k,kvs,rfl,rfl,hR⟩ f;let(a,es,rfl,g,hv):=c.idc_of rfl;show(k,a,es,b.int,rfl,g,?_);rw[gW k hv.2];show f _ _ hR (.bl _)
end
section
variable{X:Cx}{K:bg}{e:ba}{te tj:DE}
def HK(i:Nat)(tj te:DE):DS:=λDD env=>(∃S kvs,env[i]?=OV (.tr S (dY kvs)))/\tj env λs1 b=>te b λs2 a=>∃(S:OO) (kvs:Os) (k:Int) (d:ab),
 a[i]?=OV (.tr S (dY kvs))/\aM a s1=OV (.int k)/\aM a s2=OV d/\kvs.length<sizeLine/\if (aJ kvs k).isSome=OX then DD.nx a else DD.nx (a.set i (.tr S (dY (c7 kvs k d))))
def GV(i:Nat){npos apos cpos pos:Pos}(hK:X.K=K)(hN:X.N[i]?=some y)(hj:PE X j (up K tj))(W:PE X e (up K te))
  (hv:Vis X.env.scope y:=by walk_at"v0") (hd:(y==("__debug__" : bc))=false:=by decide)
  (E:(y==("__classdict__" : bc))=false:=by decide)
  (h2:j0 [e] X.env=[(false,eval e X.env)]:=by rfl)
  (l:z5 (.Name y npos) "setdefault" X.env (eval (.Name y npos) X.env)=eval (.Name y npos) X.env:=by rfl)
  (n:((z4 cpos (j0 [j,e] X.env)).all (λx=>!x.1)&&(QD cpos (Qk [] X.env)).all (λx=>x.1.isSome)
   && decide ([j,e].length+([]:OR).length+(if ([]:OR).isEmpty then 0 else 1)<30))=true:=by rfl)
  (m:(apos.endLine==cpos.line)=true:=by rfl) (hs:j0 [j,e] X.env=(false,eval j X.env)::j0 [e] X.env:=by rfl) (f:(z4 cpos (j0 [e] X.env)).any (·.1)=false:=by rfl) :
  PS X (.Expr (.Call (.Attribute (.Name y npos) "setdefault" apos) [j,e] [] cpos) pos) (upS K (HK i tj te)):=by
 subst hK;show(pG (EA ol tu ti ua (bJ hN hv hd E) (b8 hj (b8 W d9 h2) hs) l n m hs f)).imp λD σ H h=>?_;let(M,P,H0,σ0,env,ts,DD,nv,o,((S0,T,Y),ht),ok):=h;let(a,G,w,_,I,_):=o.idct Y;show(.ref a,w,(a,G,rfl,I),M,P,H0,σ0,env,ts,_,o,ht,λs1 p v1 H1 h1 q=>(M,P,H0,σ0,p,ts++[(v1,s1)],_,q,h1,λs2 c C H2 h2 r=>?_))
 cbv;let(S,kvs,k,d,e2,Z,ed,hl,hR):=h2;let b:Rel X.K M P H0 σ0 σ c (ts++[(v1,s1),(C,s2)]) H2:=by simpa using r
 let J:=b.kept (v:=v1) (s:=s1) (!1) Z;let L:=b.kept (v:=C) (s:=s2) (!1) ed;let(a',es,t,O,hH,hv):=b.drop.idct e2;rw[w]at t;cases t
 w_up;let Q:v1=.int k:=by cases J;rfl
 subst Q;let U:-es=-kvs:=by let:=congrArg eH hv.2;simpa using this
 let g:=gW k hv.2;show(a,es,k,C,rfl,rfl,hH,!0,λu hu=>?_,λhn=>?_);rw[hu]at g;rw[N6 (show(aJ kvs k).isSome=OX from g.symm)]at hR;show ok.nx _ _ _ hR b.drop;rw[hn]at g;rw[N7 (show ¬(aJ kvs k).isSome=OX fromλz=>ND (g.trans z))]at hR;let V:=mZ (k:=k) hv L;let na:Nw M (aK σ c ts) a:=by let(x,A,B,e1,q1,q2):=b.drop.split e2;show .inr ?_;rw[q1,am,au];rw[w]at e1;cases e1;rw[aZ,O];simp
 let kN:bd (Nw M (aK σ c ts)) H2 (upd H2 a (.ext (be a (c7 es k C)))):=bd.own na;show ok.nx _ _ _ hR (b.drop.retreeT (R:=[]) e2 w (by rw[O];simp) (!1) ?_);rw[O];show .idc aC (V.1.keep kN) V.2
end
section
variable{X:Cx}{K:bg}
def Hl(hK:X.K=K):IxR X (λx y H Q=>Dk K x y H Q\/D4 K x y H Q):=(iM hK).or (Do hK)
def Cw:G2:=λd e R=>gIx d e R\/Gc d e R
def He:cP K (λx y H Q=>Dk K x y H Q\/D4 K x y H Q) Cw:=by rintro N H x y d e R Q a b (h|h) c;show .inl (mIx _ _ _ _ _ _ _ _ a b h c);show .inr (Dm _ _ _ _ _ _ _ _ a b h c)
end
def nG:Sl->Sl
 |.fr d=>.fr d
 |.ow ds=>.fr (.list ds)
 |.io ds=>.fr (.list ds)
 |.tr _ d=>.fr d
 |_=>.un
def wV(t:DE):DE:=λenv R=>t (env.map nG) λs a=>∃m:Int,aV a s=OV (.int m)/\R (.fr (.int m)) env
def Bu{X:Cx}{K:bg}{e:ba}{t:DE}(h:PE X e (up K t)):PE X e (up K (wV t)):=h.imp λσ H Q h=>by
 let(M,P,H0,σ0,env,ts,R,c,ht,r):=h;let n:∀(x:Option V) (s:Sl),(x,s)∈aK σ (env.map nG) []->∃s',s=nG s'/\(x,s')∈aK σ env ts:=λx s m=>by
  let m:(x,s)∈σ.zip (env.map nG):=by simpa[aK] using m
  rw[List.zip_map_right]at m
  cbv;let((y,s'),l,e):=Ko.mp m;cases e
  w_up;show(s',rfl,Kp _ l)
 let no:∀a,a ∉ oas (aK σ (env.map nG) []):=λa z=>by
  let((x,s),u,w):=bu.mp z;let(s',rfl,_):=n x s u;rcases nc w with⟨_,⟨ds,e⟩|⟨ds,e⟩⟩|⟨S,d,e,_⟩ <;> cases s' <;> cases e
 let g:∀b,¬Nw N0 (aK σ (env.map nG) []) b:=λb z=>z.elim (λz=>z.elim) λz=>no b z;show(N0,N0,H,σ,_,[],_,((bd.refl,λa z=>z,λa z=>z.elim,λa z=>z.elim,λx d m=>?_,λx ds m=>?_,λx ds m=>?_,λx S d m=>?_,?_),by rw[Ki];show c.len,(λv j m=>by cases m),λj ds' m=>?_),ht,λs p v H1 h1 f=>?_)
 .let(s',e,l):=n x _ m;cases s' with
  |fr d' =>
   cbv;cases e;let(v,e1,dn):=c.e.fr x _ l
   w_up;show(v,e1,dn.to λb Y Y z=>absurd z (g b))
  |ow ds =>
   cbv;cases e;let(a,vs,e1,o,k,q):=c.e.ow x _ l
   w_up;show(_,e1,.lst (SnL.of o (g a)) (k.to λb Y Y z=>absurd z (g b)))
  |tr S d' =>
   cbv;cases e;let(v,e1,ot,q):=c.e.tr x _ _ l
   w_up;show(v,e1,ot.dn (λb z=>absurd z (g b)) λa o=>g a)
  |un=>cases e
  |io ds =>
   cbv;cases e;let(a,vs,e1,o,k,q):=c.e.io x _ l
   w_up;show(_,e1,.lst (SnL.of o (g a)) (k.to λb Y Y z=>absurd z (g b)))
  |vw i=>cases e
 let(s',e,_):=n _ _ m;cases s' <;> cases e
 let(s',e,_):=n _ _ m;cases s' <;> cases e
 let(s',e,_):=n _ _ m;cases s' <;> cases e
 rw[List.eq_nil_iff_forall_not_mem.mpr no];show LA;let m2:=Lu m;let(s,_,e1):=Ko.mp m2;cases s <;> cases e1
 let(m,e1,hR):=h1;let ev:=(f.view (v:=v) (s:=s) (!1) e1).int;subst ev;show r _ _ _ _ hR ((c.same f.e.keep.none).addFr (.int m))
section
variable{X:Cx}{K:bg}
def CW(i:Nat):DE:=λenv R=>∃a d ds s',env[i]?=OV a/\ij a=OV (d::ds)/\cR a ds=OV s'/\R (.fr d) (env.set i s')
def Ee(i:Nat){y:bc}{apos cpos npos p5:Pos}{j2:Nat}(hK:X.K=K)(hN:X.N[i]?=some y)
  (hv:Vis X.env.scope y:=by walk_at"v0") (hd:(y==("__debug__" : bc))=false:=by decide)
  (l:(y==("__classdict__" : bc))=false:=by decide)
  (f:j0 [.Constant (.int 0) j2 p5] X.env=[(false,eval (.Constant (.int 0) j2 p5) X.env)]:=by rfl)
  (c:z5 (.Name y npos) "pop" X.env (eval (.Name y npos) X.env)=eval (.Name y npos) X.env:=by rfl)
  (g:((z4 cpos (j0 [.Constant (.int 0) j2 p5] X.env)).all (λx=>!x.1)&&(QD cpos (Qk [] X.env)).all (λx=>x.1.isSome)&&decide ([Expr.Constant (.int 0) j2 p5].length+([]:OR).length+(if ([]:OR).isEmpty then 0 else 1)<30))=true:=by rfl)
  (e:(apos.endLine==cpos.line)=true:=by rfl) (b:(z4 cpos (j0 [] X.env)).any (·.1)=false:=by rfl) :
  PE X (.Call (.Attribute (.Name y npos) "pop" apos) [.Constant (.int 0) j2 p5] [] cpos) (up K (CW i)) :=
 (kBm (K:=K) hK ei m6 m5 rV (bJ hN hv hd l) (b8 kL d9 f) c g e f b).imp λσ H Q h=>by
 let(M,P,H0,σ0,env,ts,R,j,(s,d,ds,s',m,p,es,hR),r):=h;let(a,vs,n,o,q):=j.mine m p;cases q with
 |@cons u us _ _ dn q2 =>
  show(.ref a,n,.inl (rfl,_,SqL.of o),a,_,0,0,u,rfl,rfl,o,!2,!2,by simp[ZK],rfl,r _ _ _ _ hR ?_);let k:=j.addFr dn;show k.mut (ds:=d::ds) (vs':=us) (ds':=ds) m es n (by
   let : Nw M (aK σ env (ts++[(u,Sl.fr d)]))=Nw M (aK σ env ts):=by
    rw[aG];unfold Nw;let:oas (aK σ env ts++tmp [(u,Sl.fr d)])=oas (aK σ env ts):=by
     rw[am];let:oas (tmp [(u,Sl.fr d)])=[]:=by
      show oas [(OV u,Sl.fr d)]=[]
      rw[au];cases u <;> rfl
     rw[this,K1]
    rw[this]
   rw[this];show q2)
def DNs.rev(q:DNs K N H vs ds):DNs K N H vs.reverse ds.reverse :=
 DNs.rec (motive_1:=λY Y Y=>True) (motive_2:=λvs ds Y=>DNs K N H vs.reverse ds.reverse)
 trivial (λY=>trivial) (λY=>trivial)
 (λY Y Y=>trivial) (λY Y Y=>trivial)
 (λY Y Y Y Y Y Y=>trivial) (λY Y Y Y Y=>trivial) (λY Y=>trivial) .nil (λdn Y Y a=>by
  rw[Lx,Lx];show a.app (.cons dn .nil)) q
def HL(i:Nat):DE:=λenv R=>∃a ds s',env[i]?=OV a/\ij a=OV ds/\cR a ds.reverse=OV s'/\R (.fr .none) (env.set i s')
def GW(i:Nat){apos cpos npos:Pos}(hK:X.K=K)(hN:X.N[i]?=some y)
  (hv:Vis X.env.scope y:=by walk_at"v0") (hd:(y==("__debug__" : bc))=false:=by decide)
  (e:(y==("__classdict__" : bc))=false:=by decide)
  (b:z5 (.Name y npos) "reverse" X.env (eval (.Name y npos) X.env)=eval (.Name y npos) X.env:=by rfl) (c:(apos.endLine==cpos.line)=true:=by rfl) :
  PE X (.Call (.Attribute (.Name y npos) "reverse" apos) [] [] cpos) (up K (HL i)) :=
 (Hn (K:=K) hK ei PySem.F.slot_list_reverse PySem.F.type_list_reverse ub (bJ hN hv hd e) b c).imp λσ H Q h=>by
 let(M,P,H0,σ0,env,ts,R,d,(m,ds,s',f,k,es,hR),l):=h;let(a,vs,g,j,q):=d.mine f k;show(.ref a,g,.inl (rfl,vs,SqL.of j),a,vs,rfl,rfl,j,l _ _ _ _ hR ((d.mut (ds:=ds) f es g q.rev).addFr .non))
def DR(tk tv:TE):TE:=λσ H Q=>∀p,H p=OW->tk σ (upd H p (.ext (be p []))) λx H1=>tv σ H1 λy H2=>∃k:Int,x=.int k/\H2 p=OV (.ext (be p []))/\Q (.ref p) (upd H2 p (.ext (be p [(k,y)])))
def yw(hk:PE X e1 tk)(hv:PE X e2 tv):PE X (.Dict [OV e1] [e2] pos) (DR tk tv):=by
 intro pins s σ H Q I h;let j:=I.laid (a:=(~~~s)) (o:=.ext (be (~~~s) [])) (h':=s.heap.push { cls:=.type "dict",data:=.dict #[] }) (t':=s.toks) (λY Y q=>Kq _ q) (Kz _) (kW s.heap I.big');show wpAny_Dict_any rfl rfl (!1) (!1) (pairTrees_cons_walk (thn (hk pins _ σ _ _ j (h _ (I.hok.fresh (Kz _)))) λu s1 d=>?_));let(x,H1,l,m,q1):=d;show thn (hv pins s1 σ H1 _ l q1) λw s2 f=>?_;let(y,H2,g,n,k,ex,i,q):=f;show pairTrees_nil_walk ?_
 cbv;subst ex;let(t,rfl):=m;generalize (~~~s)=p at *;let(z,hd,xs,r,dd):=gp g i;cases r
 w_up;unfold storeAll;rw[Mb];show jj (jj (wpAny_dictSet_pairs (hsz:=KG _) (knd:=Qf X.prog X.w) (bT k t) dd λh' c hs=>js ?_));dsimp only;rw[L4];show js (.ref p,_,?_,rfl,q);let(o,v,ep,h1,h2):=id c;show g.write (x:=p) (e:=p) (by rw[i];show True.intro) (.inl rfl) (λb q A z=>(hs.2 b A).trans z) (_,h1) ?_;let new:be p [(k,y)] h':=(by rw[zg];simp,hd,_,.cons (rfl,n) .nil,λp w=>iB c)
 show(new,(_,h1),λB C hx D=>hx.keep λo e=>D _ e)
variable{pos:Pos}{e1 e2:ba}{tk tv:DE}
def wZ(tk tv:DE):DE:=λenv R=>tk env λs1 b=>tv b λs2 a=>∃(k:Int) (d:ab),aM a s1=OV (.int k)/\aM a s2=OV d/\∀S,R (.tr S (dY [(k,d)])) a
def By(hk:PE X e1 (up K tk))(hv:PE X e2 (up K tv)):PE X (.Dict [OV e1] [e2] pos) (up K (wZ tk tv)):=by
 show(yw hk hv).imp λσ H Q h=>?_;let(M,P,H0,σ0,env,ts,R,g,ht,w):=h;intro p x;show(M,P,H0,σ0,env,_,_,g.withRes (g.e.addO x λY=>.idc (es:=[]) (kvs:=[]) aC .nil rfl) rfl,ht,λs1 i v1 H1 h1 j=>(M,P,H0,σ0,i,_,_,j,h1,λs2 c o H2 h2 l=>?_))
 cbv;let(k,d,y,z,hR):=h2;let b:Rel K M P H0 σ0 σ c ((ts++[(.ref p,.tr [p] (dY []))])++[(v1,s1),(o,s2)]) H2:=by simpa using l
 let m:=b.kept (v:=v1) (s:=s1) (!1) y;let n:=b.kept (v:=o) (s:=s2) (!1) z;let f:=b.drop;let hE:=f.e;rw[aG]at hE m n;let(v',ev,ot,h0):=hE.tr _ _ _ (Kl _ Ks);let(a,es,q,E,A,r):=ot.idc_of (kvs:=[]) rfl;rw[q]at ev;cases ev;let t:es=[]:=by simpa using r.2
 subst t
 w_up;let u:v1=.int k:=by cases m;rfl
 subst u;show(k,rfl,A,w _ _ _ _ (hR [p]) ?_);let C:Nw M (aK σ c ts++tmp [(V.ref p,Sl.tr [p] (dY []))]) p:=.inr (by rw[am];show Kl _ (bu.mpr (_,Kj.mpr rfl,Kj.mpr rfl)));let D:bd (Nw M (aK σ c ts++tmp [(V.ref p,Sl.tr [p] (dY []))])) H2 (upd H2 p (.ext (be p [(k,o)]))):=bd.own C;show f.drop.withRes ?_ rfl;show bS.retreeR (B:=[]) (R:=[]) (S:=[p]) hE (!1) (!1) ?_;show .idc (es:=[(k,o)]) (kvs:=[(k,d)]) aC ((DNs.cons n .nil).keep D) rfl
end
section
variable{prog:k5}{w:q3}{A:Around}{E:ao->az->Prop}{s:az}{d a:ac}{xs:On}{k:ar}{v:ao}
def zn(l:A.units+1<KI)(c:cQ prog w s.heap k a)(n:fZ prog w s.heap d xs)
  (h1:∀b u,QJ xs k=some (b,u)->Q u { s with toks:=s.toks+(k.2.length+3) })
  (hQ:QJ xs k=none->∀h',fZ prog w h' d (ZS xs k a v)->gk d s.heap h'->Q v { s with heap:=h',toks:=s.toks+(k.2.length+3) }) (hsz:xs.length<=sizeLine) :
  j4 (kq prog w) A (Z3 d (.ref a) v) Q E s:=by
 let(o,es,ep,ho,hc,hd,i,g,hn,q):=n;unfold Z3
 try with_reducible show q4 ?_
 show jj ((a8 prog w).pyHash l c ?_);show jj (wpAny_dictFind_heap (knd:=a8 prog w) (s:={ s with toks:=s.toks+(a8 prog w).draws k }) l c ho hd i g hn ?_ ?_)
 .intro f;let h:k ∉ xs.map (·.1):=not_mem_keys_of_get f;show jj (Qa (jj (wpAny_updateDictKeys (hz:=by let e:=size_of_entries (knd:=a8 prog w) i;lia) (s:={ s with toks:=s.toks+(a8 prog w).draws k }) ho hd (js (hQ (Q5 f) _ (_,_,ep+1,K9 _ ho (sj (np hd _)),
   hc.mapDictKeys _,np hd _,?_,?_,?_,?_) (dk ..))))))
  all_goals rw[storedH_new (Q5 f)]
  simp[i,jZ,entryOfKey];rfl;intro x hx;rcases Km.mp hx with hx|hx;show(a8 prog w).keeps (g x hx) ho hd (dk ..);simp only[Kj]at hx;subst hx;show(a8 prog w).keeps c ho hd (dk ..);rw[KC,Ky];show(hn,!1,λx hx y m=>?_);simp only[Kw,LQ,Kj]at m;subst m
  exactλe=>h (e▸hx)
  rw[q];simp
 intro j p hj;show jj (QN (s:={ s with toks:=s.toks+(a8 prog w).draws k }) ho hd ?_);rw[entry_at (knd:=a8 prog w) i j,hj];show jj (Qa (js (h1 _ _ (atKey_of_get hn hj))))
def iu(hd:(d==Qd)=false)(dflt:ao) :
  MeetsIn prog w (Builtin.«dict.setdefault» ⟨[.ref d,.ref a,dflt],[]⟩) (λA R s=>A.in1.units+1<KI/\∃k xs,cQ prog w s.heap k a/\fZ prog w s.heap d xs/\xs.length<=sizeLine /\
   (∀b u,QJ xs k=some (Pm b u)->R (.ok (.ret u)) { s with toks:=s.toks+(k.2.length+3) }) /\
   (QJ xs k=none->∀h',fZ prog w h' d (ZS xs k a dflt)->gk d s.heap h'->R (.ok (.ret dflt)) { s with heap:=h',toks:=s.toks+(k.2.length+3) })) :=
 .of_wp λA R s z=>by
  let(h,k,xs,c,g,hz,h1,h2):=z;unfold Builtin.«dict.setdefault»;show jj ?_;unfold Builtin.Dict.keyAndDefault;show jj (QR g.of.typeIs ?_);show j4 _ _ (pure (Pm d (Pm (cu a) (OV dflt)))) _ _ s;show js ?_;show j4 _ _ (if (d==Qd)=OX then _ else (Z3 d (.ref a) dflt >>= _)) _ _ s;rw[N7 (by rw[hd];show KH)];show jj (zn h c g (λb u hv=>js ⟨u,rfl,h1 b u hv⟩) (λhn h' e f=>js ⟨dflt,rfl,h2 hn h' e f⟩) hz)
end
section
variable{X:Cx}
def tp(k:ar)(c:Paired (λ(p:ar×ac×V) (q:ar×ac×ao)=>p.1=q.1/\p.2.1=q.2.1/\bE p.2.2 q.2.2) es xs) :
  (aJ es k=OW/\QJ xs k=OW)\/∃(p:ac×V) (b:ac) (u:ao),aJ es k=OV p/\QJ xs k=OV (b,u)/\bE p.2 u:=by
 induction c with
 |nil=>show .inl (rfl,rfl)
 |@cons p q es xs r t d =>
  by_cases hk:p.1=k;let a:q.1=k:=by rw[<-r.1,hk]
  show .inr (p.2,q.2.1,q.2.2,by rw[aq,N6 hk],?_,r.2.2);simp[QJ,Lc,a];let a:¬q.1=k:=λz=>hk (by rw[r.1,z]);let e:QJ (q::xs) k=QJ xs k:=by simp[QJ,Lc,a]
  rw[aq,N7 hk,e];show d
def Ig(K:bg)(H:Hp)(a:ac)(es:Oo):Prop:=H a=OV (.ext (bf a es))/\∃kvs:Ou,DVs K H (es.map λp=>V.ref p.2.1) (kvs.map λp=>aN p.1)/\es.map (λp=>p.1)=kvs.map (λp=>p.1)
def rD(K:bg):V->OU->Hp->VK->Prop:=λx vs H Q=>∃(a b:ac) (es:Oo) (k:ar) (v:V),x=.ref a/\vs=[.ref b,v]/\DV K H (.ref b) (aN k)/\Ig K H a es/\es.length<sizeLine /\
 (∀p,aJ es k=OV p->Q p.2 H)/\(aJ es k=OW->Q v (upd H a (.ext (bf a (oQ es k b v)))))
set_option tactic.hygienic true in
def t9(d:X.A.units+2<KI):MtR X "dict.setdefault" (rD X.K):=by
 intro pins s σ H x vs v us Q I t rv h;let(a,b,es,k,w,rfl,rfl,B,(m,kvs,hk,e),T,q1,q2):=h;cases (show v=cu a from t);cases rv with
 |cons C rv =>
  cases rv with
  |cons n rv =>
   cbv;cases rv;let(U,D,E,st):=fe I B C;cases D;subst E;rename_i G;let(z,y,xs,r,dd):=dct_of I m hk e
   w_up;let hz:-xs<=sizeLine:=by rw[<-Paired.length r];show z
   show ZH F.slot_dict_setdefault dd.of.typeIs F.entry_dict_setdefault (F.args_dict_setdefault_3 _ _ _) (iu y G) (eG (prog:=X.prog) (w:=X.w) d,k,xs,st,dd,hz,λc u d=>?_,λhn h' f hs=>?_);rcases tp k r with⟨_,z2⟩|⟨p,c',J,z1,z2,z3⟩
   rw[d]at z2;cases z2;rw[d]at z2;cases z2;show(p.2,H,I.tok _,z3,q1 p z1);let g:aJ es k=OW:=by
    rcases tp k r with⟨z1,_⟩|⟨p,c',J,z1,z2,z3⟩
    show z1;rw[hn]at z2;cases z2
   let(o,i,ep,h1,h2,h3,h4,_,h5):=f;show(w,_,I.write (x:=a) (e:=a) (by rw[m];show True.intro) (.inl rfl) (λb q L z=>(hs.2 b L).trans z) (_,h1) ?_,n,q2 g);let new:bf a (oQ es k b w) h':=(by let:=rJ es k b w;lia,y,_,jJ r k n,o,i,ep,h1,h2,h3,h4,h5)
   show(new,(_,h1),λM N hx O=>?_);let(a1,a2,j,P,o',ds',l,R,S):=hx;show(a1,a2,j,P,o',ds',l,O _ R,S)
def D5(K:bg):V->OU->Hp->VK->Prop:=λx vs H Q=>∃(a b:ac) (es:Oo) (k:ar) (v:V),x=.ref a/\vs=[.ref b,v]/\DV K H (.ref b) (aN k)/\Ig K H a es /\
 (∀p,aJ es k=OV p->Q p.2 H)/\(aJ es k=OW->Q v H)
set_option tactic.hygienic true in
def yE(c:X.A.units+2<KI):MtR X "dict.get" (D5 X.K):=by
 intro pins s σ H x vs v us Q I d rv h;let(a,b,es,k,w,rfl,rfl,f,(g,kvs,hk,e),q1,q2):=h;cases (show v=cu a from d);cases rv with
 |cons i rv =>
  cases rv with
  |cons j rv =>
   cbv;cases rv;let(o,l,m,st):=fe I f i;cases l;subst m;rename_i n;let(z,y,xs,r,dd):=dct_of I g hk e
   w_up;show ZH F.slot_dict_get dd.of.typeIs F.entry_dict_get (F.args_dict_get_3 _ _ _) (meetsH_dict_get_default (a8 X.prog X.w) a b y n) (eG (prog:=X.prog) (w:=X.w) c,k,xs,st,dd.of,?_);rcases tp k r with⟨z1,z2⟩|⟨p,c',q,z1,z2,z3⟩
   rw[z2];show(w,H,I.tok _,j,q2 z1);rw[z2];show(p.2,H,I.tok _,z3,q1 p z1)
def Ip(r:V->OU->Hp->VK->Prop)(to:TE)(t:TA):TE:=λσ H Q=>to σ H λx H1=>(∃a es,x=.ref a/\H1 a=OV (.ext (bf a es)))/\t σ H1 λxs H2=>r x xs H2 Q
variable{o e:ba}{es:OS}{to:TE}{t:TA}{name:bc}{apos cpos:Pos}{id:String}{r:V->OU->Hp->VK->Prop}
def Ae(pa:Zf "dict")(slot:Slot "dict" name id)(i:Yg (.builtin id)=pure (.type "method_descriptor"))(l:MtR X id r)(ho:PE X o to)(m:PA X (e::es) t)
  (d:z5 o name X.env (eval o X.env)=eval o X.env:=by rfl)
  (g:((z4 cpos (j0 (e::es) X.env)).all (λx=>!x.1)&&(QD cpos (Qk [] X.env)).all (λx=>x.1.isSome)
   && decide ((e::es).length+([]:OR).length+(if ([]:OR).isEmpty then 0 else 1)<30))=true:=by rfl)
  (f:(apos.endLine==cpos.line)=true:=by rfl) (hs:j0 (e::es) X.env=(false,eval e X.env)::j0 es X.env:=by rfl) (c:(z4 cpos (j0 es X.env)).any (·.1)=false:=by rfl) :
  PE X (.Call (.Attribute o name apos) (e::es) [] cpos) (Ip r to t):=by intro pins s σ H Q I h;show Zd d g f rfl (thn (ho pins s σ H _ I h) λv s1 j=>?_);let(x,H1,k,n,ty,q1):=j;let(a,p,rfl,q):=ty;cases (show v=cu a from n);let(_,_,o,ds,h1,h2,_):=gv k q;show("dict",id,pa,slot,i,(o,h1,h2.1),λb e=>by cases e;show(o,h1,h2.2.1),?_);let hA:=m cpos pins s1 σ H1 _ k q1;rw[hs]at hA ⊢;show Calls.callWith_builtin (by show(OY ||(z4 cpos (j0 es X.env)).any (·.1))=OY;rw[c] <;> rfl) (Calls.evalArgs_plain ?_);show thn hA λus s2 z=>by let(vs,H2,u,w,q2):=z;show l pins s2 σ H2 (.ref a) vs _ us Q u rfl w q2
def D2(K:bg):V->V->Hp->VK->Prop:=λx y H Q=>∃(a b:ac) (es:Oo) (k:ar) (p:ac×V),x=.ref a/\y=.ref b/\DV K H (.ref b) (aN k)/\Ig K H a es/\aJ es k=OV p/\Q p.2 H
def Ht(d:X.A.units+2<KI):IU X (D2 X.K):=by
 intro pins s σ H x y v u Q I f g h;let(a,b,es,k,p,rfl,rfl,i,(j,kvs,hk,e),c,q):=h;cases (show v=cu a from f)
 cbv;let(n,l,m,st):=fe I i g;cases l;subst m;let(z,y,xs,r,dd):=dct_of I j hk e
 w_up;rcases tp k r with⟨z1,_⟩|⟨p',c',o,z1,z2,z3⟩
 rw[c]at z1;cases z1;rw[c]at z1;cases z1;show wpAny_getItem_heap (knd:=a8 X.prog X.w) (eG d) st dd.of z2 (p.2,H,I.tok _,z3,q)
end
abbrev Wd:=List (ar×List (ab×ar))
noncomputable def xH(q:ab×ar):ab:=.tuple [q.1,aN q.2]
def wdK(W:Wd):Ou:=W.map λp=>(p.1,.list (p.2.map xH))
abbrev Ldl:=List (ar×OQ)
noncomputable def k4:Ldl->ar->ar->Ldl
 |[],y,x=>[(y,[x])]
 |p::ld,y,x=>if p.1=y then (p.1,p.2++[x])::ld else p::k4 ld y x
noncomputable def qa(ld:Ldl):Ou:=ld.map λp=>(p.1,.list (p.2.map λk=>aN k))
def uz(ld:Ldl)(x:ar)(qs:List (ab×ar)):Ldl:=qs.foldl (λld q=>k4 ld q.2 x) ld
def dD(W:Wd):Ldl:=W.foldl (λld p=>uz ld p.1 p.2) []
def LdB(ld:Ldl)(c:Nat):Prop:=-ld<=c/\∀p∈ld,p.2.length<=c
def zK(ld:Ldl)(y x:ar):(k4 ld y x).length<=-ld+1:=by
 induction ld with
 |nil=>simp[k4]
 |cons q ld a =>
  unfold k4;split;simp;simp;show a
theorem LdB.add:∀{ld:Ldl}{c:Nat} (y x:ar),LdB ld c->LdB (k4 ld y x) (c+1)
 |[],c,y,x,h=>(by simp[k4],λp b=>by simp[k4]at b;rw[b];simp)
 |p :: ld,c,y,x,h=>by
  let(h1,h2):=h;unfold k4;split;show(by simp at h1 ⊢;lia,λq a=>?_);rcases Kt.mp a with rfl|a;let:=h2 p (!1);simp;show this;let:=h2 q (by simp[a]);lia;let key:=zK ld y x;let i:=LdB.add (ld:=ld) (c:=c) y x (by simp at h1;lia,λq a=>h2 q (by simp[a]));show(by simp at h1 ⊢;lia,λq a=>?_);rcases Kt.mp a with rfl|a;let:=h2 q (!1);lia;show i.2 q a
section
variable{K:bg}{N:ac->Prop}{H0 H H':Hp}{a p:ac}{o:HO}
inductive LdE (K:bg) (N:ac->Prop) (H0 H:Hp) (a:ac):Oo->Ldl->OO->Prop
 |nil:LdE K N H0 H a [] [] []
 |cons {k:ar}{kb b:ac}{vs:OU}{xs:OQ}{es:Oo}{ld:Ldl}{bs:OO}:DN K N H0 (.ref kb) (aN k)->H b=some (.lst vs)->DNs K N H0 vs (xs.map λk=>aN k)->H0 b=none->b≠a->b ∉ bs->LdE K N H0 H a es ld bs->LdE K N H0 H a ((k,kb,.ref b)::es) ((k,xs)::ld) (b::bs)
variable{es:Oo}{ld:Ldl}{bs:OO}
def LdE.keep(h:LdE K N H0 H a es ld bs)(k:∀b∈bs,H' b=H b):LdE K N H0 H' a es ld bs:=by
 induction h with
 |nil=>show .nil
 |cons h1 h2 h3 h4 h5 h6 _ c=>show .cons h1 ((k _ (!1)).trans h2) h3 h4 h5 h6 (c λb d=>k b (by simp[d]))
def LdE.lives(h:LdE K N H0 H a es ld bs):∀b∈bs,b≠a/\H0 b=OW/\∃vs,H b=OV (.lst vs):=by
 induction h with
 |nil=>intro b c;cases c
 |cons h1 h2 h3 h4 h5 h6 _ d =>
  intro b c;rcases Kt.mp c with rfl|c;show(h5,h4,_,h2);show d b c
def LdE.keys(h:LdE K N H0 H a es ld bs):es.map (λp=>p.1)=(qa ld).map (λp=>p.1)/\DNs K N H0 (es.map λp=>V.ref p.2.1) ((qa ld).map λp=>aN p.1):=by
 induction h with
 |nil=>show(rfl,.nil)
 |cons h1 h2 h3 h4 h5 h6 _ b=>show(congrArg (List.cons _) b.1,.cons h1 b.2)
def LdE.vals(h:LdE K N H0 H a es ld bs)(c:bh H0 H)(d:∀b,M b->N b)(hM:∀b,M b->H0 b≠OW):DNs K M H (es.map λp=>p.2.2) ((qa ld).map λp=>p.2):=by
 induction h with
 |nil=>show .nil
 |cons h1 h2 h3 h4 h5 h6 _ e=>show .cons (.lst (SnL.of h2 λz=>hM _ z h4) ((h3.keep (bd.same c)).to λb Y Y z=>d b z)) e
def LdE.found(h:LdE K N H0 H a es ld bs)(d:aJ es y=OV q)(m:H p=OW)(dx:DN K N H0 f (aN x)):∃b vs e,q.2=.ref b/\H b=OV (.lst vs)/\b∈bs/\e∈ld/\vs.length=e.2.length/\LdE K N H0 (upd (upd H p (.lst [])) b (.lst (vs++[f]))) a es (k4 ld y x) bs:=by
 let g:∀{b vs},H b=OV (.lst vs)->b≠p:=λe z=>by rw[z,m]at e;cases e
 induction h with
 |nil=>cases d
 |@cons k kb b vs xs es ld bs h1 h2 h3 h4 h5 h6 i n =>
  rw[aq]at d;by_cases z:k=y;rw[N6 z]at d;cases d;show(b,vs,(k,xs),rfl,h2,!1,!1,by rw[h3.len];simp,?_);unfold k4;rw[N6 z];show .cons h1 aC ?_ h4 h5 h6 (i.keep λc hc=>?_);rw[KC];show h3.app (.cons dx .nil);let(_,_,ws,e):=i.lives c hc;rw[aw (λz:c=b=>h6 (z▸hc)),aw (g e)];rw[N7 z]at d;let(j,vs',e,q1,q2,l,o,r,s):=n d;show(j,vs',e,q1,q2,by simp[l],by simp[o],r,?_);unfold k4;rw[N7 z];show .cons h1 ?_ h3 h4 h5 h6 s;rw[aw (λz:b=j=>h6 (z▸l)),aw (g h2)];show h2
def LdE.new(h:LdE K N H0 H a es ld bs)(hn:aJ es y=OW)(g:DN K N H0 (.ref d) (aN y))(i:H p=OW)(h0:H0 p=OW)(pa:p≠a)(dx:DN K N H0 f (aN x)):LdE K N H0 (upd (upd (upd H p (.lst [])) a o) p (.lst ([]++[f]))) a (es++[(y,d,.ref p)]) (k4 ld y x) (bs++[p]):=by
 let c:∀{b vs},H b=OV (.lst vs)->b≠p:=λe z=>by rw[z,i]at e;cases e
 induction h with
 |nil=>show .cons g aC (.cons dx .nil) h0 pa (!1) .nil
 |@cons k kb b vs xs es ld bs h1 h2 h3 h4 h5 h6 l j =>
  rw[aq]at hn;by_cases z:k=y;rw[N6 z]at hn;cases hn;rw[N7 z]at hn;unfold k4;rw[N7 z];show .cons h1 ?_ h3 h4 h5 ?_ (j hn);rw[aw (c h2),aw h5,aw (c h2)];show h2
  exactλz=>(Km.mp z).elim h6 λz=>c h2 (Kj.mp z)
end
def zH{es:Oo}(h:aJ es k=OW):(es.any λp=>decide (p.1=k))=OY:=by rw[jn,h];rfl
abbrev GC(K:bg):TS:=DQ (tBM K "list" vh (Ip (rD K) (uu 1) (xU (tOp (Dk K) (uu 3) (tC (.int 1))) (xU (Io FX) FX))) (xU (uu 2) FX))
abbrev A8(K:bg):TS:=Gy (DW DU (og 1)) (Gy (FY (IG (uu 0)) (og 2) (FY (y3 K (tOp (D3 K) (uu 0) (uu 2))) (og 3) (GC K))) (Il (uu 1)))
theorem iy{κ β:Type} [DecidableEq κ]:∀{kvs:List (κ×β)}{k:κ}{v:β},(kvs.map λp=>p.1).Nodup->(k,v)∈kvs->aJ kvs k=OV v
 |[],_,_,_,h=>by cases h
 |q :: kvs,k,v,nd,h=>by
  rw[Kw]at nd;let(a,b):=KY.mp nd;rw[aq];rcases Kt.mp h with e|e;rw[<-e,N6 rfl];rw[N7 λz=>a (by rw[z];show Ko.mpr (_,e,rfl))];show iy b e
def LdB.mono{ld:Ldl}{c c':Nat}(h:LdB ld c)(hc:c<=c'):LdB ld c':=(Kr h.1 hc,λp a=>Kr (h.2 p a) hc)
def xx(ld:Ldl)(x:ar)(qs:List (ab×ar))(hi:i< -qs):uz ld x (qs.take (i+1))=k4 (uz ld x (qs.take i)) qs[i].2 x:=by unfold uz;rw[K3,Kk hi,No];rfl
def ue(W:Wd)(hi:i< -W):dD (W.take (i+1))=uz (dD (W.take i)) W[i].1 W[i].2:=by unfold dD;rw[K3,Kk hi,No];rfl
def LdN(K:bg)(M:ac->Prop)(H:Hp)(a:ac)(ld:Ldl)(c:Nat)(H2:Hp):Prop:=∃es bs,H2 a=OV (.ext (bf a es))/\LdE K (λb=>M b\/H b=OW) H H2 a es ld bs/\bh H H2/\LdB ld c
def Cb{K:bg}{M:ac->Prop}{w a s:ac}{u:V}{q:ab}{z k:ar}{H l:Hp}{f:Ldl}{es:Oo}{bs:OO}{n:Nat}{D:dA}(hn2:n<=300000)(J:H a=OW)(v:DN K (λb=>M b\/H b=OW) H (.ref s) (aN k))(F:DN K (λb=>M b\/H b=OW) H u (.tuple [q,aN z]))(hA:l a=OV (.ext (bf a es)))(le:LdE K (λb=>M b\/H b=OW) H l a es f bs)(x:bh H l)(C:LdB f n)
  (hD:∀H',LdN K M H a (k4 f z k) (n+1) H'->D.nx [OV (.ref w),OV (.ref a),OV (.ref s),OV u] H'):GC K D [OV (.ref w),OV (.ref a),OV (.ref s),OV u] l:=by
 let d:∀{H':Hp},bh H H'->bd (λb=>M b\/H b=OW) H H':=λx b o Y e=>x b o e;let(tb,ys,rfl,st,g):=F.tuple;cases g with
 |@cons y0 ys _ _ X g =>
  cases g with
  |@cons y1 ys _ _ d1 g =>
   cbv;cases g;let(E,_,rfl,_,_):=d1.tuple
   w_up;show(.ref a,rfl,(a,es,rfl,hA),.ref tb,rfl,.inr (tb,_,1,.ref E,rfl,rfl,(st.keep (d x)).sq,xt _ _ _,KG _,λp r=>?_));let i:bh H (upd l p (.lst [])):=λb o e=>bh.new r _ _ (x b o e);let y:H p=OW:=by
    cases e:H p with
    |none=>rfl
    |some o=>rw[x _ _ e]at r;cases r
   let pa:p≠a:=λz=>by rw[z,hA]at r;cases r
   let A:upd l p (.lst []) a=OV (.ext (bf a es)):=by rw[aw (Ne.symm pa)];show hA
   let(G,k2):=le.keys;let L:-es=-f:=by let:=congrArg eH G;simpa[qa] using this
   let N:=C.1;let t:∀m:Nat,m<=n->m<sizeLine:=λm h=>Ku (show m<1000000 by lia) ai;show(a,E,es,z,.ref p,rfl,rfl,(d1.keep (d i)).dv,(A,qa f,(k2.keep (d i)).dv,G),t _ (!0),λq O=>?_,λhn=>?_);let(b,vs,e,q1,q2,P,Q,R,S):=le.found O r v;let(T,U,_):=le.lives b P;let I:upd l p (.lst []) b=OV (.lst vs):=by rw[aw λz=>by rw[z,r]at q2;cases q2];show q2
   rw[q1];show(.inl (rfl,vs,SqL.of I),.ref s,rfl,b,vs,.ref s,rfl,rfl,I,t _ (by rw[R];show C.2 e Q),hD _ (es,bs,by rw[aw (Ne.symm T)];show A,S,λc o j=>?_,C.add z k));rw[aw λz=>by rw[z,U]at j;cases j];show i c o j;let B:upd (upd l p (.lst [])) a (.ext (bf a (oQ es z E (.ref p)))) p=OV (.lst []):=by rw[aw pa];show aC
   show(.inl (rfl,[],SqL.of B),.ref s,rfl,p,[],.ref s,rfl,rfl,B,t _ (KG _),hD _ (es++[(z,E,.ref p)],bs++[p],?_,le.new hn d1 r y pa v,λc o j=>?_,C.add z k));rw[aw (Ne.symm pa),aC];unfold oQ;rw[zH hn,N7 (!2)];rw[aw (λz:c=p=>by rw[z,y]at j;cases j),aw (λz:c=a=>by rw[z,J]at j;cases j)];show i c o j
def Ca{K:bg}{W:Wd}{M:ac->Prop}{w a q:ac}{y:Option V}{k:ar}{H H':Hp}{ld:Ldl}{h es:Oo}{bs:OO}{qs:List (ab×ar)}{c:Nat}{D:dA}(hc:c<=200000)(N:H a=OW)(C:H w=OV (.ext (bf w h)))(E:DNs K (λb=>M b\/H b=OW) H (h.map λp=>V.ref p.2.1) ((wdK W).map λp=>aN p.1))(s:DNs K (λb=>M b\/H b=OW) H (h.map λp=>p.2.2) ((wdK W).map λp=>p.2))(F:(h.map λp=>p.1)=(wdK W).map λp=>p.1)(O:-qs<=100)(t:aJ (wdK W) k=OV (.list (qs.map xH)))(v:DN K (λb=>M b\/H b=OW) H (.ref q) (aN k))(hA:H' a=OV (.ext (bf a es)))(le:LdE K (λb=>M b\/H b=OW) H H' a es ld bs)(g:bh H H')(r:LdB ld c)
  (hD:∀y H',LdN K M H a (uz ld k qs) (c+100) H'->D.nx [OV (.ref w),OV (.ref a),OV (.ref q),y] H'):FY (y3 K (tOp (D3 K) (uu 0) (uu 2))) (og 3) (GC K) D [OV (.ref w),OV (.ref a),OV (.ref q),y] H':=by
 let f:∀{H':Hp},bh H H'->bd (λb=>M b\/H b=OW) H H':=λg b o Y e=>g b o e;show(.ref w,rfl,.ref q,rfl,k,w,h,wdK W,rfl,(v.keep (f g)).dv,g _ _ C,(E.keep (f g)).dv,(s.keep (f g)).dv,F,by rw[t];rfl,λi v' d hd h1 h2=>?_);show Classical.byContradiction λhN=>?_;rw[t]at hd
 cbv;cases hd;let(d',e1,G):=s.get h1;rw[h2]at e1;cases e1;let(l,us,rfl,sl,x):=G.list
 w_up;let P:-us=-qs:=by rw[x.len,Ki]
 let n:∀{A:Hp},bh H A->SqL K A l us:=λQ=>(sl.keep (f Q)).sq;show hN ?_;clear hN;show(l,rfl,(us,n g),λi m σ A=>m=-qs-i/\i<=-qs/\(∃y,σ=[OV (.ref w),OV (.ref a),OV (.ref q),y])/\LdN K M H a (uz ld k (qs.take i)) (c+i) A,(_,rfl,KG _,(y,rfl),es,bs,hA,le,g,r),?_);clear hA le g r;rintro i m σ A ⟨rfl,hi,⟨y,rfl⟩,es,bs,hA,le,g,r⟩;by_cases j:i< -qs
 .show .inr ((us,us[i],n g,Kk (!0)),λσ' H'=>(∃y,σ'=[OV (.ref w),OV (.ref a),OV (.ref q),y])/\LdN K M H a (uz ld k (qs.take (i+1))) (c+(i+1)) H',λσ' H' z=>(-qs-(i+1),!0,rfl,j,z),λu H' R=>?_);let(L,I):=R;rw[L,xx ld k qs j];clear L;let I:=I us (n g)
  cbv;let(S,B,J):=x.get I;rw[KM,Kk j]at B;cases B
  w_up;show Cb (!0) N v (show DN K _ H u (.tuple [qs[i].1,aN qs[i].2]) from J) hA le g r λH' z=>((_,rfl),z)
 let:i=-qs:=!0
 subst this;rw[La]at le r;show .inl ((us,n g,!0),hD _ _ (es,bs,hA,le,g,r.mono (!0)))
def yL{K:bg}{W:Wd}{M:ac->Prop}{w:ac}{H:Hp}{Q:VK}(hM:∀b,M b->H b≠none)(F:DN K M H (.ref w) (br (wdK W)))(nd:(W.map λp=>p.1).Nodup)(S:W.length<=2000)(G:∀p∈W,p.2.length<=100)
  (I:∀a H',bh H H'->H a=none->DN K M H' (.ref a) (br (qa (dD W)))->Q (.ref a) H'):A8 K { nx:=λY H'=>Q .non H',rt:=Q } [some (.ref w),none,none,none] H:=by
 cbv;let(w',c,e,d,f,i,n):=F.dct_of rfl;cases e;let q:∀b o,H b=OV o->(M b\/H b=OW)->M b:=λb o e z=>z.elim id λz=>by rw[z]at e;cases e
 w_up;let f:=f.to q;let i:=i.to q;let l:∀{H':Hp},bh H H'->bd (λb=>M b\/H b=OW) H H':=λg b o Y e=>g b o e;let E:-c=-W:=by let:=congrArg eH n;simpa[wdK] using this
 intro a B;let r:bh H (upd H a (.ext (bf a []))):=bh.new B;show(.ref w,rfl,w,c,rfl,r _ _ d,λj m σ H2=>m=-W-j/\j<=-W/\(∃x y,σ=[OV (.ref w),OV (.ref a),x,y])/\LdN K M H a (dD (W.take j)) (100*j) H2,(_,rfl,KG _,(OW,OW,rfl),[],[],aC,.nil,r,(by simp[dD],by simp[dD])),?_);rintro j m σ H2 ⟨rfl,hj,⟨x,y,rfl⟩,es,bs,hA,le,g,J⟩;by_cases h:j< -W
 .show .inr ((!0,c,g _ _ d,rfl),λσ' H'=>(∃x y,σ'=[OV (.ref w),OV (.ref a),x,y])/\LdN K M H a (dD (W.take (j+1))) (100*(j+1)) H',λσ' H' z=>(-W-(j+1),!0,rfl,h,z),λv H' L=>?_);rw[ue W h];show Classical.byContradiction λhN=>?_
  cbv;let(N,ev):=L;subst N;let ev:=ev c (g _ _ d);let(dv,s,t):=f.get ev;let u:dv=aN W[j].1:=by rw[KM,wdK,KM,Kk h]at s;cases s;rfl
  subst u;let A:W[j]∈W:=KL h;let C:aJ (wdK W) W[j].1=OV (.list (W[j].2.map xH)):=iy (by rw[wdK,KQ];show nd) (Ko.mpr (_,A,rfl));let D:=G _ A;generalize O:dD (W.take j)=ld at *;generalize hx:W[j].1=k at *;generalize P:W[j].2=qs at *;let(T,_,rfl,_,_):=t.tuple
  w_up;show hN ?_;clear hN;show Ca (!0) B d f i n D C t hA le g J λy H' z=>((_,_,rfl),z)
 let:j=-W:=!0
 subst this;rw[La]at le;show .inl ((!0,c,g _ _ d,rfl),.ref a,rfl,I a H2 g B ?_);let(R,k2):=le.keys;show .dct (λz=>hM a z B) hA ((k2.keep (l g)).to λb Y Y z=>.inl z) (le.vals g (λb z=>.inl z) hM) R
def uV:DSp:=λss R=>∃W:Wd,ss=[.fr (br (wdK W))]/\(W.map λp=>p.1).Nodup/\W.length<=2000/\(∀p∈W,p.2.length<=100)/\R (.fr (br (qa (dD W)))) [.un]
def yK{K:bg}{vs:OU}{H:Hp}{Q:VK}{E:XK}(h:spD K uV vs H Q E):A8 K { nx:=λY H'=>Q .non H',rt:=Q } (vs.map some++[none,none,none]) H:=by
 cbv;let(M,ss,R,k,f,(W,rfl,nd,h1,h2,hR),l):=h;let(v,rfl):=kB k;let(v',ev,dn):=f.fr (OV v) (br (wdK W)) (by simp[tmp]);cases ev
 w_up;let g:∀(s:Sl) (E:OJ),dg (OV v,s)=[]->oas E=[]->oas ((OV v,s)::E)=[]:=λs E e1 e2=>by rw[au,e1,e2];rfl
 let dn:DN K M H v (br (wdK W)):=dn.to λb Y Y z=>.inl z;let(w,_,rfl,_):=dn.dct_of rfl;let io:∀c,¬uw [V.ref w] [Sl.fr (br (wdK W))] c:=λc z=>by
  let e:oas (tmp ([V.ref w].zip [Sl.fr (br (wdK W))]))=[]:=rfl
  unfold uw at z;rw[e]at z;cases z
 show yL f.mt dn nd h1 h2 λa H' j n i=>l _ _ _ _ hR rfl ?_;let mem:∀x s,(x,s)∈tmp ((V.ref a,Sl.fr (br (qa (dD W))))::[V.ref w].zip [Sl.un])->(x=OV (.ref a)/\s=.fr (br (qa (dD W))))\/s=.un:=λx s m=>by
  simp[tmp]at m;rcases m with m|m;show .inl m;show .inr m.2
 let g:oas (tmp ((V.ref a,Sl.fr (br (qa (dD W))))::[V.ref w].zip [Sl.un]))=[]:=rfl
 show(λb o Y e=>j b o e,λb z e=>?_,f.mt,f.pm,λx d m=>?_,λx d m=>?_,λx d m=>?_,λx S d m=>?_,by rw[g];show LA);cases e2:H b with
 |none=>show z e2
 |some o=>rw[j _ _ e2]at e;cases e
 rcases mem _ _ m with⟨e1,e2⟩|e2;cases e2;show(_,e1,i.to λb Y Y z=>z.elim id λz=>by rw[g]at z;cases z);cases e2;rcases mem _ _ m with⟨e1,e2⟩|e2 <;> cases e2
 rcases mem _ _ m with⟨e1,e2⟩|e2 <;> cases e2
 rcases mem _ _ m with⟨e1,e2⟩|e2 <;> cases e2
theorem jk{K:bg}{N:ac->Prop}{H:Hp}:∀{es:Oo}{kvs:Ou} (k:ar),es.map (λp=>p.1)=kvs.map (λp=>p.1)->DNs K N H (es.map λp=>p.2.2) (kvs.map λp=>p.2) ->
  (aJ es k=OW/\aJ kvs k=OW)\/∃p d,aJ es k=OV p/\aJ kvs k=OV d/\DN K N H p.2 d
 |[],[],k,_,_=>.inl (rfl,rfl)
 |[],_::_,k,e,_=>by simp at e
 |_::_,[],k,e,_=>by simp at e
 |p :: es,q::kvs,k,e,h=>by
  rw[Kw,Kw]at e h;injection e with e1 e2;cases h with
  |cons h1 h2 =>
   rw[aq,aq,e1];by_cases z:q.1=k;rw[N6 z,N6 z];show .inr (_,_,rfl,rfl,h1);rw[N7 z,N7 z];show jk k e2 h2
section
variable{X:Cx}{K:bg}{o e1 e2 e:ba}{to t1 t2 te tj:DE}{apos cpos pos:Pos}
def C2(to t1 t2:DE):DE:=λenv R=>to env λc env0=>(∃kvs,aV env0 c=OV (br kvs))/\t1 env0 λs1 b=>t2 b λs2 a=>∃(kvs:Ou) (k:ar) (d:ab),aM a c=OV (br kvs)/\aM a s1=OV (aN k)/\aM a s2=OV d/\R (.fr ((aJ kvs k).getD d)) a
def Eh(hK:X.K=K)(U:X.A.units+2<KI)(ho:PE X o (up K to))(h1:PE X e1 (up K t1))(h2:PE X e2 (up K t2))
  (w:j0 [e2] X.env=[(false,eval e2 X.env)]:=by rfl)
  (i:z5 o "get" X.env (eval o X.env)=eval o X.env:=by rfl)
  (l:((z4 cpos (j0 [e1,e2] X.env)).all (λx=>!x.1)&&(QD cpos (Qk [] X.env)).all (λx=>x.1.isSome)
   && decide ([e1,e2].length+([]:OR).length+(if ([]:OR).isEmpty then 0 else 1)<30))=true:=by rfl)
  (j:(apos.endLine==cpos.line)=true:=by rfl) (hs:j0 [e1,e2] X.env=(false,eval e1 X.env)::j0 [e2] X.env:=by rfl) (f:(z4 cpos (j0 [e2] X.env)).any (·.1)=false:=by rfl) :
  PE X (.Call (.Attribute o "get" apos) [e1,e2] [] cpos) (up K (C2 to t1 t2)):=by
 subst hK;show(Ae ol PySem.F.slot_dict_get PySem.F.type_dict_get (yE U) ho (b8 h1 (b8 h2 d9 w) hs) i l j hs f).imp λσ H Q h=>?_;let(M,P,H0,σ0,env,ts,R,y,ht,O):=h;show(M,P,H0,σ0,env,ts,_,y,ht,λm env0 v0 V h0 g=>?_);let((S,z),h0):=h0;let(a0,B,rfl,C,_):=(g.view (v:=v0) (s:=m) (!1) z).dct_of rfl;show((a0,B,rfl,C),M,P,H0,σ0,env0,ts++[(.ref a0,m)],_,g,h0,λs1 n v1 H1 h1 q=>(M,P,H0,σ0,n,(ts++[(.ref a0,m)])++[(v1,s1)],_,q,h1,λs2 r D H2 h2 t=>?_))
 cbv;let(kvs,k,d,E,G,I,hR):=h2;let c:Rel X.K M P H0 σ0 σ r (ts++[(.ref a0,m),(v1,s1),(D,s2)]) H2:=by simpa using t
 let J:=c.kept (v:=.ref a0) (s:=m) (!1) E;let u:=c.kept (v:=v1) (s:=s1) (!1) G;let L:=c.kept (v:=D) (s:=s2) (!1) I;let(a,es,e,W,hk,hv,N):=J.dct_of rfl;cases e;let(b,_,rfl,_,_):=u.tuple
 w_up;show(a0,b,es,k,D,rfl,rfl,u.dv,(W,kvs,hk.dv,N),λp T=>?_,λhn=>?_);rcases jk k N hv with⟨z1,_⟩|⟨p',d',z1,z2,z3⟩
 rw[T]at z1;cases z1;rw[T]at z1;cases z1;rw[z2]at hR;show O _ _ _ _ hR (c.drop.addFr z3);rcases jk k N hv with⟨_,z2⟩|⟨p',d',z1,z2,z3⟩
 rw[z2]at hR;show O _ _ _ _ hR (c.drop.addFr L);rw[hn]at z1;cases z1
def C7(i:Nat)(f:Int->Int->Int)(tj te:DE):DS:=λDD env=>(∃S kvs,env[i]?=OV (.tr S (br kvs)))/\tj env λs1 b=>∃(S:OO) (kvs:Ou) (k:ar) (n:Int),b[i]?=OV (.tr S (br kvs))/\aM b s1=OV (aN k)/\aJ kvs k=OV (.int n)/\te b λs2 a =>
 ∃(S:OO) (m:Int),a[i]?=OV (.tr S (br kvs))/\aM a s1=OV (aN k)/\aM a s2=OV (.int m)/\kvs.length<sizeLine/\DD.nx (a.set i (.tr S (br (c7 kvs k (.int (f n m))))))
def Ek(i:Nat){y:bc}{npos o:Pos}{j:ba}{op:ZI}{f:Int->Int->Int}(hK:X.K=K)(Z:X.A.units+2<KI)(hN:X.N[i]?=some y)(hp:PIp X op (ipI f))(hj:PE X j (up K tj))(he:PE X e (up K te))
  (hv:Vis X.env.scope y:=by walk_at"v0") (hd:(y==("__debug__" : bc))=false:=by decide)
  (G:(y==("__classdict__" : bc))=false:=by decide)
  (ha:∀ov iv new,augStore j ov iv new=(do Qo [new,ov,iv] (Ze ov iv new);ZT [new,ov,iv] [];pure .next):=by intros;rfl):PS X (.AugAssign (.Subscript (.Name y npos) j o) op e pos) (upS K (C7 i f tj te)):=by
 subst hK;show(BF (bJ hN hv hd G) hj (Ht Z) he hp (DY Z) ha).imp λD σ H h=>?_;let(M,P,H0,σ0,env,ts,DD,nv,q,((S0,a3,e0),ht),ok):=h;let(a,_,r,_):=q.dct e0;show(.ref a,r,M,P,H0,σ0,env,ts,_,q,ht,λs1 t v1 H1 h1 g=>?_)
 cbv;let(S1,kvs,k,n,e1,I,hg,h1):=h1;let(a1,J,u,_,L,O,Q,w):=g.dct e1;rw[r]at u;cases u;let z:=g.kept (v:=v1) (s:=s1) (!1) I;let(b,_,rfl,_,_):=z.tuple
 w_up;rcases jk k w Q with⟨_,z2⟩|⟨p,d',z1,z2,z3⟩
 rw[hg]at z2;cases z2;rw[hg]at z2;cases z2;let pv:p.2=.int n:=z3.dv.intI;show(a,b,J,k,p,rfl,rfl,z.dv,(L,kvs,O.dv,w),z1,M,P,H0,σ0,t,ts++[(.ref b,s1)],_,g,h1,λs2 l T H2 h2 C=>?_);let(S,m,e2,ek,ed,hl,hR):=h2;let c:Rel X.K M P H0 σ0 σ l (ts++[(.ref b,s1),(T,s2)]) H2:=by simpa using C
 let E:=c.kept (v:=.ref b) (s:=s1) (!1) ek;let U:=c.kept (v:=T) (s:=s2) (!1) ed;let V:T=.int m:=by cases U;rfl
 cbv;subst V;let(a',es,F,W,hH,hk,hv,Y):=c.drop.dct e2;rw[r]at F;cases F
 w_up;let a4:-es=-kvs:=by let:=congrArg eH Y;simpa using this
 show(n,m,pv,rfl,k,a,b,es,kvs,rfl,rfl,E.dv,hH,hk.dv,Y,!0,ok.nx _ _ _ hR ?_);let(p1,p2,p3):=vx (b:=b) (k:=k) (v:=.int (f n m)) (d:=.int (f n m)) Y hk hv E (.int _);let na:Nw M (aK σ l ts) a:=by let(x,A,B,e1,q1,q2):=c.drop.split e2;show .inr ?_;rw[q1,am,au];rw[r]at e1;cases e1;rw[aZ,W];simp
 let kN:bd (Nw M (aK σ l ts)) H2 (upd H2 a (.ext (bf a (oQ es k b (.int (f n m)))))):=bd.own na;show c.drop.retreeT (R:=[]) e2 r (by rw[W];simp) (!1) ?_;rw[W];show .dct aC (p2.keep kN) (p3.keep kN) p1
end
section
def tG(k:A.handled=OW)(I d:ac)(g:d≠I)(es:Array Q1)(ep:Nat) :
  Walks prog w A I [I,d] [I] es.size (λi v=>∃h:i<es.size,v=es[i].key) (λi h=>h.IsKeyIter I d i es.size ep/\∃od,h.get? d=OV od/\od.data=.dict es ep) where
 sub:=λb a=>by simp at a;simp[a]
 frame:=λY Y Y st hk=>(st.1.at λo e=>hk I (!1) o e,let ⟨od,h1,h2⟩:=st.2;(od,hk d (!1) od h1,h2))
 item:=λi s Q E hi st hQ=>by
  let(st,od,h1,h2):=st;show rT st h1 h2 hi λh' c f=>?_;show hQ _ h' s.toks (hi,rfl) (c,od,(f.2 d g).trans h1,h2) λb o a e=>(f.2 b (λh=>a (by simp[h]))).trans e
 done:=λs Q E st hQ=>by
  let(st,od,h1,h2):=st;show sM k st h1 h2 (Kz _) λh' j=>hQ h' s.toks λb o a e=>j b o (λh=>a (by simp[h])) e
 self:=λY Y Y Y st hQ=>wpAny_pyIter_keyiter st.1 hQ
def y4(g:(d==Qd)=OY)(ho:s.heap.get? d=OV o)(hc:o.ExactDict)(e:o.data=.dict es ep)(f:es.size<=2 ^ 24)
  (h : Q OY s):j4 (kq prog w) A (nf (.ref d)) Q E s:=by
 unfold nf;show jj (Qn (_,ho,hc.1) F.slot_dict_len.lookup ?_);generalize c:("dict.__len__" : String)=id0
 wp_delta
 rw[show splitId id0=OV ("dict","__len__") from by subst c;decide +kernel];subst c;show jj (QE (T := "dict") (b:=OX) (_,ho,hc.1) (by rw[isSubtype_type];kernel_rfl) ?_);show ZQ (λa=>absurd a (!2)) (λY=>?_);show ZQ (λY=>?_) (λa=>absurd (!3) a);show jj (Zc (T := "dict") (_,ho,hc.1) ?_);show js h
def qj(J:A.handled=none)(x:(d==Qd)=false)(ho:s.heap.get? d=some o)(hc:o.ExactDict)(c:o.data=.dict es ep)(y:es.size<=2 ^ 24)(S:ac)(res:ao)(q:Nat)(u:s.heap.get? S=some { cls:=.type "list",data:=.seq #[] q })
  (hR:∀h' tk j c',(∀b o,b≠S->s.heap.get? b=some o->h'.get? b=some o)->h'.get? S=some { cls:=.type "list",dict:=none,data:=.seq j c',slots:=#[] } ->
   ItemsOf (λi v=>∃h:i<es.size,v=es[i].key) j es.size->R (.ok (.ret res)) { s with heap:=h',toks:=tk }) :
  j4 (kq prog w) A.in1 (eA (.ref S) (.ref d) res)
   (λfin s'=>match fin with|.done f=>R (.ok f) s'|.again c'=>c'.quiet=true/\Qx (kq prog w) A c' R s') (λe s'=>R (.error e) s') s:=by
 let p:S≠d:=λe=>by
  rw[e,ho]at u;injection u with u;rw[u]at c;cases c
 let z:S<(~~~s):=KB u;let r:S≠(~~~s):=KO z;let E:d≠(~~~s):=KO (KB ho);let G:S ∉ [(~~~s),d]:=λB=>by
  simp at B;rcases B with e|e;show r e;show p e
 let W:=(tG (prog:=prog) (w:=w) (A:=A.in1) J (~~~s) d E es ep).toS;let key:∀(h:bb) (l tk:Nat),h.IsKeyIter (~~~s) d 0 es.size ep->h.get? d=OV o->(∀b o,b≠S->s.heap.get? b=OV o->h.get? b=OV o) ->
   h.get? S=OV { cls:=.type "list",data:=.seq #[] l }->Qx (kq prog w) A (.builtin "list.extend.loop" ([.ref S,.ref (~~~s),res],[])) R { s with heap:=h,toks:=tk }:=by intro h l tk H hd hk a;show codeAny_extend_loopS W (by rw[zg];lia) S G res es.size 0 _ #[] l rfl (KG _) (H,o,hd,c) a (ItemsOf.nil _) λs' j c' B I C=>?_;rw[Moved.eq_with B];show hR s'.heap s'.toks j c' (λb o D e=>B.heap b o (λm=>?_) (hk b o D e)) I C;rcases Kt.mp m with K|m;show D K;show absurd (KB e) (by rw[Kj.mp m];show LF _)
 unfold eA;show jj (Zc (T := "dict") (_,ho,hc.1) ?_);let h1:hI (.ref S) (.ref d)=OY:=by simp[hI,p]
 let h2:(gs "dict" == gs "list")=OY:=!2
 let h3:(gs "dict" == gs "tuple")=OY:=!2
 simp only[h1,h2,h3,NX,KW,if_false];show jj (nO x ho hc c ?_);let a:=Kq { cls:=.type "dict_keyiterator",data:=.fields #[.ref d,.int 0 0,.int es.size 0,.int ep 0] } u;let g:=Kq { cls:=.type "dict_keyiterator",data:=.fields #[.ref d,.int 0 0,.int es.size 0,.int ep 0] } ho;let k:(s.heap.push { cls:=.type "dict_keyiterator",data:=.fields #[.ref d,.int 0 0,.int es.size 0,.int ep 0] }).IsKeyIter (~~~s) d 0 es.size ep:=(_,KF _ rfl,rfl,rfl)
 show jj (q4 (y4 x g hc c y ?_));show ZQ (λY=>?_) (λY=>js (Qu F.plain_extend_loop _,key _ q _ k g (λb o Y e=>Kq _ e) a));show jj (Qa ?_);show jj ?_;show j4 _ _ (Zs S (·.push .none) >>= λY=>Zs S (·.pop)) _ _ _;show jj (QI a rfl ?_);let n:=K9 (eb (·.push du)) a rfl;show QI (hz:=by seq_fits) n rfl ?_;let t:=K9 (eb (·.pop)) n rfl;show js (Qu F.plain_extend_loop _,key _ _ _ (k.at λo e=>?_) ?_ (λb o D e=>?_) t);show(K6 _ _ r).trans ((K6 _ _ r).trans e);show(K6 _ _ p).trans ((K6 _ _ p).trans g);show(K6 _ _ (Ne.symm D)).trans ((K6 _ _ (Ne.symm D)).trans (Kq _ e))
def oC(n:A.handled=none)(m:(d==Qd)=false)(ho:s.heap.get? d=some o)(hc:o.ExactDict)(c:o.data=.dict es ep)(f:es.size<=2 ^ 24)
  (hQ:∀h' tk g,(∀b o,s.heap.get? b=some o->h'.get? b=some o)->s.heap.objs.size<=h'.objs.size->ItemsOf (λi v=>∃h:i<es.size,v=es[i].key) g es.size->Q g.toList { s with heap:=h',toks:=tk }) :
  j4 (kq prog w) A (collect (.ref d)) Q E s:=by
 let key:∀R:Z5->az->Prop,(∀h' tk a c',(∀b o,b≠(~~~s)->(s.heap.push { cls:=.type "list",data:=.seq ([]:ON).toArray }).get? b=OV o->h'.get? b=OV o)->h'.get? (~~~s)=OV { cls:=.type "list",dict:=OW,data:=.seq a c',slots:=#[] }->ItemsOf (λi v=>∃h:i<es.size,v=es[i].key) a es.size->R (.ok (.ret (.ref (~~~s)))) { s with heap:=h',toks:=tk }) ->
   Qx (kq prog w) A (.builtin "list.__iadd__" ([.ref (~~~s),.ref d],[])) R { s with heap:=s.heap.push { cls:=.type "list",data:=.seq ([]:ON).toArray } }:=λR hR=>by
  show Qr F.entry_list_iadd ?_;rw[Around.under_plainId F.plain_list_iadd _];show j4 _ A.in1 (eA (.ref (~~~s)) (.ref d) (.ref (~~~s))) _ _ _;show qj (R:=R) (A:=A) (s:={ s with heap:=s.heap.push { cls:=.type "list",data:=.seq ([]:ON).toArray } }) n m (Kq _ ho) hc c f (~~~s) _ 0 (KF _ rfl) hR
 unfold collect;show jj (wpAny_runValue (Qr F.entry_proto_collect ?_));rw[Around.under_plainId F.plain_proto_collect _];show j4 _ A.in1 (newList [] >>= λl=>again (.builtin "list.__iadd__" ([l,.ref d],[]))) _ _ s;show jj (Ql ?_);show js (Qu F.plain_list_iadd _,key _ λh' tk a c' hk j k=>?_);show j4 _ A (load (~~~s) >>= _) _ _ _;show jj (wpAny_load j ?_);show js (hQ h' tk a (λb o e=>hk b o (KO (KB e)) (Kq _ e)) (LP (KB j)) k)
def tJ(l b:ac)(items a:OF)(n z:Nat)(dd p:OC)(sl q:Oh)(ns f:OD)(j:At items ns)(k:At a f) :
  Meets (Builtin.«tuple.__lt__» ([.ref l,.ref b],[]))
   (λA R s=>s.heap.get? l=some { cls:=.type "tuple",dict:=dd,data:=.seq items n,slots:=sl }/\s.heap.get? b=some { cls:=.type "tuple",dict:=p,data:=.seq a z,slots:=q } /\
    R (.ok (.ret (.bool (HT.lexLt ns f)))) s) :=
 .of_wp λprog w A R s h=>by
  let(B,g,d,tk,os):=s;let(C,D,h):=h;let F:=AutoSeq1.sub_tuple_tuple;let u:(items.toList.zip a.toList).length=min items.size a.size:=!1
  wp_walk using wpAny_loadPart' C,wpAny_loadPart' D,QT _ (λrest b s'=>b.1=OW/\s'=(B,g,d,tk,os)/\∃i,rest=(items.toList.zip a.toList).drop i/\i<=min items.size a.size/\HT.lexLt ns f=HT.lexLt (ns.drop i) (f.drop i)) _
  case turn =>
   rintro⟨y,x⟩ rest b s' ⟨hb',rfl,i,hz,r,e⟩;let m:i<(items.toList.zip a.toList).length:=by rcases Nat.lt_or_ge i (items.toList.zip a.toList).length with h'|h';show h';rw[Lv h']at hz;cases hz
   let t:i<min items.size a.size:=u▸m;let h1:i<items.size:=Ku t (Md _ _);let h2:i<a.size:=Ku t (Nat.min_le_right _ _);rw[Lb m]at hz;injection hz with hyx hrest;let v:y=items[i]:=by let:=congrArg Prod.fst hyx;simpa using this
   let hx:x=a[i]:=by let:=congrArg Prod.snd hyx;simpa using this
   cbv;let(t1,e1):=j.2 i h1;let(t2,e2):=k.2 i h2;rw[yG (by rw[j.1];show h1) (by rw[k.1];show h2)]at e;rw[e1]at v;rw[e2]at hx;subst v hx
   w_up;show jj (QU ?_);by_cases o:ns.getD i 0=f.getD i 0
   .rw[N6 o]at e;rw[show(ns.getD i 0==f.getD i 0)=OX by simpa using o]
    wp_walk
    show(rfl,rfl,i+1,hrest,t,e)
   rw[N7 o]at e;rw[show(ns.getD i 0==f.getD i 0)=OY by simpa using o];rw[N6 (show(!false)=OX from rfl)];show jj (Qa ?_);show jj (show j4 (kq prog w) A.in1 (zs .Lt (.int (ns.getD i 0) t1) (.int (f.getD i 0) t2)) _ _ _ from wpAny_lt_int ?_);show jj (js ?_);rw[e]at h;show js (js (_,rfl,h))
  case fin =>
   rintro⟨b1,G⟩ s' ⟨hb',rfl,i,hz,r,e⟩;simp only at hb';subst hb';let E:min items.size a.size<=i:=by rcases Nat.lt_or_ge i (items.toList.zip a.toList).length with h'|h';rw[Lb h']at hz;cases hz;rwa [u]at h'
   let hv:HT.lexLt ns f=decide (items.size<a.size):=by
    rw[e];let e1:=j.1;let e2:=k.1;by_cases c:i< -f;rw[Lv (show -ns<=i by lia),Lb c,HT.lexLt_nil_cons,decide_eq_true (!0)];rw[Lv (show -f<=i by lia),decide_eq_false (!0)];cases ns.drop i with
    |nil=>show HT.lexLt_nil_nil
    |cons _ _=>show HT.lexLt_cons_nil ..
   rw[hv]at h
   wp_walk
   show(_,rfl,h)
  case h =>
   show(rfl,rfl,0,rfl,KG _,rfl)
def wb{l b:ac}{items a:OF}{n j:Nat}{c ob:Obj}{ns d:OD}{Q:ao->az->Prop}(k:s.heap.get? l=OV c)(cl:c.cls=.type "tuple")(dl:c.data=.seq items n)(m:s.heap.get? b=OV ob)(o:ob.cls=.type "tuple")(p:ob.data=.seq a j)(e:At items ns)(f:At a d)
  (r:A.units<KI) (h:Q (.bool (HT.lexLt ns d)) s):j4 (kq prog w) A (zs .Lt (.ref l) (.ref b)) Q E s:=by
 cbv;let(cls,dd,data,sl):=c;let(q,g,data2,i):=ob;simp only at cl dl o p;subst cl dl o p
 w_up;show Yj (op:=.Lt) (_,k,rfl) (_,m,rfl) F.slot_tuple_lt F.entry_tuple_lt (F.args_tuple_lt_2 _ _) (tJ l b items a n j dd g sl i ns d e f)
  (k,m,show hU _≠MW/\Q (.bool _) s from((λx=>nomatch x),h)) r
def ur(h:bb)(v:ao)(k:ar):Prop:=∃(a:ac) (o:Obj) (n:Nat) (t:Tok) (l:ac) (b:Obj) (m:Nat) (its:OF) (as:OO),v=.ref a/\h.get? a=OV o/\o.cls=.type "tuple" /\ o.data=.seq #[.int k.1 t,.ref l] n/\h.get? l=OV b/\b.cls=.type "tuple" /\ b.data=.seq its m/\At its k.2/\Reads h (.ref l) (.tuple (k.2.map db)) as
def ur.one(x:ur h v k)(y:ur h v k'):k=k':=by
 cbv;let(a,o,n,t,l,r,m,its,as,rfl,e,c,d,i0,i1,i2,b,s):=x;let(u,o',w,t',l',p,A,its',q,z,f,c',d',g,j1,j2,j,B):=y;cases z;rw[e]at f;cases f;rw[d]at d';simp at d';let(((d1,d2),rfl),C):=d';rw[i0]at g;cases g;rw[i2]at j2;cases j2
 w_up;show Prod.ext d1 (Mo (b.1.trans j.1.symm) λi h1 h2=>?_);let(_,e1):=b.2 i (by rw[<-b.1];show h1);let(_,e2):=j.2 i (by rw[<-b.1];show h1);rw[e1]at e2;let:=(Value.int.inj e2).1;simpa[Kn,h1,h2] using this
theorem Au:∀{us:ON},(∀u∈us,∃k,ur h u k)->∃fs,KatTups h us fs/\fs.length=-us/\∀f∈fs,∃x t,f=eE x t
 |[],_=>([],.nil,rfl,λf b=>by simp at b)
 |u::us,k=>by
  let(fs,h1,h2,h3):=Au (us:=us) λv hv=>k v (by simp[hv]);let(g,a,o,n,t,l,_,_,its,as,rfl,e,c,d,_):=k u (!1);show(.int g.1 t::fs,.cons e c d (by rfl) h1,by simp[h2],λf b=>?_);rcases Kt.mp b with rfl|b;show(_,t,rfl);show h3 f b
def Ck(y:A.units+64<KI)(b:ur s.heap u k)(k2:ur s.heap v k')(h:C (iw k k') s):j4 (kq prog w) A (Z2 (tuples' OX) u v) C E s:=by let(a,o,n,t,l,B,m,its,as,rfl,e,c,d,i0,i1,i2,f,g):=b;let(D,o',F,t',l',i,G,its',j,rfl,p,c',d',q,j1,j2,r,x):=k2;rw[jf]at h;show kat_lt e d p d' ?_;show kat_cons (QU ?_);show kat_go (λz=>kat_yes ?_) λz=>kat_no (oneLt_int ?_);rw[N6 (by simpa using z)]at h;show kat_cons (MX _ _ _ _ _ _ _ _ _ _ _ _ g x ?_ ?_ ?_ ?_);simp[dy,bY];simp[dy,bY];let:∀ns:OD,(gr (ns.map db)).depth<=64:=λns=>MR (GK ns);let:=this k.2;let:=Md (gr (k.2.map db)).depth (gr (k'.2.map db)).depth;lia;show kat_go (λz=>kat_yes (kat_nil ?_)) λY=>kat_no (kat_one _ _ ?_);rw[Fv]at z;rw[of_decide_eq_true z,p9]at h;show h;show wb i0 i1 i2 q j1 j2 f r (!0) h;rw[N7 (by simpa using z)]at h;show h
end
section
variable{X:Cx}{pins:Oq}{σ:St}{H:Hp}{s:az}
def Cj(I:Inv X pins σ H s)(hd:DV X.K H v (aN k))(r:bE v u):ur s.heap u k:=by
 cbv;let(n,ns):=k;let(a,xs,rfl,h,q):=DV.tupI (hd:DV X.K H v (.tuple _));let(x,y,rfl,q1,q2):=q.twoI;let(its,rv,(o,e,c,m,hd),_):=I.tuple h;let(B,i,rfl,f,g):=tH rv;rw[q1.intI]at f;let(t,rfl):=f;let(as,ra):=q2.reads I g (by simpa only[dy] using bY _);let(l,ys,rfl,h2,q2):=q2.tupI;let e2:i=cu l:=g;let e3:u=cu a:=r;subst e2 e3;let(b,p,(w,z,cl,A,d),_):=I.tuple h2
 w_up;show(a,o,m,t,l,w,A,b.toArray,as,rfl,e,c,hd,z,cl,d,by
  let(h1,h2):=FL q2 p;show(by simpa using h1,λj hj=>h2 j (by simpa using hj)),ra)
theorem mL:∀es:Oo,aS (es.map λp=>V.ref p.2.1) (es.map λp=>cu p.2.1)
 |[]=>.nil
 |_::es=>.cons rfl (mL es)
end
def wI{p:Nat->Prop}{j:Nat}(h:p j):∃i,i<=j/\p i/\∀m,m<i->¬p m:=by
 induction j using Nat.strongRecOn with
 |_ j b =>
  by_cases z:∃m,m<j/\p m;let(m,a,pm):=z;let(i,h1,h2,h3):=b m a pm;show(i,!0,h2,h3);show(j,Kz _,h,λm a pm=>z (m,a,pm))
section
variable{X:Cx}{K:bg}{e o:ba}{ta to:DE}
def Bq(K:bg):V->OU->Hp->VK->Prop:=λx vs H Q=>∃(p:ac) (xs:OU) (ks:OQ) (y:V) (k:ar),x=.ref p/\vs=[y]/\SqL K H p xs/\DVs K H xs (ks.map λk=>aN k)/\DV K H y (aN k)/\k∈ks/\ks.length<=1000000/\∀j:Nat,ks[j]?=OV k->Q (.int j) H
def Az{xs:OU}{ks:OQ}(h:DVs K H xs (ks.map λk=>aN k)){i:Nat}{k:ar}(e:ks[i]?=OV k):∃x,xs[i]?=OV x/\DV K H x (aN k):=by
 induction ks generalizing xs i with
 |nil=>simp at e
 |cons l ks z =>
  cases h with
  |cons d q =>
   cases i with
   |zero=>cases e;show(_,rfl,d)
   |succ i=>let(x,e1,d1):=z q (i:=i) (by simpa using e);show(x,by simpa using e1,d1)
def vY(P:X.A.units+80<KI):MtR X "list.index" (Bq X.K):=by
 intro pins s σ H x vs v us Q I G rv h;let(p,xs,ks,y,k,rfl,rfl,hs,d,t,hk,hz,q):=h;cases (show v=cu p from G)
 cbv;let(u,rfl,B):=rv.one;let(its,r,pl,_):=I.list hs;let R:=-r;let J:-xs=-ks:=by rw[CL d,Ki]
 let(C,rfl,rfl,stk):=fe I t B;let item:∀(m:Nat) (a:m< -its),∃b,its[m]=cu b/\cQ X.prog X.w s.heap (ks[m]'(!0)) b/\sa X.A.in1 s its[m] (.ref C) (decide (ks[m]'(!0)=k)):=λm a=>by
  cbv;let(x,e1,d1):=Az d (i:=m) (Kk (!0));let(u,e2,D):=r.get e1;rw[Kk a]at e2;cases e2;let(b,rfl,e3,st):=fe I d1 D;let(as,ra):=d1.reads I D (by simp[dy,ew,bY]);let(bs,rb):=t.reads I B (by simp[dy,ew,bY])
  w_up;let eq:=SeqAt.eqAt_reads _ _ X.A.in1 s _ _ _ _ ra rb (by simp[dy,ew,bY]) (by simp[dy,ew,bY]) (by
   let:=Md (aN (ks[m]'(!0))).depth (aN k).depth;let h2:(aN (ks[m]'(!0))).depth<=2:=by simp[m3,nn,mj]
   show X.A.in1.units+_<KI;simp[Around.in1]at *;lia)
  show(b,e3,st,?_);let e4:eu (aN (ks[m]'(!0))) (aN k)=decide (ks[m]'(!0)=k):=wL _ _;rw[e4]at eq;show eq
 let(L,f,M):=K7 hk;let(j,hj,E,ne):=wI (p:=λm=>ks[m]?=OV k) (j:=L) (by rw[Kk f,M]);let e:j< -its:=!0
 let ev:∃ev:ao->Bool,∀(m:Nat) (a:m< -its),ev its[m]=decide (ks[m]'(!0)=k):=by show(λy=>@decide (∃b,y=.ref b/\cQ X.prog X.w s.heap k b) (Classical.propDecidable _),λm a=>?_);let(b,e1,st,_):=item m a;by_cases z:ks[m]'(!0)=k;rw[decide_eq_true z];show @decide_eq_true _ (Classical.propDecidable _) (b,e1,z▸st);rw[decide_eq_false z];show @decide_eq_false _ (Classical.propDecidable _) λg=>?_;let(S,e2,st'):=g;show z ?_;rw[e1]at e2;cases e2;show cQ.inj st st'
 let(ev,c):=ev;let((cls,dd,data,sl),n,ho,hc,N,hd):=pl;simp only at hc hd;subst hc hd
 w_up;let l:ks[j]'(!0)=k:=by let:=E;rw[Kk (!0)]at this;cases this;rfl
 show Qy F.slot_list_index (_,ho,rfl) F.entry_list_index (F.args_list_index_2 _ _) (M9 p its.toArray n dd sl (.ref C) ev j (by simpa using e) (!0) ?_ λm a o=>?_) (ho,λy O=>?_,(.int j,H,I.tok _,(_,rfl),q j E));show ev its[j]=OX;rw[c j e,decide_eq_true l];show ev (its[m]'(by simpa using a))=OY;rw[c m (by simpa using a)];show decide_eq_false λz=>ne m o ?_;rw[Kk (by simp at a;lia),z];let(m,a,rfl):=M4 O;show sa _ _ (its[m]'(by simpa using a)) _ (ev (its[m]'(by simpa using a)));rw[c m (by simpa using a)];show(item m (by simpa using a)).choose_spec.2.2
def qu(to ta:DE):DE:=λenv R=>to env λs b=>∃ks:OQ,aV b s=OV (.list (ks.map λk=>aN k))/\ta b λs2 a=>∃k:ar,aV a s2=OV (aN k)/\aV a s=OV (.list (ks.map λk=>aN k))/\k∈ks/\ks.length<=1000000/\∀j:Nat,ks[j]?=OV k->R (.fr (.int j)) a
def yk{apos cpos:Pos}(hK:X.K=K)(w:X.A.units+80<KI)(ho:PE X o (up K to))(y:PE X e (up K ta))
  (l:j0 [e] X.env=[(false,eval e X.env)]:=by rfl)
  (f:z5 o "index" X.env (eval o X.env)=eval o X.env:=by rfl)
  (m:((z4 cpos (j0 [e] X.env)).all (λx=>!x.1)&&(QD cpos (Qk [] X.env)).all (λx=>x.1.isSome)&&decide ([e].length+([]:OR).length+(if ([]:OR).isEmpty then 0 else 1)<30))=true:=by rfl)
  (g:(apos.endLine==cpos.line)=true:=by rfl) (c:(z4 cpos (j0 [] X.env)).any (·.1)=false:=by rfl) :
  PE X (.Call (.Attribute o "index" apos) [e] [] cpos) (up K (qu to ta)):=by
 subst hK;show(kBm (K:=X.K) rfl ei Mz My (vY w) ho (b8 y d9 l) f m g l c).imp λσ H Q h=>?_;let(M,P,H0,σ0,env,ts,R,r,ht,z):=h;show(M,P,H0,σ0,env,ts,_,r,ht,λs1 n v1 H1 h1 d=>?_)
 cbv;let(ks,e1,h1):=h1;let(a,vs,ev,sq,q):=(d.view (v:=v1) (!1) e1).list;subst ev
 w_up;show(.inl (rfl,_,sq),M,P,H0,σ0,n,ts++[(.ref a,s1)],_,d,h1,λs2 p s H2 h2 b=>?_)
 cbv;let(k,e3,e4,hi,hz,hR):=h2;let t:=(b.view (v:=s) (!1) e3).dv;let(B,vs',ev,u,q'):=(b.view (v:=.ref a) (!1) e4).list;cases ev
 w_up;show(a,vs',ks,s,k,rfl,rfl,u,q'.dv,t,hi,hz,λj hj=>z _ _ _ _ (hR j hj) ?_);let i:Rel X.K M P H0 σ0 σ p (ts++[(.ref a,s1),(s,s2)]) H2:=by simpa using b
 show i.drop.addFr (.int _)
end
noncomputable def jY:Bool->kI->OE->Nat->Nat->Nat->StateT SortSt Sem OA:=sortPriv% PySem.Builtin.gallop
def rW:OE->OE->StateT SortSt Sem OE:=sortPriv% PySem.Builtin.mergeLo
def rX:OE->OE->StateT SortSt Sem OE:=sortPriv% PySem.Builtin.mergeHi
section
variable{prog:k5}{w:q3}{A:Around}{E:ao->az->Prop}{s:az}{κ:Zr}{a0:OE}{st:SortSt}{G:Prop}{lt:kI->kI->Bool}
def xG(prog:k5)(w:q3)(A:Around)(κ:Zr)(a0:OE)(s:az)(G:Prop)(lt:kI->kI->Bool):Prop:=∀x∈a0,∀y∈a0,∀C:Bool->az->Prop,(∀b,(G->b=lt x y)->C b s)->j4 (kq prog w) A (Z2 κ x.1 y.1) C (λY Y=>False) s
structure Sg(κ:Zr)(a0:OE)(st:SortSt):Prop where
 kind:kindOf st=κ
 perm:(k6 st).Perm a0
 failed:Zq st=none
theorem Sg.size(g:Sg κ a0 st):(k6 st).size=a0.size:=g.perm.size_eq
def Sg.mem(g:Sg κ a0 st)(h:x∈k6 st):x∈a0:=g.perm.mem_iff.mp h
def aO(hi:i<arr.size)(h:Q arr[i] st):wpS (kq prog w) A E s (QS arr i) Q st:=by rw[elem'_eq,getElem?_pos arr i hi];show ky h
def ES(hA:xG prog w A κ a0 s G lt)(g:Sg κ a0 st)(hx:x∈a0)(a:y∈a0)(h:∀b,(G->b=lt x y)->Q (OV b) st):wpS (kq prog w) A E s (lt' x y) Q st:=by rw[lt'_eq];show ki (Q4 ?_);rw[g.kind];show ki (Zm (QW (KX (hA x hx y a (λb s'=>s'=s/\(G->b=lt x y)) λY z=>(rfl,z)) (λb s' e=>(e.1,?_)) λY Y x=>x.elim)));show ky (h b e.2)
def gK(xs:OE)(i:Nat):kI:=xs.getD i (.none,.none)
def nE(hA:xG prog w A κ a0 s G lt)(g:Sg κ a0 st)(hi:i<a0.size)(hj:j<a0.size)(h:∀b,(G->b=lt (gK (k6 st) i) (gK (k6 st) j))->Q (OV b) st):wpS (kq prog w) A E s (ltAt' i j) Q st:=by
 rw[ltAt'_eq];let hi:i<(k6 st).size:=by rw[g.size];show hi
 let hj:j<(k6 st).size:=by rw[g.size];show hj
 show ki (Q4 (ki (aO hi (ki (aO hj ?_)))));show ES hA g (g.mem (et _)) (g.mem (et _)) λb z=>h b (by simpa[gK,hi,hj] using z)
structure En{β γ:Type}(Y K:β->SortSt->Prop)(G:γ->SortSt->Prop)(Q:ForInStep (Option γ×β)->SortSt->Prop):Prop where
 y : ∀d st,Y d st->Q (.yield (none,d)) st
 d : ∀d st,K d st->Q (.done (none,d)) st
 r : ∀v d st,G v st->Q (.done (some v,d)) st
def oR(J:Nat->β->SortSt->Prop)(K:β->SortSt->Prop)(G:γ->SortSt->Prop)
  (step:∀i d st,a<=i->i<b->J i d st->∀Q,En (J (i+1)) K G Q->wpS (kq prog w) A E s (f i (Pm OW d)) Q st)
  (h : J a c st) (e:∀d st',J (max a b) d st'->K d st') (hK:∀d st',K d st'->Q (Pm OW d) st') (hG:∀v d st',G v st'->Q (Pm (OV v) d) st'):wpS (kq prog w) A E s (forIn [a:b] (Pm OW c) f) Q st:=by show wpS_forRange (I:=λi c st'=>∃d,c=(Pm OW d)/\J i d st') (λi c st' h1 h2 h3=>?_) (λc st' h3=>?_) ⟨c,rfl,h⟩;let(d,rfl,h3):=h3;show step i d st' h1 h2 h3 _ ⟨λd Y h=>⟨d,rfl,h⟩,hK,hG⟩;let(d,rfl,h3):=h3;show hK _ _ (e _ _ h3)
noncomputable def bey(left:Bool)(key:kI)(arr:OE)(k:Nat):StateT SortSt Sem (Option Bool):=do
 let x <-QS arr k
 if left=OX then lt' x key else do
  let r <-lt' key x
  pure (r.map (!·))
def xl(hA:xG prog w A κ a0 s G lt)(g:Sg κ a0 st)(hk:key∈a0)(a:∀x∈arr,x∈a0)(c:k<arr.size)(h:∀b,Q (OV b) st):wpS (kq prog w) A E s (bey left key arr k) Q st:=by show ki (aO c ?_);let hx:=a _ (et c);split;show ES hA g hx hk λb Y=>h b;show ki (ES hA g hk hx λb Y=>ky (h _))
def fW(hA:xG prog w A κ a0 s G lt)(g:Sg κ a0 st)(hk:key∈a0)(b:∀x∈arr,x∈a0)(m:base+n<=arr.size)(o:a<n)(h:∀k,k<=n->Q (OV k) st):wpS (kq prog w) A E s (jY left key arr base n a) Q st:=by
 show ki (xl (k:=base+a) hA g hk b (!0) λr=>?_);let fin:∀{f}{lo hi:Nat}{F},hi<=n->(∀i lo hi,hi<=n->wpS (kq prog w) A E s (f i (OW,lo,hi)) (λr st'=>∃lo hi,hi<=n/\st'=st/\(r=.yield (OW,lo,hi)\/r=.done (OW,lo,hi))) st)->(∀lo hi,hi<=n->wpS (kq prog w) A E s (F (OW,lo,hi)) Q st)->wpS (kq prog w) A E s ((forIn [:n] ((OW:Oa),lo,hi) f:StateT SortSt Sem (Oa×Nat×Nat)) >>= F) Q st:=λ{f lo hi F} c j hF=>by
  show ki (oR (λY d st'=>d.2<=n/\st'=st) (λd st'=>d.2<=n/\st'=st) (λY Y=>False) (λi d st' Y Y hd Y nD=>?_) (c,rfl) (λY Y h=>h) (λd st' hd=>?_) λY Y Y z=>z.elim);let(lo,hi):=d;let(hd,rfl):=hd;show wpS_mono (j i lo hi hd) λr st2 e=>?_;let(l,h,h1,h2,h3):=e;rcases h3 with rfl|rfl;show nD.y _ _ (h1,h2);show nD.d _ _ (h1,h2);let(lo,hi):=d;let(hd,rfl):=hd;show hF lo hi hd
 cases r with
 |true =>
  show ki (oR (λY Y st'=>st'=st) (λY st'=>st'=st) (λY Y=>False) (λi d st' Y Y hd Y nD=>?_) rfl (λY Y h=>h) (λd st' hd=>?_) λY Y Y z=>z.elim);subst hd;dsimp only;split;show ky (nD.d _ _ rfl);show ki (xl (k:=base+(a+d.2)) hA g hk b (!0) λr=>?_);cases r;show ky (nD.d _ _ rfl);show ky (nD.y _ _ rfl);subst hd;show fin (!0) (λi lo hi hd=>?_) λlo hi hd=>ky (h _ hd);dsimp only;split;show ky (_,_,hd,rfl,.inr rfl);show ki (xl (k:=base+(lo+(hi-lo) / 2)) hA g hk b (!0) λr=>?_);cases r;show ky (_,_,!0,rfl,.inl rfl);show ky (_,_,hd,rfl,.inl rfl)
 |false =>
  show ki (oR (λY Y st'=>st'=st) (λY st'=>st'=st) (λY Y=>False) (λi d st' Y Y hd Y nD=>?_) rfl (λY Y h=>h) (λd st' hd=>?_) λY Y Y z=>z.elim);subst hd;dsimp only;split;show ky (nD.d _ _ rfl);show ki (xl (k:=base+(a-d.2)) hA g hk b (!0) λr=>?_);cases r;show ky (nD.y _ _ rfl);show ky (nD.d _ _ rfl);subst hd;show fin (!0) (λi lo hi hd=>?_) λlo hi hd=>ky (h _ hd);dsimp only;split;show ky (_,_,hd,rfl,.inr rfl);show ki (xl (k:=base+(lo+(hi-lo) / 2)) hA g hk b (!0) λr=>?_);cases r;show ky (_,_,!0,rfl,.inl rfl);show ky (_,_,hd,rfl,.inl rfl)
def ay{α:Type}{c:Prop} [Decidable c]{x y:StateT SortSt Sem α}{Q:α->SortSt->Prop}(h1:c->wpS (kq prog w) A E s x Q st)(h2:¬c->wpS (kq prog w) A E s y Q st):wpS (kq prog w) A E s (if c then x else y) Q st:=by split;show h1 ‹_›;show h2 ‹_›
structure Sm(st st':SortSt):Prop where
 kind:kindOf st'=kindOf st
 arr:k6 st'=k6 st
 pend:qb st'=qb st
 failed:Zq st'=Zq st
def Sm.refl(st:SortSt):Sm st st:=(rfl,rfl,rfl,rfl)
def Sm.sg(h:Sm st st')(g:Sg κ a0 st):Sg κ a0 st':=(h.kind.trans g.kind,by rw[h.arr];show g.perm,h.failed.trans g.failed)
def Sm.gal(h:Sm st st')(n:Nat):Sm st (SortSt.mk' (kindOf st') (k6 st') (qb st') n (Zq st')):=(h.1,h.2,h.3,h.4)
def Mp(a b out:OE)(i j:Nat):Prop:=(out.toList++(a.toList.drop i++b.toList.drop j)).Perm (a.toList++b.toList)
def ji(a:OE)(i:Nat):(a.extract i a.size).toList=a.toList.drop i:=by rw[ip,LH,Lg (!1)]
def mf(a:OE)(i k:Nat):(a.extract i (i+k)).toList=(a.toList.drop i).take k:=by rw[ip,LH,Nat.add_sub_cancel_left]
def mv{l t x y:List kI}:((l++t)++(x++y)).Perm (l++(x++(t++y))):=by rw[KU];show eh l ?_;rw[<-KU,<-KU];show eT y Li
section
variable{a b out:OE}{i j:Nat}
def Mp.dn(h:Mp a b out i j):(out++a.extract i a.size++b.extract j b.size).toList.Perm (a.toList++b.toList):=by rw[dw,dw,ji,ji,KU];show h
def Mp.la(h:Mp a b out i j):(out++b.extract j b.size++a.extract i a.size).toList.Perm (a.toList++b.toList):=by rw[dw,dw,ji,ji,KU];show(eh _ Li).trans h
def Mp.ra(h:Mp a b out i j)(k:Nat):Mp a b (out++a.extract i (i+k)) (i+k) j:=by unfold Mp;rw[dw,mf,KU,<-NM,<-KU (List.take _ _),LU];show h
def Mp.rb(h:Mp a b out i j)(k:Nat):Mp a b (out++b.extract j (j+k)) i (j+k):=by unfold Mp;rw[dw,mf,<-NM];show mv.trans ?_;rw[LU];show h
def vT(hi:i<a.size):out.push a[i]=out++a.extract i (i+1):=by apply u2.mp;rw[dw,mf,oj,Lb (by simpa using hi)];simp
def Mp.pa(h:Mp a b out i j)(hi:i<a.size):Mp a b (out.push a[i]) (i+1) j:=vT (out:=out) hi▸h.ra 1
def Mp.pb(h:Mp a b out i j)(hj:j<b.size):Mp a b (out.push b[j]) i (j+1):=vT (out:=out) hj▸h.rb 1
end
structure Mi(a b:OE)(n:Nat)(out:OE)(i j:Nat):Prop where
 mp : Mp a b out i j
 ia : i+1<a.size
 ib : j<b.size
 le : n<=i+j
def Mi.to(h:Mi a b n out i j)(c:m<=n):Mi a b m out i j:=(h.1,h.2,h.3,Kr c h.4)
def Hp'(a b out:OE)(i j:Nat):Prop:=(out.toList++(a.toList.take i++b.toList.take j)).Perm (a.toList++b.toList)
def jh(a:OE)(i:Nat):(a.extract 0 i).toList=a.toList.take i:=by rw[ip,LH];simp
section
variable{a b out:OE}{i j:Nat}
def Hp'.dn(h:Hp' a b out i j):(a.extract 0 i++b.extract 0 j++out.reverse).toList.Perm (a.toList++b.toList):=by rw[dw,dw,jh,jh,hZ];show(Li.trans (eT _ (oo _))).trans h
def Hp'.la(h:Hp' a b out i j):(b.extract 0 j++a.extract 0 i++out.reverse).toList.Perm (a.toList++b.toList):=by rw[dw,dw,jh,jh,hZ];show(Li.trans ((eT _ (oo _)).trans (eh _ Li))).trans h
def iX(a:OE)(hk:k<=i):a.toList.take i=a.toList.take k++(a.extract k i).toList:=by
 rw[ip,LH]
 conv=>lhs;rw[show i=k+(i-k) by lia]
 rw[List.take_add]
def Hp'.ra(h:Hp' a b out i j)(hk:k<=i):Hp' a b (out++(a.extract k i).reverse) k j:=by unfold Hp' at h ⊢;rw[iX a hk,KU]at h;rw[dw,hZ];show mv.trans ((eh _ (eh _ (eT _ (oo _)))).trans h)
def Hp'.rb(h:Hp' a b out i j)(hk:k<=j):Hp' a b (out++(b.extract k j).reverse) i k:=by unfold Hp' at h ⊢;rw[iX b hk]at h;rw[dw,hZ,KU];show List.Perm.trans (eh _ ?_) h;show(eT _ (oo _)).trans (Li.trans (by rw[KU]))
def vS(hi:i<a.size):out.push a[i]=out++(a.extract i (i+1)).reverse:=by apply u2.mp;rw[dw,hZ,mf,oj,Lb (by simpa using hi)];simp
def Hp'.pa(h:Hp' a b out (i+1) j)(hi:i<a.size):Hp' a b (out.push a[i]) i j:=vS (out:=out) hi▸h.ra (LD i)
def Hp'.pb(h:Hp' a b out i (j+1))(hj:j<b.size):Hp' a b (out.push b[j]) i j:=vS (out:=out) hj▸h.rb (LD j)
end
structure Hi(a b:OE)(n:Nat)(out:OE)(i j:Nat):Prop where
 mp : Hp' a b out i j
 i0 : 1<=i
 ia : i<=a.size
 j1 : 2<=j
 ib : j<=b.size
 le : n+(i+j)<=a.size+b.size
def Hi.to(h:Hi a b n out i j)(c:m<=n):Hi a b m out i j:=(h.1,h.2,h.3,h.4,h.5,Kr (!0) h.6)
end
noncomputable def lE:Nat->StateT SortSt Sem Unit:=sortPriv% PySem.Builtin.setMinGallop
abbrev F7:=ForInStep (Of×OE×Nat×Nat×Nat×Nat×Nat)
abbrev F5:=ForInStep (Of×OE×Nat×Nat×Nat)
section
variable(a b:OE)
def lD(o:OE)(i j:Nat):=o++a.extract i a.size++b.extract j b.size
noncomputable def lL(o:OE)(i j:Nat):=o++b.extract j b.size++a.extract i a.size
def g3(g x y:Nat)(o:OE)(i j:Nat):StateT SortSt Sem F7:=QS a i >>= λv=>if (i+1+1==a.size)=OX then pure (.done (OV (lL a b (o.push v) (i+1) j),o.push v,i+1,j,g,x,y)) else if (decide (x<7)&&decide (y<7))=OX then pure (.done (OW,o.push v,i+1,j,g,x,y)) else pure (.yield (OW,o.push v,i+1,j,g,x,y))
def g2k(g x y:Nat)(o:OE)(i j:Nat):OA->StateT SortSt Sem F7
 |some k=>if k>0 then if (j+k==b.size)=OX then pure (.done (OV (lD a b (o++b.extract j (j+k)) i (j+k)),o++b.extract j (j+k),i,j+k,g,x,k)) else g3 a b g x k (o++b.extract j (j+k)) i (j+k) else g3 a b g x k o i j
 |_=>pure (.done (OV (lD a b o i j),o,i,j,g,x,y))
def g2(g x y:Nat)(o:OE)(i j:Nat):StateT SortSt Sem F7:=QS b j >>= λv=>if (j+1==b.size)=OX then pure (.done (OV (lD a b (o.push v) i (j+1)),o.push v,i,j+1,g,x,y)) else QS a i >>= λu=>jY OX u b (j+1) (b.size-(j+1)) 0 >>= g2k a b g x y (o.push v) i (j+1)
def g1k(g x y:Nat)(o:OE)(i j:Nat):OA->StateT SortSt Sem F7
 |some k=>if k>0 then if (i+k+1==a.size)=OX then pure (.done (OV (lL a b (o++a.extract i (i+k)) (i+k) j),o++a.extract i (i+k),i+k,j,g,k,y)) else if (i+k==a.size)=OX then pure (.done (OV (lD a b (o++a.extract i (i+k)) (i+k) j),o++a.extract i (i+k),i+k,j,g,k,y)) else g2 a b g k y (o++a.extract i (i+k)) (i+k) j else g2 a b g k y o i j
 |_=>pure (.done (OV (lD a b o i j),o,i,j,g,x,y))
def g1(g x y:Nat)(o:OE)(i j:Nat):StateT SortSt Sem F7:=lE g >>= λY=>QS b j >>= λv=>jY OY v a i (a.size-i) 0 >>= g1k a b g x y o i j
def lo3(_:Nat)(s:Of×OE×Nat×Nat×Nat×Nat×Nat):StateT SortSt Sem F7:=if s.2.2.2.2.1>1 then g1 a b (s.2.2.2.2.1-1) s.2.2.2.2.2.1 s.2.2.2.2.2.2 s.2.1 s.2.2.1 s.2.2.2.1 else g1 a b s.2.2.2.2.1 s.2.2.2.2.2.1 s.2.2.2.2.2.2 s.2.1 s.2.2.1 s.2.2.2.1
def JW(s:Of×OE×Nat×Nat×Nat×Nat×Nat):StateT SortSt Sem F5:=match s.1 with
 |some r=>pure (.done (OV r,s.2.1,s.2.2.1,s.2.2.2.1,s.2.2.2.2.1))
 |none=>lE (s.2.2.2.2.1+1) >>= λY=>pure (.yield (OW,s.2.1,s.2.2.1,s.2.2.2.1,s.2.2.2.2.1+1))
def ID(g:Nat)(s:Of×OE×Nat×Nat×Nat×Nat):StateT SortSt Sem F5:=match s.1 with
 |some r=>pure (.done (OV r,s.2.1,s.2.2.1,s.2.2.2.1,g))
 |none=>liftM (H7 "list.sort.gallop") >>= λY=>forIn [:a.size+b.size] (OW,s.2.1,s.2.2.1,s.2.2.2.1,g+1,s.2.2.2.2.1,s.2.2.2.2.2) (lo3 a b) >>= JW
def lo2(g:Nat)(_:Nat)(s:Of×OE×Nat×Nat×Nat×Nat):StateT SortSt Sem (ForInStep (Of×OE×Nat×Nat×Nat×Nat)):=QS b s.2.2.2.1 >>= λv=>QS a s.2.2.1 >>= λu=>lt' v u >>= fun
 |some w=>if w=OX then QS b s.2.2.2.1 >>= λv=>if (s.2.2.2.1+1==b.size)=OX then pure (.done (OV (lD a b (s.2.1.push v) s.2.2.1 (s.2.2.2.1+1)),s.2.1.push v,s.2.2.1,s.2.2.2.1+1,0,s.2.2.2.2.2+1)) else if s.2.2.2.2.2+1≥g then pure (.done (OW,s.2.1.push v,s.2.2.1,s.2.2.2.1+1,0,s.2.2.2.2.2+1)) else pure (.yield (OW,s.2.1.push v,s.2.2.1,s.2.2.2.1+1,0,s.2.2.2.2.2+1))
  else QS a s.2.2.1 >>= λv=>if (s.2.2.1+1+1==a.size)=OX then pure (.done (OV (lL a b (s.2.1.push v) (s.2.2.1+1) s.2.2.2.1),s.2.1.push v,s.2.2.1+1,s.2.2.2.1,s.2.2.2.2.1+1,0)) else if s.2.2.2.2.1+1≥g then pure (.done (OW,s.2.1.push v,s.2.2.1+1,s.2.2.2.1,s.2.2.2.2.1+1,0)) else pure (.yield (OW,s.2.1.push v,s.2.2.1+1,s.2.2.2.1,s.2.2.2.2.1+1,0))
 |_=>pure (.done (OV (lD a b s.2.1 s.2.2.1 s.2.2.2.1),s.2.1,s.2.2.1,s.2.2.2.1,s.2.2.2.2.1,s.2.2.2.2.2))
def lo1(_:Nat)(s:Of×OE×Nat×Nat×Nat):StateT SortSt Sem F5:=forIn [:a.size+b.size] (OW,s.2.1,s.2.2.1,s.2.2.2.1,0,0) (lo2 a b s.2.2.2.2) >>= ID a b s.2.2.2.2
def lo0(v:kI):StateT SortSt Sem OE:=if (1==b.size)=OX then pure (lD a b #[v] 0 1) else if (0+1==a.size)=OX then pure (lL a b #[v] 0 1) else get >>= λ(t:SortSt)=>forIn [:a.size+b.size] (OW,#[v],0,1,(sortPriv% PySem.Builtin.SortState.minGallop) t) (lo1 a b) >>= λs=>match s.1 with
 |some r=>pure r
 |none=>liftM (Nc "internal:list.sort.merge-bound" : Sem OE)
def Hf:rW a b=(liftM (H7 "list.sort.merge-lo") >>= λY=>QS b 0 >>= lo0 a b):=by kernel_rfl
noncomputable def hD(o:OE)(i j:Nat):=a.extract 0 i++b.extract 0 j++o.reverse
def hF(o:OE)(i j:Nat):=b.extract 0 j++a.extract 0 i++o.reverse
abbrev G7:=ForInStep (Of×Nat×Nat×OE×Nat×Nat×Nat)
abbrev G5:=ForInStep (Of×Nat×Nat×OE×Nat)
def h3(g x y:Nat)(o:OE)(i j:Nat):StateT SortSt Sem G7:=QS a (i-1) >>= λv=>if (i-1==0)=OX then pure (.done (OV (hD a b (o.push v) (i-1) j),i-1,j,o.push v,g,x,y)) else if (decide (x<7)&&decide (y<7))=OX then pure (.done (OW,i-1,j,o.push v,g,x,y)) else pure (.yield (OW,i-1,j,o.push v,g,x,y))
def h2k(g x y:Nat)(o:OE)(i j:Nat):OA->StateT SortSt Sem G7
 |some p=>if j-p>0 then if (p==1)=OX then pure (.done (OV (hF a b (o++(b.extract p j).reverse) i p),i,p,o++(b.extract p j).reverse,g,x,j-p)) else if (p==0)=OX then pure (.done (OV (hD a b (o++(b.extract p j).reverse) i p),i,p,o++(b.extract p j).reverse,g,x,j-p)) else h3 a b g x (j-p) (o++(b.extract p j).reverse) i p else h3 a b g x (j-p) o i j
 |_=>pure (.done (OV (hD a b o i j),i,j,o,g,x,y))
def h2(g x y:Nat)(o:OE)(i j:Nat):StateT SortSt Sem G7:=QS b (j-1) >>= λv=>if (j-1==1)=OX then pure (.done (OV (hF a b (o.push v) i (j-1)),i,j-1,o.push v,g,x,y)) else QS a (i-1) >>= λu=>jY OX u b 0 (j-1) (j-1-1) >>= h2k a b g x y (o.push v) i (j-1)
def h1k(g x y:Nat)(o:OE)(i j:Nat):OA->StateT SortSt Sem G7
 |some p=>if i-p>0 then if (p==0)=OX then pure (.done (OV (hD a b (o++(a.extract p i).reverse) p j),p,j,o++(a.extract p i).reverse,g,i-p,y)) else h2 a b g (i-p) y (o++(a.extract p i).reverse) p j else h2 a b g (i-p) y o i j
 |_=>pure (.done (OV (hD a b o i j),i,j,o,g,x,y))
def h1(g x y:Nat)(o:OE)(i j:Nat):StateT SortSt Sem G7:=lE g >>= λY=>QS b (j-1) >>= λv=>jY OY v a 0 i (i-1) >>= h1k a b g x y o i j
def hi3(_:Nat)(s:Of×Nat×Nat×OE×Nat×Nat×Nat):StateT SortSt Sem G7:=if s.2.2.2.2.1>1 then h1 a b (s.2.2.2.2.1-1) s.2.2.2.2.2.1 s.2.2.2.2.2.2 s.2.2.2.1 s.2.1 s.2.2.1 else h1 a b s.2.2.2.2.1 s.2.2.2.2.2.1 s.2.2.2.2.2.2 s.2.2.2.1 s.2.1 s.2.2.1
def J5(s:Of×Nat×Nat×OE×Nat×Nat×Nat):StateT SortSt Sem G5:=match s.1 with
 |some r=>pure (.done (OV r,s.2.1,s.2.2.1,s.2.2.2.1,s.2.2.2.2.1))
 |none=>lE (s.2.2.2.2.1+1) >>= λY=>pure (.yield (OW,s.2.1,s.2.2.1,s.2.2.2.1,s.2.2.2.2.1+1))
def IH(g:Nat)(s:Of×Nat×Nat×OE×Nat×Nat):StateT SortSt Sem G5:=match s.1 with
 |some r=>pure (.done (OV r,s.2.1,s.2.2.1,s.2.2.2.1,g))
 |none=>liftM (H7 "list.sort.gallop") >>= λY=>forIn [:a.size+b.size] (OW,s.2.1,s.2.2.1,s.2.2.2.1,g+1,s.2.2.2.2.1,s.2.2.2.2.2) (hi3 a b) >>= J5
def hi2(g:Nat)(_:Nat)(s:Of×Nat×Nat×OE×Nat×Nat):StateT SortSt Sem (ForInStep (Of×Nat×Nat×OE×Nat×Nat)):=QS b (s.2.2.1-1) >>= λv=>QS a (s.2.1-1) >>= λu=>lt' v u >>= fun
 |some w=>if w=OX then QS a (s.2.1-1) >>= λv=>if (s.2.1-1==0)=OX then pure (.done (OV (hD a b (s.2.2.2.1.push v) (s.2.1-1) s.2.2.1),s.2.1-1,s.2.2.1,s.2.2.2.1.push v,s.2.2.2.2.1+1,0)) else if s.2.2.2.2.1+1≥g then pure (.done (OW,s.2.1-1,s.2.2.1,s.2.2.2.1.push v,s.2.2.2.2.1+1,0)) else pure (.yield (OW,s.2.1-1,s.2.2.1,s.2.2.2.1.push v,s.2.2.2.2.1+1,0))
  else QS b (s.2.2.1-1) >>= λv=>if (s.2.2.1-1==1)=OX then pure (.done (OV (hF a b (s.2.2.2.1.push v) s.2.1 (s.2.2.1-1)),s.2.1,s.2.2.1-1,s.2.2.2.1.push v,0,s.2.2.2.2.2+1)) else if s.2.2.2.2.2+1≥g then pure (.done (OW,s.2.1,s.2.2.1-1,s.2.2.2.1.push v,0,s.2.2.2.2.2+1)) else pure (.yield (OW,s.2.1,s.2.2.1-1,s.2.2.2.1.push v,0,s.2.2.2.2.2+1))
 |_=>pure (.done (OV (hD a b s.2.2.2.1 s.2.1 s.2.2.1),s.2.1,s.2.2.1,s.2.2.2.1,s.2.2.2.2.1,s.2.2.2.2.2))
def hi1(_:Nat)(s:Of×Nat×Nat×OE×Nat):StateT SortSt Sem G5:=forIn [:a.size+b.size] (OW,s.2.1,s.2.2.1,s.2.2.2.1,0,0) (hi2 a b s.2.2.2.2) >>= IH a b s.2.2.2.2
def hi0(v:kI):StateT SortSt Sem OE:=if (a.size-1==0)=OX then pure (hD a b #[v] (a.size-1) b.size) else if (b.size==1)=OX then pure (hF a b #[v] (a.size-1) b.size) else get >>= λ(t:SortSt)=>forIn [:a.size+b.size] (OW,a.size-1,b.size,#[v],(sortPriv% PySem.Builtin.SortState.minGallop) t) (hi1 a b) >>= λs=>match s.1 with
 |some r=>pure r
 |none=>liftM (Nc "internal:list.sort.merge-bound" : Sem OE)
def Hq:rX a b=(liftM (H7 "list.sort.merge-hi") >>= λY=>QS a (a.size-1) >>= hi0 a b):=by kernel_rfl
end
section
variable{prog:k5}{w:q3}{A:Around}{E:ao->az->Prop}{s:az}{κ:Zr}{a0:OE}{st st2:SortSt}{G:Prop}{lt:kI->kI->Bool}{a b out:OE}{n i j x y z:Nat}
structure Mg(prog:k5)(w:q3)(A:Around)(s:az)(κ:Zr)(G:Prop)(lt:kI->kI->Bool)(a0:OE)(st:SortSt)(a b:OE):Prop where
 hA : xG prog w A κ a0 s G lt
 g : Sg κ a0 st
 ma : ∀x∈a,x∈a0
 mb : ∀x∈b,x∈a0
def MgR(st:SortSt)(a b v:OE)(st':SortSt):Prop:=Sm st st'/\v.toList.Perm (a.toList++b.toList)
def MgY(st:SortSt)(a b:OE)(n:Nat)(α:Type)(d:OE×Nat×Nat×α)(st':SortSt):Prop:=Sm st st'/\Mi a b n d.1 d.2.1 d.2.2.1
def IM(c:Sm st st2)(m:Mi a b n out i j)(nD:En (MgY st a b n _) (MgY st a b n _) (MgR st a b) Q):wpS (kq prog w) A E s (g3 a b x y z out i j) Q st2:=by
 let h:=m.ia;let k:=m.le;let f:i<a.size:=!0
 show ki (aO f (ay (λY=>ky (nD.r _ _ _ (c,(m.mp.pa f).la))) λe=>?_));let g:Mi a b n (out.push a[i]) (i+1) j:=(m.mp.pa f,by simp at e;lia,m.ib,!0)
 show ay (λY=>ky (nD.d _ _ (c,g))) λY=>ky (nD.y _ _ (c,g))
def IN(c:Mg prog w A s κ G lt a0 st a b)(d:Sm st st2)(m:Mi a b n out i j)(nD:En (MgY st a b n _) (MgY st a b n _) (MgR st a b) Q):wpS (kq prog w) A E s (g2 a b x y z out i j) Q st2:=by
 let m2:=m.ib;let h:=m.ia;let k:=m.le;show ki (aO m2 (ay (λY=>ky (nD.r _ _ _ (d,(m.mp.pb m2).dn))) λe=>?_));let f:Mi a b n (out.push b[j]) i (j+1):=(m.mp.pb m2,h,by simp at e;lia,!0)
 let l:=f.ib;show ki (aO (Nat.lt_of_succ_lt h) (ki (fW c.hA (d.sg c.g) (c.ma _ (et _)) c.mb (!0) (!0) λq o=>?_)));show ay (λY=>ay (λY=>ky (nD.r _ _ _ (d,(f.mp.rb q).dn))) λe=>IM d (f.mp.rb q,h,by simp at e;lia,!0) nD) λY=>IM d f nD
def IP(c:Mg prog w A s κ G lt a0 st a b)(d:Sm st st2)(m:Mi a b n out i j)(nD:En (MgY st a b n _) (MgY st a b n _) (MgR st a b) Q):wpS (kq prog w) A E s (g1 a b x y z out i j) Q st2:=by let m2:=m.ib;let f:=m.ia;let h:=m.le;let d:=d.gal x;show ki (Qp (ki (aO m2 (ki (fW c.hA (d.sg c.g) (c.mb _ (et _)) c.ma (!0) (!0) λq k=>?_)))));show ay (λY=>ay (λY=>ky (nD.r _ _ _ (d,(m.mp.ra q).la))) λe=>ay (λY=>ky (nD.r _ _ _ (d,(m.mp.ra q).dn))) λe2=>IN c d (m.mp.ra q,by simp at e e2;lia,m2,!0) nD) λY=>IN c d m nD
def ET(c:Mg prog w A s κ G lt a0 st a b)(e:Sm st st2)(m:Mi a b (n+1) d.1 d.2.1 d.2.2.1)(nD:En (MgY st a b (n+1) _) (λY Y=>False) (MgR st a b) Q):wpS (kq prog w) A E s (ID a b x (OW,d)) Q st2:=by show ki (Zm (Qa (rfl,ki (oR (λY=>MgY st a b (n+1) _) (MgY st a b (n+1) _) (MgR st a b) (λk d st2 Y Y z Y nD=>?_) (e,m) (λY Y z=>z) (λd st2 z=>?_) λv d st' z=>ky (nD.r _ _ _ z)))));show ay (λY=>IP c z.1 z.2 nD) λY=>IP c z.1 z.2 nD;show ki (Qp (ky (nD.y _ _ (z.1.gal _,z.2))))
def Hg(c:Mg prog w A s κ G lt a0 st a b)(k:Sm st st2)(m:Mi a b n d.1 d.2.1 d.2.2.1)(nD:En (λd st'=>st'=st2/\Mi a b (n+1) d.1 d.2.1 d.2.2.1) (λd st'=>st'=st2/\Mi a b (n+1) d.1 d.2.1 d.2.2.1) (MgR st a b) Q):wpS (kq prog w) A E s (lo2 a b x y (OW,d)) Q st2:=by
 let(out,i,j,o,p):=d;let m2:j<b.size:=m.ib;let l:i+1<a.size:=m.ia;let q:n<=i+j:=m.le;let h:i<a.size:=!0
 show ki (aO m2 (ki (aO h (ki (ES c.hA (k.sg c.g) (c.mb _ (et _)) (c.ma _ (et _)) λr Y=>?_)))));cases r;show ki (aO h (ay (λY=>ky (nD.r _ _ _ (k,(m.mp.pa h).la))) λe=>?_));let f:Mi a b (n+1) (out.push a[i]) (i+1) j:=(m.mp.pa h,by simp at e;lia,m2,!0)
 show ay (λY=>ky (nD.d _ _ (rfl,f))) λY=>ky (nD.y _ _ (rfl,f));show ki (aO m2 (ay (λY=>ky (nD.r _ _ _ (k,(m.mp.pb m2).dn))) λe=>?_));let f:Mi a b (n+1) (out.push b[j]) i (j+1):=(m.mp.pb m2,l,by simp at e;lia,!0)
 show ay (λY=>ky (nD.d _ _ (rfl,f))) λY=>ky (nD.y _ _ (rfl,f))
def v4(c:Mg prog w A s κ G lt a0 st a b)(p:1<=a.size)(g:1<=b.size)(h:∀st' out,Sm st st'->out.toList.Perm (a.toList++b.toList)->Q out st'):wpS (kq prog w) A E s (rW a b) Q st:=by
 let e:Mp a b #[b[0]] 0 1:=Mp.pb (a:=a) (out:=#[]) (i:=0) (j:=0) (t7 _) g;rw[Hf];show ki (Zm (Qa (rfl,ki (aO g ?_))));show ay (λY=>ky (h _ _ (.refl _) e.dn)) λl=>ay (λY=>ky (h _ _ (.refl _) e.la)) λo=>?_;let e:Mi a b 1 #[b[0]] 0 1:=(e,by simp at o;lia,by simp at l;lia,!0)
 show ki (Q4 (ki (oR (λn=>MgY st a b (n+1) _) (λY Y=>False) (MgR st a b) (λn d f Y hn z Y nD=>?_) (.refl _,e) (λd st' z=>?_) (λY Y z=>z.elim) λv d st' z=>ky (h _ _ z.1 z.2))));let(out,i,j,mg):=d;show ki (oR (λk d st'=>st'=f/\Mi a b (n+1+k) d.1 d.2.1 d.2.2.1) (λd st'=>st'=f/\Mi a b (n+2) d.1 d.2.1 d.2.2.1) (MgR st a b) (λk d st2 Y Y y Y nD=>?_) (rfl,z.2) (λd st' z=>?_) (λd st' y=>?_) λv d st' z=>ky (nD.r _ _ _ z));let(rfl,m):=y;show Hg c z.1 m (nD.y,λd st h=>nD.d d st (h.1,h.2.to (!0)),nD.r);let(rfl,m):=z;let:=m.ia;let:=m.ib;let:=m.le;lia;let(rfl,m):=y;show ET c z.1 m nD;let:=z.2.ia;let:=z.2.ib;let:=z.2.le;lia
def Hi.a1(m:Hi a b n out i j):i-1<a.size:=by let:=m.i0;let:=m.ia;lia
def Hi.b1(m:Hi a b n out i j):j-1<b.size:=by let:=m.j1;let:=m.ib;lia
theorem Hi.pa(m:Hi a b n out i j):Hp' a b (out.push (a[i-1]'m.a1)) (i-1) j:=Hp'.pa (by rw[su m.i0];show m.mp) m.a1
theorem Hi.pb(m:Hi a b n out i j):Hp' a b (out.push (b[j-1]'m.b1)) i (j-1):=Hp'.pb (by rw[su (Nat.le_of_succ_le m.j1)];show m.mp) m.b1
def MhY(st:SortSt)(a b:OE)(n:Nat)(α:Type)(d:Nat×Nat×OE×α)(st':SortSt):Prop:=Sm st st'/\Hi a b n d.2.2.1 d.1 d.2.1
def II(c:Sm st st2)(m:Hi a b n out i j)(nD:En (MhY st a b n _) (MhY st a b n _) (MgR st a b) Q):wpS (kq prog w) A E s (h3 a b x y z out i j) Q st2:=by
 show ki (aO m.a1 (ay (λY=>ky (nD.r _ _ _ (c,m.pa.dn))) λe=>?_));let m1:=m.ia;let m2:=m.le;let f:=((m.pa,by simp at e;lia,!0,m.j1,m.ib,!0):Hi a b n _ (i-1) j)
 show ay (λY=>ky (nD.d _ _ (c,f))) λY=>ky (nD.y _ _ (c,f))
def IJ(c:Mg prog w A s κ G lt a0 st a b)(d:Sm st st2)(m:Hi a b n out i j)(nD:En (MhY st a b n _) (MhY st a b n _) (MgR st a b) Q):wpS (kq prog w) A E s (h2 a b x y z out i j) Q st2:=by
 show ki (aO m.b1 (ay (λY=>ky (nD.r _ _ _ (d,m.pb.la))) λe=>?_));let m1:=m.ib;let m2:=m.le;let k:=m.j1;let f:=((m.pb,m.i0,m.ia,by simp at e;lia,!0,!0):Hi a b n _ i (j-1))
 show ki (aO m.a1 (ki (fW c.hA (d.sg c.g) (c.ma _ (et _)) c.mb (!0) (!0) λq h=>?_)));show ay (λY=>ay (λY=>ky (nD.r _ _ _ (d,(f.mp.rb h).la))) λe=>ay (λY=>ky (nD.r _ _ _ (d,(f.mp.rb h).dn))) λe2=>II d (f.mp.rb h,m.i0,m.ia,by simp at e e2;lia,!0,!0) nD) λY=>II d f nD
def IK(c:Mg prog w A s κ G lt a0 st a b)(d:Sm st st2)(m:Hi a b n out i j)(nD:En (MhY st a b n _) (MhY st a b n _) (MgR st a b) Q):wpS (kq prog w) A E s (h1 a b x y z out i j) Q st2:=by let m1:=m.ia;let m2:=m.le;let h:=m.i0;let d:=d.gal x;show ki (Qp (ki (aO m.b1 (ki (fW c.hA (d.sg c.g) (c.mb _ (et _)) c.ma (!0) (!0) λq f=>?_)))));show ay (λY=>ay (λY=>ky (nD.r _ _ _ (d,(m.mp.ra f).dn))) λe=>IJ c d (m.mp.ra f,by simp at e;lia,!0,m.j1,m.ib,!0) nD) λY=>IJ c d m nD
def Fk(c:Mg prog w A s κ G lt a0 st a b)(e:Sm st st2)(m:Hi a b (n+1) d.2.2.1 d.1 d.2.1)(nD:En (MhY st a b (n+1) _) (λY Y=>False) (MgR st a b) Q):wpS (kq prog w) A E s (IH a b x (OW,d)) Q st2:=by show ki (Zm (Qa (rfl,ki (oR (λY=>MhY st a b (n+1) _) (MhY st a b (n+1) _) (MgR st a b) (λk d st2 Y Y z Y nD=>?_) (e,m) (λY Y z=>z) (λd st2 z=>?_) λv d st' z=>ky (nD.r _ _ _ z)))));show ay (λY=>IK c z.1 z.2 nD) λY=>IK c z.1 z.2 nD;show ki (Qp (ky (nD.y _ _ (z.1.gal _,z.2))))
def Hr(c:Mg prog w A s κ G lt a0 st a b)(h:Sm st st2)(m:Hi a b n d.2.2.1 d.1 d.2.1)(nD:En (λd st'=>st'=st2/\Hi a b (n+1) d.2.2.1 d.1 d.2.1) (λd st'=>st'=st2/\Hi a b (n+1) d.2.2.1 d.1 d.2.1) (MgR st a b) Q):wpS (kq prog w) A E s (hi2 a b x y (OW,d)) Q st2:=by
 let(i,j,out,p,q):=d;let m:Hi a b n out i j:=m;let m1:=m.ia;let m2:=m.le;let k:=m.i0;let l:=m.ib;let o:=m.j1;show ki (aO m.b1 (ki (aO m.a1 (ki (ES c.hA (h.sg c.g) (c.mb _ (et _)) (c.ma _ (et _)) λr Y=>?_)))));cases r;show ki (aO m.b1 (ay (λY=>ky (nD.r _ _ _ (h,m.pb.la))) λe=>?_));let f:=((m.pb,k,m1,by simp at e;lia,!0,!0):Hi a b (n+1) _ i (j-1))
 show ay (λY=>ky (nD.d _ _ (rfl,f))) λY=>ky (nD.y _ _ (rfl,f));show ki (aO m.a1 (ay (λY=>ky (nD.r _ _ _ (h,m.pa.dn))) λe=>?_));let f:=((m.pa,by simp at e;lia,!0,o,l,!0):Hi a b (n+1) _ (i-1) j)
 show ay (λY=>ky (nD.d _ _ (rfl,f))) λY=>ky (nD.y _ _ (rfl,f))
def v5(c:Mg prog w A s κ G lt a0 st a b)(l:1<=a.size)(q:1<=b.size)(h:∀st' out,Sm st st'->out.toList.Perm (a.toList++b.toList)->Q out st'):wpS (kq prog w) A E s (rX a b) Q st:=by
 let g:a.size-1<a.size:=!0
 let e:Hp' a b #[a[a.size-1]] (a.size-1) b.size:=Hp'.pa (b:=b) (out:=#[]) (j:=b.size) (by
  unfold Hp';rw[su l,Lg (!1),Lg (!1)];show t7 _) g
 rw[Hq];show ki (Zm (Qa (rfl,ki (aO g ?_))));show ay (λY=>ky (h _ _ (.refl _) e.dn)) λo=>ay (λY=>ky (h _ _ (.refl _) e.la)) λp=>?_;let e:Hi a b 1 #[a[a.size-1]] (a.size-1) b.size:=by simp at o p;show(e,!0,!0,!0,!0,!0)
 show ki (Q4 (ki (oR (λn=>MhY st a b (n+1) _) (λY Y=>False) (MgR st a b) (λn d f Y hn z Y nD=>?_) (.refl _,e) (λd st' z=>?_) (λY Y z=>z.elim) λv d st' z=>ky (h _ _ z.1 z.2))));let(i,j,out,mg):=d;show ki (oR (λk d st'=>st'=f/\Hi a b (n+1+k) d.2.2.1 d.1 d.2.1) (λd st'=>st'=f/\Hi a b (n+2) d.2.2.1 d.1 d.2.1) (MgR st a b) (λk d st2 Y Y y Y nD=>?_) (rfl,z.2) (λd st' z=>?_) (λd st' y=>?_) λv d st' z=>ky (nD.r _ _ _ z));let(rfl,m):=y;show Hr c z.1 m (nD.y,λd st h=>nD.d d st (h.1,h.2.to (!0)),nD.r);let(rfl,m):=z;let:=m.i0;let:=m.j1;let:=m.le;lia;let(rfl,m):=y;show Fk c z.1 m nD;let:=z.2.ia;let:=z.2.i0;let:=z.2.le;lia
end
section
variable{prog:k5}{w:q3}{A:Around}{E:ao->az->Prop}{s:az}{κ:Zr}{a0:OE}{st:SortSt}{G:Prop}{lt:kI->kI->Bool}
def Sb(κ:Zr)(a0:OE)(st st':SortSt):Prop:=Sg κ a0 st'/\qb st'=qb st
def Sb.arr(h:Sb κ a0 st st')(a:xs.Perm (k6 st')):Sb κ a0 st (setArr st' xs):=((h.1.1,a.trans h.1.2,h.1.3),h.2)
def f9(hj:j<=p.size)(k:Nat):gK (Z1 p i j ((j-i) / 2)) k=if i<=k/\k<j then gK p (i+j-1-k) else gK p k:=by unfold gK;rw[nN,getElem?_mirror_all hj];split <;> rw[nN]
def Aq(hs:a<p.size)(hd:d<=a)(k:Nat):gK (bubble p a d) k=if k=a-d then gK p a else if a-d<k/\k<=a then gK p (k-1) else gK p k:=by
 unfold gK;simp only[nN];rw[getElem?_bubble hs d hd]
 repeat' split
 all_goals rfl
structure Od(lt:kI->kI->Bool):Prop where
 as : ∀a b,lt a b=true->lt b a=false
 tr : ∀a b c,lt a b=false->lt b c=false->lt a c=false
def Od.irr(o:Od lt)(a:kI):lt a a=OY:=by
 cases e:lt a a with
 |false=>rfl
 |true=>rw[<-e];show o.as a a e
def Asc(lt:kI->kI->Bool)(xs:OE)(p q:Nat):Prop:=∀i j,p<=i->i<=j->j<q->lt (gK xs j) (gK xs i)=OY
def Dsc(lt:kI->kI->Bool)(xs:OE)(p q:Nat):Prop:=∀i j,p<=i->i<=j->j<q->lt (gK xs i) (gK xs j)=OY
def Asc.one(o:Od lt):Asc lt xs p (p+1):=λi j h1 h2 h3=>by
 rw[show i=j by lia];show o.irr _
def Asc.snoc(o:Od lt)(h:Asc lt xs p q)(a:p<q)(e:lt (gK xs q) (gK xs (q-1))=OY):Asc lt xs p (q+1):=λi j h1 h2 h3=>by
 by_cases c:j=q;subst c;by_cases c:i=j;rw[c];show o.irr _;show o.tr _ _ _ e (h i (j-1) h1 (!0) (!0));show h i j h1 h2 (!0)
def Dsc.snoc(o:Od lt)(h:Dsc lt xs p q)(a:p<q)(e:lt (gK xs (q-1)) (gK xs q)=OY):Dsc lt xs p (q+1):=λi j h1 h2 h3=>by
 by_cases c:j=q;subst c;by_cases c:i=j;rw[c];show o.irr _;show o.tr _ _ _ (h i (j-1) h1 (!0) (!0)) e;show h i j h1 h2 (!0)
def Dsc.turn(h:Dsc lt xs p q)(hz:q<=xs.size):Asc lt (Z1 xs p q ((q-p) / 2)) p q:=λi j h1 h2 h3=>by
 rw[f9 hz,f9 hz,N6 (!0),N6 (!0)];show h _ _ (!0) (!0) (!0)
def Asc.turn(h:Asc lt xs p q)(hz:q<=xs.size):Dsc lt (Z1 xs p q ((q-p) / 2)) p q:=λi j h1 h2 h3=>by
 rw[f9 hz,f9 hz,N6 (!0),N6 (!0)];show h _ _ (!0) (!0) (!0)
def Dsc.like(h:Dsc lt xs p q)(hk:p<=k)(hz:q<=xs.size)(e:Asc lt xs k q):Dsc lt (Z1 xs k q ((q-k) / 2)) p q:=λi j h1 h2 h3=>by
 rw[f9 hz,f9 hz];by_cases c:k<=i;rw[N6 (!0),N6 (!0)];show e _ _ (!0) (!0) (!0);rw[N7 (!0)];split;show h _ _ h1 (!0) (!0);show h _ _ h1 h2 h3
def HZ{lo n ok:Nat}{Q:Bool->SortSt->Prop}(hO:G->Od lt)(hA:xG prog w A κ a0 s G lt)(g:Sg κ a0 st)(h1:1<=ok)(hok:ok<=n)(hn:lo+n<=a0.size)(hs:G->Asc lt (k6 st) lo (lo+ok))(h:∀st',Sb κ a0 st st'->(G->Asc lt (k6 st') lo (lo+n))->Q OX st'):wpS (kq prog w) A E s (binarySort' lo n ok) Q st:=by
 show ki (oR (λk Y st'=>Sb κ a0 st st'/\(G->Asc lt (k6 st') lo (lo+k))) (λY st'=>Sb κ a0 st st'/\(G->Asc lt (k6 st') lo (lo+n))) (λY Y=>False) (λk d st' q hk b Y nD=>?_) ((g,rfl),by rw[Nat.max_eq_left h1];show hs) (λY Y z=>by rwa [show max (max ok 1) n=n by lia]at z) (λY st' b=>ky (h _ b.1 b.2)) λY Y Y z=>z.elim);let(b,hs):=b;let hz:=b.1.size;show ki (oR (λx d st2=>d.1<=d.2/\d.2<=k/\st2=st'/\d.2-d.1<=k-x/\(G->(∀i,i<d.1->lt (gK (k6 st') (lo+k)) (gK (k6 st') (lo+i))=OY)/\∀i,d.2<=i->i<k->lt (gK (k6 st') (lo+k)) (gK (k6 st') (lo+i))=OX))
  (λd st2=>d.1<=k/\st2=st'/\(G->(∀i,i<d.1->lt (gK (k6 st') (lo+k)) (gK (k6 st') (lo+i))=OY)/\∀i,d.1<=i->i<k->lt (gK (k6 st') (lo+k)) (gK (k6 st') (lo+i))=OX)) (λY Y=>False) (λx d st2 Y hx z Y nD=>?_) (KG k,Kz k,rfl,!1,λY=>(λi hi=>absurd hi (LO i),λi h1 h2=>absurd h1 (by simp;lia))) (λd Y z=>?_) (λd st2 e=>?_) λY Y Y z=>z.elim)
 let(l,r):=d;let(z1,z2,rfl,z3,a):=z;let z1:l<=r:=z1;let z2:r<=k:=z2;let z3:r-l<=k-x:=z3;show ay (λe=>ky (nD.d _ _ (Kr z1 z2,rfl,λg=>((a g).1,λi i1 i2=>(a g).2 i (Kr e i1) i2)))) λf=>?_;let f:l<r:=LI f;show ki (nE (i:=lo+k) (j:=lo+(l+r) / 2) hA b.1 (!0) (!0) λc hc=>?_);cases c;show ky (nD.y _ _ ((show(l+r) / 2+1<=r by lia),z2,rfl,(show r-((l+r) / 2+1)<=k-(x+1) by lia),λg=>(λi hi=>?_,(a g).2)));let hi:i<(l+r) / 2+1:=hi;show(hO g).tr _ _ _ (hc g).symm (hs g _ _ (!0) (!0) (!0));show ky (nD.y _ _ ((show l<=(l+r) / 2 by lia),(show(l+r) / 2<=k by lia),rfl,(show(l+r) / 2-l<=k-(x+1) by lia),λg=>((a g).1,λi i1 i2=>?_)));let i1:(l+r) / 2<=i:=i1;cases c2:lt (gK (k6 st2) (lo+k)) (gK (k6 st2) (lo+i)) with
 |true=>rfl
 |false=>rw[<-(hO g).tr _ _ _ c2 (hs g (lo+(l+r) / 2) (lo+i) (!0) (!0) (!0)),<-hc g]
 let(l,r):=d;let(z1,z2,z3,a,m):=z;let z1:l<=r:=z1;let z2:r<=k:=z2;let a:r-l<=k-max 0 k:=a;show(Kr z1 z2,z3,λg=>((m g).1,λi i1 i2=>(m g).2 i (by let i1:l<=i:=i1;show r<=i;lia) i2));let(l,r):=d;let(e1,rfl,e3):=e;let e1:l<=k:=e1;show ki (Qp (ky (nD.y _ _ (b.arr (bubble_perm _ _ _),λg i j i1 i2 t=>?_))));let(o,p):=e3 g;show lt (gK (bubble (k6 st2) (lo+k) (lo+k-(lo+l))) j) (gK (bubble (k6 st2) (lo+k) (lo+k-(lo+l))) i)=OY;rw[Aq (!0) (!0),Aq (!0) (!0),show lo+k-(lo+k-(lo+l))=lo+l by lia];by_cases c1:j=lo+l;rw[N6 c1];by_cases c2:i=lo+l;rw[N6 c2];show(hO g).irr _;rw[N7 c2,N7 (!0),show i=lo+(i-lo) by lia];show o _ (show i-lo<l by lia);rw[N7 c1];by_cases u:lo+l<j;rw[N6 (!0)];by_cases c2:i=lo+l;rw[N6 c2,show j-1=lo+(j-1-lo) by lia];show(hO g).as _ _ (p _ (show l<=j-1-lo by lia) (!0));rw[N7 c2];split;show hs g _ _ (!0) (!0) (!0);show hs g _ _ (!0) (!0) (!0);rw[N7 (!0),N7 (!0),N7 (!0)];show hs g _ _ (!0) (!0) (!0)
def FM{lo a n:Nat}{st':SortSt}{Q:Oa×Nat->SortSt->Prop}(hO:G->Od lt)(hA:xG prog w A κ a0 s G lt)(g:Sg κ a0 st')(h1:1<=a)(k:a<=n)(hn:lo+n<=a0.size)(hs:G->Asc lt (k6 st') lo (lo+a)){f:Nat->Oa×Nat->StateT SortSt Sem (ForInStep (Oa×Nat))}
  (e:∀i d (Q:ForInStep (Oa×Nat)->SortSt->Prop),wpS (kq prog w) A E s (ltAt' (lo+d) (lo+d-1)) (λb st=>∃c,b=OV c/\Q (if c then .done (OW,d) else .yield (OW,d+1)) st) st'->wpS (kq prog w) A E s (f i (OW,d)) Q st')
  (h : ∀d,a<=d->d<=n->(G->Asc lt (k6 st') lo (lo+d))->(d<n->G->lt (gK (k6 st') (lo+d)) (gK (k6 st') (lo+d-1))=OX)->Q (OW,d) st'):wpS (kq prog w) A E s (forIn [a:n] (OW,a) f) Q st':=by show oR (λi d st2=>d=i/\st2=st'/\(G->Asc lt (k6 st') lo (lo+d))) (λd st2=>a<=d/\d<=n/\st2=st'/\(G->Asc lt (k6 st') lo (lo+d))/\(d<n->G->lt (gK (k6 st') (lo+d)) (gK (k6 st') (lo+d-1))=OX)) (λY Y=>False) (λi d st2 i1 i2 z Y nD=>?_) (rfl,rfl,hs) (λd st2 z=>(!0,!0,z.2.1,z.2.2,λl=>!0)) (λd st2 z=>?_) λY Y Y z=>z.elim;let(rfl,rfl,hs):=z;show e d d _ (nE hA g (!0) (!0) λc hc=>(c,rfl,?_));cases c;show nD.y _ _ (rfl,rfl,λg=>(hs g).snoc (hO g) (!0) (hc g).symm);show nD.d _ _ (i1,!0,rfl,hs,λY g=>(hc g).symm);let(z1,z2,rfl,z3,j):=z;show h d z1 z2 z3 j
def C9{lo n:Nat}{Q:OA->SortSt->Prop}(hO:G->Od lt)(hA:xG prog w A κ a0 s G lt)(g:Sg κ a0 st)(hn1:1<=n)(hn:lo+n<=a0.size)(h:∀m st',1<=m->m<=n->Sb κ a0 st st'->(G->Asc lt (k6 st') lo (lo+m))->Q (OV m) st'):wpS (kq prog w) A E s (countRun' lo n) Q st:=by
 let hz:=g.size;show ki (FM hO hA g (Kz 1) hn1 hn (λg=>Asc.one (hO g)) (λi d Q h=>ki (wpS_mono h ?_)) λd d1 d2 hs f=>?_);rintro _ st ⟨c,rfl,h⟩;cases c <;> show ky h
 show ay (λY=>ky (h _ _ d1 d2 (g,rfl) hs)) λe=>?_;let e:d<n:=by simp at e;lia
 let f:=f e;let b:Sb κ a0 st st:=(g,rfl)
 show ay (λdl=>ki (nE (i:=lo) (j:=lo+d-1) hA g (!0) (!0) λc hc=>ay (λY=>ky (h _ _ d1 d2 b hs)) λl=>ki (Qp ?_))) λdl=>?_
 case' refine_1 =>
  let b:=b.arr (ZP (k6 st) lo (lo+d) ((lo+d-lo) / 2));let hd:G->Dsc lt (Z1 (k6 st) lo (lo+d) ((lo+d-lo) / 2)) lo (lo+d+1):=λg=>((hs g).turn (!0)).snoc (hO g) (!0) (by
   rw[f9 (!0),f9 (!0),N6 (!0),N7 (!0),show lo+(lo+d)-1-(lo+d-1)=lo by lia];show(hO g).tr _ _ _ ((hc g).symm.trans (by simpa using l)) ((hO g).as _ _ (f g)))
 case' refine_2 =>
  let dl:d=1:=by let dl:¬d>1:=dl;lia
  let hd:G->Dsc lt (k6 st) lo (lo+d+1):=λg=>Dsc.snoc (hO g) (λi j h1 h2 h3=>by rw[show i=j by lia];show(hO g).irr _) (!0) ((hO g).as _ _ (f g))
 all_goals
  show ki (Zm (Qa (rfl,ki (oR (λi d st'=>d.1=i/\Sb κ a0 st st'/\d.2+1<=i/\(G->Dsc lt (k6 st') lo (lo+i)/\Asc lt (k6 st') (lo+i-(d.2+1)) (lo+i))) (λd st'=>d.1<=n/\Sb κ a0 st st'/\d.2+1<=d.1/\(G->Dsc lt (k6 st') lo (lo+d.1)/\Asc lt (k6 st') (lo+d.1-(d.2+1)) (lo+d.1))) (λY Y=>False) ?_ (rfl,b,!1,λg=>(hd g,Asc.one (hO g))) ?_ ?_ λY Y Y z=>z.elim))));rintro i ⟨d,q⟩ a i1 i2 ⟨rfl,b,k,hs⟩ _ nD;let i2:d<n:=i2;let k:q+1<=d:=k;let hz:=b.1.size;let hs:G->Dsc lt (k6 a) lo (lo+d)/\Asc lt (k6 a) (lo+d-(q+1)) (lo+d):=hs;show ki (nE (i:=lo+d) (j:=lo+d-1) hA b.1 (!0) (!0) λc hc=>ay (λct=>ay (λq0=>ki (Qp (ky (nD.y (d+1,0) _ (rfl,b.arr (ZP _ _ _ _),!1,λg=>(?_,Asc.one (hO g))))))) λY=>ky (nD.y (d+1,0) _ (rfl,b,!1,λg=>((hs g).1.snoc (hO g) (!0) ((hO g).as _ _ ((hc g).symm.trans ct)),Asc.one (hO g))))) λl=>?_);show((hs g).1.like (!0) (!0) (hs g).2).snoc (hO g) (!0) ?_;show lt (gK (Z1 (k6 a) (lo+d-(q+1)) (lo+d) ((lo+d-(lo+d-(q+1))) / 2)) (lo+d-1)) (gK (Z1 (k6 a) (lo+d-(q+1)) (lo+d) ((lo+d-(lo+d-(q+1))) / 2)) (lo+d))=OY;rw[f9 (!0),f9 (!0),N6 (!0),N7 (!0)];show(hO g).tr _ _ _ ((hs g).1 _ (lo+d-1) (!0) (!0) (!0)) ((hO g).as _ _ ((hc g).symm.trans ct));show ki (nE (i:=lo+d-1) (j:=lo+d) hA b.1 (!0) (!0) λc2 o=>ay (λY=>ky (nD.d _ _ (LP i2,b,k,hs))) λp=>ky (nD.y (d+1,q+1) _ (rfl,b,wy k,λg=>((hs g).1.snoc (hO g) (!0) ((o g).symm.trans (by simpa using p)),?_))));let:=(hs g).2.snoc (hO g) (!0) ((hc g).symm.trans (by simpa using l));rwa [show lo+d-(q+1)=lo+(d+1)-(q+1+1) by lia]at this;rintro⟨d',q⟩ a ⟨rfl,b,k,hs⟩;show(?_,b,k,hs);show max (d+1) n<=n;lia
  .rintro⟨d',q⟩ a ⟨d2,b,k,hs⟩;let d2:d'<=n:=d2;let k:q+1<=d':=k;let hz:=b.1.size;let hs:G->Dsc lt (k6 a) lo (lo+d')/\Asc lt (k6 a) (lo+d' - (q+1)) (lo+d'):=hs;show ay (λY=>ki (Qp ?_)) λY=>?_
   case' refine_1 =>
    let hs:=λg=>(hs g).1.like (!0) (!0) (hs g).2;let b:=b.arr (ZP (k6 a) (lo+d' - (q+1)) (lo+d') ((lo+d' - (lo+d' - (q+1))) / 2));let hz:=b.1.size
   case' refine_2=>let hs:=λg=>(hs g).1
   all_goals
    let b:=b.arr (ZP _ lo (lo+d') ((lo+d' - lo) / 2));show ki (Qp (ki (FM (n:=n) hO hA b.1 (!0) d2 hn (λg=>(hs g).turn (Kr (show lo+d'<=a0.size by lia) (MZ hz.symm))) (λi d Q h=>ki (wpS_mono h ?_)) λe e1 e2 hs Y=>ky (h _ _ (!0) e2 b hs))));rintro _ st ⟨c,rfl,h⟩;cases c <;> show ky h
def AY(h:Q ⟨⟩ st2):wpS (kq prog w) A E s (set st2:StateT SortSt Sem PUnit) Q st:=by unfold wpS;rw[StateT.run_set];show js (rfl,h)
theorem sD(o:Nat):∀(l:List kI) (a:OE) (n:Nat),o+n+-l<=a.size->((l.zipIdx n).foldl (λa x=>a.setIfInBounds (o+x.2) x.1) a).toList=a.toList.take (o+n)++(l++a.toList.drop (o+n+-l))
 |[],a,n,_=>!1
 |x::l,a,n,h=>by
  rw[K4]at h;rw[List.zipIdx_cons,B2,sD o l _ (n+1) (by simp;lia),Mw];rw[List.drop_set_of_lt (!0),show o+(n+1)=o+n+1 by lia,K3,List.take_set,List.set_eq_of_length_le (by simp;lia),KN (by simp;lia),K4,show o+n+1+-l=o+n+(-l+1) by lia];simp
def wH{a m:OE}(b:p<=q)(c:q<=r)(f:r<=a.size)(d:m.toList.Perm ((a.extract p q).toList++(a.extract q r).toList)):(m.toList.zipIdx.foldl (λa x=>a.setIfInBounds (p+x.2) x.1) a).Perm a:=by
 let e:m.toList.length=r-p:=by rw[d.length_eq];simp;lia
 rw[Mx,sD p _ a 0 (!0),e,show p+0+(r-p)=r by lia];let e2:a.toList=a.toList.take p++(((a.extract p q).toList++(a.extract q r).toList)++a.toList.drop r):=by rw[<-KU,<-KU,<-iX a b,<-iX a c,LU]
 conv=>rhs;rw[e2]
 show eh _ (eT _ d)
def v6(hA:xG prog w A κ a0 s G lt)(g:Sg κ a0 st)(f:(qb st).toList=d++(b,c,pa)::(b+c,e,pb)::l)(h1:1<=c)(h2:1<=e)(hz:b+c+e<=a0.size)
  (h : ∀st',Sg κ a0 st'->(qb st').toList=d++(b,c+e,pa)::l->Q OX st'):wpS (kq prog w) A E s (mergeAt' (-d)) Q st:=by
 let e1:(qb st)[d.length]?=OV (b,c,pa):=by rw[<-nl,f];simp
 let e2:(qb st)[d.length+1]?=OV (b+c,e,pb):=by rw[<-nl,f];simp
 let e3:(((qb st).setIfInBounds (-d) (b,c+e,pa)).eraseIdxIfInBounds (-d+1)).toList=d++(b,c+e,pa)::l:=by
  rw[Array.toList_eraseIdxIfInBounds,Mw,f];simp[List.eraseIdx_append]
  exactλh=>absurd h (by omega +splitDisjunctions)
 show ki (Q4 ?_);simp only[e1,e2];show ki (AY ?_);let g2:Sg κ a0 (ZY st (((qb st).setIfInBounds (-d) (b,c+e,pa)).eraseIdxIfInBounds (-d+1))):=(g.1,g.2,g.3)
 let hs:=g.size;let fin:=h _ g2 e3;let hx:∀x∈k6 st,x∈a0:=λx hx=>g.mem hx;show ki (aO (arr:=k6 st) (i:=b+c) (by omega +splitDisjunctions) (ki (fW (arr:=k6 st) hA g2 (hx _ (et _)) hx (by omega +splitDisjunctions) h1 λk hk=>?_)));show ay (λY=>ky fin) λo=>?_;let o:k<c:=by simp at o;lia
 show ki (aO (arr:=k6 st) (i:=b+k+(c-k)-1) (by omega +splitDisjunctions) (ki (fW (arr:=k6 st) hA g2 (hx _ (et _)) hx (by omega +splitDisjunctions) (by omega +splitDisjunctions) λm v=>?_)));show ay (λY=>ky fin) λt=>?_;let t:1<=m:=by simp at t;lia
 let c1:1<=((k6 st).extract (b+k) (b+c)).size:=by simp;lia
 let c2:1<=((k6 st).extract (b+c) (b+c+m)).size:=by simp;lia
 let j:∀{p q:Nat},∀x∈(k6 st).extract p q,x∈a0:=λx h=>hx x (by
  rw[<-rj,ip,LH]at h;show rj.mp (LY (LX h)))
 let last:∀(st':SortSt) (out:OE),Sm (ZY st (((qb st).setIfInBounds (-d) (b,c+e,pa)).eraseIdxIfInBounds (-d+1))) st'->out.toList.Perm (((k6 st).extract (b+k) (b+c)).toList++((k6 st).extract (b+c) (b+c+m)).toList) ->
   wpS (kq prog w) A E s (do modify (λs=>setArr s (out.toList.zipIdx.foldl (λa x=>a.setIfInBounds (b+k+x.2) x.1) (k6 s)));let r <-get;pure (Zq r).isNone) Q st':=λst' out n f=>by
  show ki (Qp (ki (Q4 (ky ?_))));let g3:=n.sg g2;let u:k6 st'=k6 st:=n.arr;let pm:=wH (a:=k6 st) (by omega +splitDisjunctions) (by omega +splitDisjunctions) (by omega +splitDisjunctions) f;rw[<-u]at pm;show Q (Zq st').isNone _;rw[g3.failed];show h _ (g3.1,pm.trans g3.2,g3.3) (by
   show(qb st').toList=_;rw[n.pend];show e3)
 show ay (λY=>ki (v4 (hA,g2,j,j) c1 c2 last)) λY=>ki (v5 (hA,g2,j,j) c1 c2 last)
def Ch:Nat->Oc->Nat->Prop
 |b,[],e=>b=e
 |b,x::p,e=>x.1=b/\1<=x.2.1/\Ch (b+x.2.1) p e
theorem Ch.le:∀{p:Oc}{b e:Nat},Ch b p e->b<=e
 |[],_,_,h=>MZ h
 |_::_,_,_,h=>Kr (Ml _ _) h.2.2.le
theorem Ch.push(hn:1<=n):∀{p:Oc}{b e:Nat},Ch b p e->Ch b (p++[(e,n,k)]) (e+n)
 |[],_,_,h=>by cases h;show(rfl,hn,rfl)
 |_::_,_,_,h=>(h.1,h.2.1,h.2.2.push hn)
theorem Ch.pow(a:∀x,(f x).1=x.1/\(f x).2.1=x.2.1):∀{p:Oc}{b e i:Nat},Ch b p e->Ch b (p.modify i f) e
 |[],_,_,i,h=>by simpa using h
 |x::_,_,_,0,h=>by
  rw[List.modify_zero_cons];show((a x).1.trans h.1,(a x).2.symm▸h.2.1,(a x).2.symm▸h.2.2)
 |x::_,_,_,i+1,h=>by
  rw[List.modify_succ_cons];show(h.1,h.2.1,h.2.2.pow a)
theorem Ch.two:∀{i:Oc}{b e:Nat},Ch b (i++x::y::g) e->y.1=x.1+x.2.1/\1<=x.2.1/\1<=y.2.1/\x.1+x.2.1+y.2.1<=e/\Ch b (i++(x.1,x.2.1+y.2.1,x.2.2)::g) e
 |[],_,_,h=>by
  let(rfl,h2,h3,h4,h5):=h;show(h3,h2,h4,h5.le,rfl,by show 1<=x.2.1+y.2.1;lia,by show Ch (x.1+(x.2.1+y.2.1)) _ _;rw[<-Nat.add_assoc];show h5)
 |_::_,_,_,h=>by
  let(h1,h2,h3):=h;let(a,b,c,d,f):=h3.two;show(a,b,c,d,h1,h2,f)
def v3(hA:xG prog w A κ a0 s G lt)(g:Sg κ a0 st)(hc:Ch 0 (qb st).toList e)(c:e<=a0.size)(hi:i+1<(qb st).size)
  (h : ∀st',Sg κ a0 st'->Ch 0 (qb st').toList e->Q OX st'):wpS (kq prog w) A E s (mergeAt' i) Q st:=by
 cbv;obtain⟨a,x,y,b,rfl,e1⟩:∃a x y b,i=eH a/\(qb st).toList=a++x::y::b:=by show((qb st).toList.take i,(qb st).toList[i]'(by simp;lia),(qb st).toList[i+1]'(by simp;lia),(qb st).toList.drop (i+2),by simp;lia,?_);rw[<-Lb,<-Lb,LU]
 rw[e1]at hc;let(h1,h2,h3,h4,h5):=hc.two;let(d,f,pa):=x;let(j,l,pb):=y;let h1:j=d+f:=h1;subst h1
 w_up;show v6 hA g e1 h2 h3 (Kr h4 c) λst' g' k=>h st' g' (by rw[k];show h5)
def Few(G:Prop)(lt:kI->kI->Bool)(a0:OE)(st:SortSt):Prop:=a0.size<64->(qb st).size<=1/\(G->Asc lt (k6 st) 0 a0.size)
def DX(hO:G->Od lt)(hA:xG prog w A κ a0 s G lt)(g:Sg κ a0 st)(D:qb st=#[])(h:∀st',Sg κ a0 st'->(a0.size<64->G->Asc lt (k6 st') 0 a0.size)->Q () st'):wpS (kq prog w) A E s sortRuns' Q st:=by
 let hs:=g.size;show ki (Q4 (ki (oR (λi lo st'=>Sg κ a0 st'/\Ch 0 (qb st').toList lo/\lo<=a0.size/\(a0.size<64->(i=0/\lo=0/\qb st'=#[])\/(lo=a0.size/\Few G lt a0 st'))) (λlo st'=>Sg κ a0 st'/\Ch 0 (qb st').toList lo/\lo<=a0.size/\Few G lt a0 st') (λY Y=>False) (λi lo st' Y Y b Y nD=>?_) (g,by rw[D];rfl,KG _,λY=>.inl (rfl,rfl,D)) (λlo st' z=>?_) (λlo st' z=>?_) λY Y Y z=>z.elim)))
 .let(g,hc,q,a):=b;show ay (λl=>ky (nD.d _ _ (g,hc,q,λh=>?_))) λl=>?_;let l:(k6 st).size<=lo:=l;rcases a h with⟨_,e1,e2⟩|⟨_,e⟩
  show(by rw[e2];show KG _,λY i j Y Y h3=>!0);show e h;let l:lo<a0.size:=by rw[<-hs];show LI l
  let hz:(k6 st).size-lo=a0.size-lo:=by rw[hs]
  let r:a0.size<64->Zt (k6 st).size (k6 st).size 0=a0.size:=λh=>by
   obtain⟨f,a⟩:∃f,a0.size=f+1:=(a0.size-1,!0)
   rw[hs,a];rw[a]at h;rw[minRun'_succ,N6 h]
  let a:a0.size<64->lo=0/\qb st'=#[]:=λh=>(a h).elim (λz=>z.2) λz=>absurd z.1 (!0);show ki (C9 (lo:=lo) (n:=(k6 st).size-lo) hO hA g (!0) (!0) λm I m1 m2 b u=>?_);show ay (λo=>ki (Zm (Qa (rfl,ki (HZ (ok:=m) (lo:=lo) (n:=min ((k6 st).size-lo) (Zt (k6 st).size (k6 st).size 0)) hO hA b.1 m1 (by let o:m<Zt (k6 st).size (k6 st).size 0:=o;lia) (!0) u λst2 F u=>ay (λz=>absurd z (!2)) λY=>?_))))) λo=>?_
  case' refine_1 =>
   let o:m<Zt (k6 st).size (k6 st).size 0:=o;let hn1:1<=min ((k6 st).size-lo) (Zt (k6 st).size (k6 st).size 0):=!0
   let hn2:lo+min ((k6 st).size-lo) (Zt (k6 st).size (k6 st).size 0)<=a0.size:=!0
   let p:a0.size<64->lo+min ((k6 st).size-lo) (Zt (k6 st).size (k6 st).size 0)=a0.size:=λh=>by let:=r h;let:=(a h).1;lia
   let b:Sb κ a0 st' st2:=(F.1,F.2.trans b.2)
  case' refine_2 =>
   let o:¬m<Zt (k6 st).size (k6 st).size 0:=o;let hn1:=m1;let hn2:lo+m<=a0.size:=!0
   let p:a0.size<64->lo+m=a0.size:=λh=>by let:=r h;let:=(a h).1;lia
  all_goals
   show ki (Q4 ?_);rw[<-b.2]at hc a;let g:=b.1;let fin:∀{k:Nat}{st':SortSt},1<=k->Sg κ a0 st'->Ch 0 (qb st').toList lo->Sg κ a0 (ZY st' ((qb st').push (lo,k,0)))/\Ch 0 ((qb st').push (lo,k,0)).toList (lo+k):=λhk g hc=>((g.1,g.2,g.3),by rw[oj];show hc.push hk)
   dsimp only;split;rename_i J;let v:¬a0.size<64:=λh=>by
    let e:=(congrArg Array.back? (a h).2).symm.trans J;simp at e
   show ki (oR (λY Y st'=>Sg κ a0 st'/\Ch 0 (qb st').toList lo) (λY st'=>Sg κ a0 st'/\Ch 0 (qb st').toList lo) (λY Y=>False) (λi Y st' Y Y b Y nD=>?_) (g,hc) (λY Y z=>z) (λY st' z=>?_) λY Y Y z=>z.elim);let(g,hc):=b;show ki (Q4 ?_);split;rename_i t;split at t;rename_i h1;show ay (λY=>ky (nD.d _ _ (g,hc))) λY=>ki (v3 (i:=(qb st').size-2) hA g hc q (by let h1:1<(qb st').size:=h1;lia) λst2 g c=>ay (λz=>absurd z (!2)) λY=>ky (nD.y _ _ (g,c)));cases t;show ky (nD.d _ _ (g,hc));let f:=λB=>fin (st':=ZY st' ((qb st').modify ((qb st').size-1) λx=>(x.1,x.2.1,B))) hn1 (z.1.1,z.1.2,z.1.3) (by
    show Ch 0 ((qb st').modify ((qb st').size-1) λx=>(x.1,x.2.1,B)).toList lo;rw[Array.toList_modify];show Ch.pow (f:=λx=>(x.1,x.2.1,B)) (λY=>(rfl,rfl)) z.2)
   show ki (Qp (ki (Qp (ky (nD.y _ _ ((f _).1,(f _).2,hn2,λh=>absurd h v))))));show ki (Qp (ky (nD.y _ _ ((fin hn1 g hc).1,(fin hn1 g hc).2,hn2,λh=>.inr (p h,λY=>(?_,λg=>?_))))));show((qb _).push _).size<=1;rw[(a h).2];show Kz 1;let:=u g;rw[p h]at this;rw[(a h).1]at this;show this
 let(g,hc,q,a):=z;show(g,hc,q,λh=>?_);rcases a h with⟨H,e1,e2⟩|⟨_,e⟩
 let H:max 0 (k6 st).size=0:=H;show(by rw[e2];show KG _,λY i j Y Y h3=>!0);show e h
 .let(g,hc,q,a):=z;show ki (oR (λY Y st'=>Sg κ a0 st'/\Ch 0 (qb st').toList lo/\Few G lt a0 st') (λY st'=>Sg κ a0 st'/\Few G lt a0 st') (λY Y=>False) (λi Y st' Y Y b Y nD=>?_) (g,hc,a) (λY Y z=>(z.1,z.2.2)) (λY st' z=>ky (h _ z.1 λh=>(z.2 h).2)) λY Y Y z=>z.elim);let(g,hc,a):=b;show ki (Q4 (ay (λY=>ky (nD.d _ _ (g,a))) λC=>ki (v3 hA g hc q ?_ λst2 g c=>ay (λz=>absurd z (!2)) λY=>ky (nD.y _ _ (g,c,λh=>absurd (a h).1 C)))));let C:1<(qb st').size:=LI C;show Ls (wy (m:=(qb st').size-2) ?_) (!0)
  repeat' split
  all_goals first|show Nat.sub_le _ _|show Kz _
end
section
def tD(prog:k5)(w:q3)(A:Around)(ks:ON)(s:az)(G:Prop)(lt:ao->ao->Bool):Prop :=
 j4 (kq prog w) A (keyKind' ks.toArray) (λκ s'=>s'=s/\∀x∈ks,∀y∈ks,∀C:Bool->az->Prop,(∀b,(G->b=lt x y)->C b s)->j4 (kq prog w) A (Z2 κ x y) C (λY Y=>False) s) (λY Y=>False) s
def ut.two(h:ut prog w A ks s):tD prog w A ks s False lt:=KX h (λκ s' q=>(q.1,λx hx y a C hC=>by
 let(i,hi,rfl):=K7 hx;let(j,hj,rfl):=K7 a;let:=q.2 i j C hi hj λb=>hC b λz=>z.elim;unfold kas_ask at this;simpa[hi,hj] using this)) λY Y z=>z
def Ia(lt:ao->ao->Bool)(ws:ON):Prop:=∀i j,i<=j->j< -ws->lt (ws.getD j .none) (ws.getD i .none)=OY
def mU{prog:k5}{w:q3}{A:Around}{E:ao->az->Prop}{s:az}{ks vs:ON}{G:Prop}{lt:ao->ao->Bool}{k:Unit×SortSt->Sem PySem.Fin}{P:PySem.Fin->az->Prop}(hO:G->Od λx y=>lt x.1 y.1)(p:ks.length=vs.length)(hok:2<=vs.length->tD prog w A ks s G lt)
  (h : ∀(ws:ON) st,ws.Perm vs->(ks=vs->vs.length<64->G->Ia lt ws)->(k6 st).map (·.2)=ws.toArray->Zq st=none->j4 (kq prog w) A (k ((),st)) P E s) :
  let F:=λκ=>((if vs.toArray.size<2 then pure () else sortRuns').run (SortSt.mk' κ (ks.toArray.zip vs.toArray) #[] 7 none)) >>= k
  j4 (kq prog w) A (if vs.toArray.size<2 then pure general' >>= F else keyKind' ks.toArray >>= F) P E s:=by
 dsimp only;let a:((ks.toArray.zip vs.toArray).map (·.2)).toList=vs:=by simp;show vl (!0)
 by_cases h2:2<=-vs;let hn2:¬vs.toArray.size<2:=by rw[KA];lia
 rw[N7 hn2,N7 hn2];show jj (KX (hok h2) (λκ r f=>?_) λY Y x=>x.elim);let(rfl,b):=f;show jj (KX (DX (st:=SortSt.mk' κ (ks.toArray.zip vs.toArray) #[] 7 OW) (Q:=λY st'=>Sg κ (ks.toArray.zip vs.toArray) st'/\((ks.toArray.zip vs.toArray).size<64->G->Asc (λx y=>lt x.1 y.1) (k6 st') 0 (ks.toArray.zip vs.toArray).size)) hO (λx hx y l C hC=>?_) (rfl,Array.Perm.refl _,rfl) rfl λst' g d=>(g,d)) ?_ λY Y e=>e);let mk:∀x∈ks.toArray.zip vs.toArray,x.1∈ks:=λx hx=>by
  rw[<-rj,Nq]at hx;show(Ma hx).1
 show b _ (mk x hx) _ (mk y l) C hC;rintro⟨⟨⟩,st'⟩ s2 ⟨rfl,g,d⟩;let pm:=Mx.mp g.perm;let pv:=pm.map (·.2);rw[show(ks.toArray.zip vs.toArray).toList.map (·.2)=vs by rw[<-Nr];show a]at pv;show h ((k6 st').map (·.2)).toList st' (by rw[Nr];show pv) (λe n hg i j c hj=>?_) rfl g.failed;subst e;let hz:(ks.toArray.zip ks.toArray).size=-ks:=!1
 let hsz:(k6 st').size=_:=g.size;rw[hz]at d hsz;let hj:j<(k6 st').size:=by simpa using hj
 let:=d n hg i j (KG _) c (!0);let fs:∀m,m<(k6 st').size->(gK (k6 st') m).1=((k6 st').map (·.2)).toList.getD m .none:=λm o=>by
  let:(k6 st')[m]∈(ks.toArray.zip ks.toArray).toList:=pm.mem_iff.mp (!1);rw[Nq]at this;let(q,t,e):=K7 this;rw[Mn]at e;let e1:(k6 st')[m].1=(k6 st')[m].2:=by rw[<-e]
  simp[gK,o,e1]
 rw[<-fs j hj,<-fs i (!0)];show this;let hn2:vs.toArray.size<2:=by rw[KA];lia
 rw[N6 hn2,N6 hn2];show jj (js (jj (js (h vs _ (t7 _) (λY Y hg i j c hj=>?_) (u2.mp a) rfl))));rw[show i=j by lia];show(hO hg).irr (vs.getD j .none,.none)
def FU(prog:k5)(w:q3)(A:Around)(s:az)(l:ac)(vs:ON):Prop:=∀{E:ao->az->Prop}{Q:ON->az->Prop},(∀h' tk,(∀b o,s.heap.get? b=OV o->h'.get? b=OV o)->(~~~s)<=h'.objs.size->Q vs { s with heap:=h',toks:=tk })->j4 (kq prog w) A (collect (.ref l)) Q E s
def j7(a:s.heap.IsList l vs.toArray)(c:-vs<1000000):FU prog w A s l vs:=λh =>
 collect_list a (h _ s.toks (λb o e=>by rw[Heap.get?_update_ne _ _ _ _ (KO (KB e))];show Kq _ e) (by rw[Mq,size_push'];lia)) (by rw[zg];lia)
def uP(hO:G->Od λx y=>lt x.1 y.1)(ho:s.heap.get? a=some (Qi "list" vs.toArray n))(j:vs.length<1000000)
  (hk:2<=vs.length->∀h',(∀b o,b≠a->s.heap.get? b=some o->h'.get? b=some o)->tD prog w A vs { s with heap:=h' } G lt)
  (h : ∀(ws:ON) h' c,ws.Perm vs->(vs.length<64->G->Ia lt ws)->(∀b o,b≠a->s.heap.get? b=some o->h'.get? b=some o)->h'.get? a=some (Qi "list" ws.toArray c)->P (.done (.ret .none)) { s with heap:=h' }) :
  j4 (kq prog w) A (Builtin.«list.sort» ([.ref a],[])) P E s:=by
 obtain⟨h3,e3⟩:∃h3,h3=((s.heap.update a (eb λY=>(#[]:OF))).push (Qi "tuple" vs.toArray 0)).push (Qi "list" #[] 0):=(_,rfl)
 let f:=QZ ho λY=>(#[]:OF)
 let keep:∀b o,b≠a->s.heap.get? b=OV o->h3.get? b=OV o:=λb o g e=>by
  rw[e3];show Kq _ (Kq _ (((dk s.heap a _).2 b g).trans e))
 let d:∃e,h3.get? a=OV (Qi "list" #[] e)/\_=e:=(_,by rw[e3];show Kq _ (Kq _ f),rfl)
 let(e,d,k):=d;rw[list_sort_plain];show jj (Yk ho rfl ?_);show jj (QX ho rfl ?_ (by rw[KA,zg];lia) (KG _));show jj (ZO f rfl ?_);show jj (ZU ?_ (by show -vs<=_;rw[zg];lia));show jj (Zx ?_ (KG _));show q4 ?_;rw[k];show j4 (kq prog w) A _ P E { s with heap:=((s.heap.update a (eb λY=>(#[]:OF))).push (Qi "tuple" vs.toArray 0)).push (Qi "list" #[] 0) };rw[<-e3];dsimp only;show mU hO rfl (λh2=>hk h2 h3 keep) λws st i l ho m=>?_;dsimp only;rw[ho];show jj (ZO d rfl ?_);show jj (QX d rfl ?_ (KG _) (by rw[KA,i.length_eq,zg];lia));rw[m];simp only[bne_self_eq_false,KW,if_false];show js (h _ _ _ i (l rfl) (λb o g e=>((dk _ a _).2 b g).trans (keep b o g e)) (QZ d λY=>ws.toArray))
def ju(hO:G->Od λx y=>lt x.1 y.1)(i:FU prog w A.in1 s l vs)(f:vs.length<1000000)
  (hk:2<=vs.length->∀h' tk,(∀b o,s.heap.get? b=some o->h'.get? b=some o)->tD prog w A.in1.in1 vs { s with heap:=h',toks:=tk } G lt)
  (h : ∀(ws:ON) D h' tk c,ws.Perm vs->(vs.length<64->G->Ia lt ws)->(∀b o,s.heap.get? b=some o->h'.get? b=some o)->s.heap.objs.size<=D->h'.get? D=some (Qi "list" ws.toArray c)->Q (.ref D) { s with heap:=h',toks:=tk }) :
  j4 (kq prog w) A (call (.builtin "sorted") [.ref l]) Q E s:=by show Calls.call_function_entry kind_sorted plain_sorted entry_sorted (args_sorted1 _) ?_;unfold Builtin.«sorted»;show jj (m:=checkCount "sorted" 1 1 _) (js ?_);show jj (i λh1 tk kp a=>?_);show jj (Zx ?_ (by rw[zg];lia));let d:(h1.push (Qi "list" vs.toArray 0)).get? h1.objs.size=OV (Qi "list" vs.toArray 0):=KF _ rfl;let g:∀{h'},(∀b o,b≠h1.objs.size->(h1.push (Qi "list" vs.toArray 0)).get? b=OV o->Heap.get? h' b=OV o)->∀b o,s.heap.get? b=OV o->h'.get? b=OV o:=λk b o e=>k b o (KO (Ku (KB e) a)) (Kq _ (kp b o e));show jj (q4 (Qb slot_list_sort (_,d,rfl) entry_list_sort ?bo (args_list_sort _)));show uP (s:={ s with heap:=h1.push (Qi "list" vs.toArray 0),toks:=tk }) hO d f (λh2 h' k=>hk h2 h' tk (g k)) λws h' c j n k hD=>(_,rfl,js (_,rfl,h ws _ h' tk c j n (g k) a hD))
end
def lM{K:bg}{N:ac->Prop}{H:Hp}{vs:OU}{ds:OM}{its ws:ON}(rv:aS vs its)(q:DNs K N H vs ds)(a:ws.Perm its):∃vs' es,aS vs' ws/\DNs K N H vs' es/\es.Perm ds:=by
 let b:=-rv;let hd:=q.len;let(t,pt,rfl):=df (f:=λx:ao×V×ab=>x.1) a (its.zip (vs.zip ds)) (by rw[Nz];simp;lia);let hz:(t.map (·.2)).Perm (vs.zip ds):=by let:=pt.map (·.2);rwa [vl (by simp;lia)]at this
 show((t.map (·.2)).map (·.1),(t.map (·.2)).map (·.2),?_,qp λz h=>qo q z (hz.mem_iff.mp h),?_);rw[KQ];show uE λx hx=>qI rv x (pt.mem_iff.mp hx);let:=hz.map (·.2);rwa [vl (!0)]at this
section
variable{X:Cx}{K:bg}{KP:ab->Prop}{N:ac->Prop}{pins:Oq}{σ:St}{H:Hp}{s:az}
def xC(X:Cx)(KP:ab->Prop):Prop:=∀{A:Around}{pins:Oq}{σ:St}{H:Hp}{s:az}{kv:OU}{kd:OM}{ks:ON},A.units+64<KI->Inv X pins σ H s->DVs X.K H kv kd->aS kv ks->(∀d∈kd,KP d)->2<=-ks->ut X.prog X.w A ks s
def sr:xC X Cq:=λa I q r k h2=>E4 a h2 (wj I q r k)
def yT:xC X Fg:=λa I q r k h2=>Bo (!0) h2 (rq I q r k)
def yU:xC X Ap:=λY I q r k h2=>Cr h2 (wz I q r k)
def Bb(hg:xC X KP)(h:X.A.units+80<KI)(I:Inv X pins σ H s)(hc:FU X.prog X.w X.A.in1 s p its)(rv:aS vs its)(q:DNs X.K N H vs ds)(hk:∀d∈ds,KP d)(e:-vs<1000000)
  (hQ:∀vs' es,es.Perm ds->DNs X.K N H vs' es->∀q,H q=OW->Q (.ref q) (upd H q (.lst vs'))):j4 (kq X.prog X.w) X.A (call (.builtin "sorted") [.ref p]) (EP X pins σ Q) E s:=by let i:=-rv;show ju (lt:=λY Y=>OY) (λz=>z.elim) hc (!0) (λh2 h' tk k=>(hg (by simp[Around.in1]at *;lia) (I.kept (t':=tk) k) q.dv rv hk h2).two) λws D h' tk c f Y k hD a=>?_;let(vs',es,g,q',b):=lM rv q f;show(.ref D,_,I.laid (t':=tk) (o:=.lst vs') k hD (by let:=q'.len;let:=b.length_eq;let:=q.len;rw[zg];lia,ws,c,g,a),rfl,hQ vs' es b q' _ (I.hok.fresh hD))
def kO(h:bb)(v:ao):ar:=open Classical in if z:∃k,ur h v k then z.choose else (0,[])
def Cn(x:ur h v k):kO h v=k:=by unfold kO;rw[dif_pos (k,x)];show(Exists.choose_spec ((k,x):∃k,ur h v k)).one x
def Di(ks:OQ):Prop:=∀i j,i<=j->j< -ks->iw (ks.getD j (0,[])) (ks.getD i (0,[]))=OY
def je(I:Inv X pins σ H s){vs:OU}{ks:OQ}{us:ON}(q:DVs X.K H vs (ks.map λk=>aN k))(t:aS vs us):-ks=-us/\∀i (h:i< -us),ur s.heap us[i] (ks.getD i (0,[])):=by
 induction ks generalizing vs us with
 |nil=>cases q;rw[aS.zero t];show(rfl,λi h=>absurd h (LO i))
 |cons k ks z =>
  cases q with
  |cons d q =>
   let(u,us,rfl,r,t):=aS.consI t;let(h1,h2):=z q t;show(congrArg (·+1) h1,λi hi=>?_);cases i with
   |zero=>show Cj I d r
   |succ i=>show h2 i (by simpa using hi)
def qX(d:X.A.units+80<KI)(I:Inv X pins σ H s)(hc:FU X.prog X.w X.A.in1 s p its)(rv:aS vs its)(q:DNs X.K N H vs (ks.map λk=>aN k))(z:-vs<1000000)
  (hQ:∀vs' a,a.Perm ks->(-ks<64->Di a)->DNs X.K N H vs' (a.map λk=>aN k)->∀q,H q=OW->Q (.ref q) (upd H q (.lst vs'))):j4 (kq X.prog X.w) X.A (call (.builtin "sorted") [.ref p]) (EP X pins σ Q) E s:=by
 let P:=-rv;let(R,k2):=je I q.dv rv;let S:∀u∈its,ur s.heap u (kO s.heap u):=λu d=>by
  let(i,hi,rfl):=K7 d;rw[Cn (k2 i hi)];show k2 i hi
 show ju (G:=True) (lt:=λu v=>iw (kO s.heap u) (kO s.heap v)) (λY=>(λY Y=>yR _ _,λY Y Y=>yQ _ _ _)) hc (!0) (λh2 h' tk k=>?_) λws D h' tk c B F k hD g=>?_;let J:=I.kept (t':=tk) (h':=h') k;let(_,L):=je J q.dv rv;let b:∀u∈its,ur h' u (kO s.heap u):=λu d=>by
  let(i,hi,rfl):=K7 d;rw[Cn (k2 i hi)];show L i hi
 let(fs,h1,h3,h4):=Au λu d=>(_,b u d)
 show kat_kind (T:=.type "int") h1 (!0) (λv hv=>?_) (by rfl) (rfl,λx hx y M C hC=>Ck (by simp[Around.in1]at *;lia) (b x hx) (b y M) (hC _ λY=>rfl));let(x,t,rfl):=h4 v hv;show .now
 .cbv;let(vs',es,l,q',O):=lM rv q B;let(a,pk,rfl):=df (f:=λk:ar=>aN k) O ks rfl;let(l1,l2):=je I q'.dv l
  w_up;show(.ref D,_,I.laid (t':=tk) (o:=.lst vs') k hD (by let:=-l;let:=pk.length_eq;rw[zg];lia,ws,c,l,g),rfl,hQ vs' a pk (λh i j n hj=>?_) q' _ (I.hok.fresh hD));let:=F (!0) trivial i j n (!0);let e:∀m,m< -a->kO s.heap (ws.getD m .none)=a.getD m (0,[]):=λm r=>by
   let r:m< -ws:=!0
   rw[show ws.getD m .none=ws[m] by simp[r]];show Cn (l2 m r)
  rw[<-e j hj,<-e i (!0)];show this
def xh(hK:X.K=K)(hg:xC X KP)(b:X.A.units+80<KI):fM X (.builtin "sorted") (λxs H Q=>∃(p:ac) (vs:OU) (ds:OM) (N:ac->Prop),xs=[.ref p]/\SqL K H p vs/\DNs K N H vs ds/\(∀d∈ds,KP d)/\vs.length<1000000 /\
  ∀vs' es,es.Perm ds->DNs K N H vs' es->∀q,H q=OW->Q (.ref q) (upd H q (.lst vs'))):=by subst hK;intro pins s σ H xs us Q I r h;let(p,vs,ds,N,rfl,hs,hd,hk,a,q):=h;let(u,rfl,c):=iQ r;cases (show u=cu p from c);let(its,rv,e,_):=I.list hs;show Bb hg b I (j7 e.isList (by rw[<- -rv];show a)) rv hd hk a q
def CP(KP:ab->Prop)(t:DA):DE:=λenv R=>t env λss a=>∃s ds,ss=[s]/\aV a s=OV (.list ds)/\(∀d∈ds,KP d)/\ds.length<1000000/\∀es:OM,es.Perm ds->R (.ow es) a
variable{e:ba}{p pos:Pos}{tl:DA}
def z7(hg:xC X KP)(hK:X.K=K)(i:X.A.units+80<KI)(c:Gl X "sorted")(j:X.mg "sorted" = none)(k:PA X [e] (upA K tl))(l:j0 [e] X.env=[(false,eval e X.env)]:=by rfl):PE X (.Call (.Name "sorted" p) [e] [] pos) (up K (CP KP tl)) :=
 (ja (xh (K:=K) hK hg i) c j boot_sorted k (!2) (!2) l rfl).imp λσ H Q h=>by
 let(M,P,H0,σ0,env,ts,R,d,ht,m):=h;show(M,P,H0,σ0,env,ts,_,d,ht,λss g vs H1 h1 n b=>?_)
 cbv;let(s,ds,rfl,e1,hk,f,hR):=h1;let(v,rfl):=kB n;let(a,us,rfl,sq,q):=(b.view (v:=v) (!1) e1).list
 w_up;show(a,us,ds,_,rfl,sq,q,hk,by rw[q.len];show f,λu es o r p' t=>m _ _ _ _ (hR es o) (b.resOw t r))
end
section
variable{X:Cx}{KP:ab->Prop}{pins:Oq}{σ:St}{H0:Hp}{vs:ON}{A:Around}{E:ao->az->Prop}{s:az}
def uO(hg:xC X KP)(G:A.units+64<KI)(I:Inv X pins σ H0 s)(fa:kj X pins H0 a)(ho:s.heap.get? a=OV (Qi "list" vs.toArray n))(t:-vs<64)
  (call:∀x∈vs,∀H s',Inv X pins σ H s'->bh H0 H->j4 (kq X.prog X.w) A (call f [x]) (λr s2=>∃d,KP d/\oO X pins σ H s' d r s2) (λY Y=>False) s')
  (h : ∀(ws:ON) H s' c,ws.Perm vs->Inv X pins σ H s'->bh H0 H->kj X pins H a->s'.heap.get? a=OV (Qi "list" ws.toArray c)->P (.done (.ret .none)) s') :
  j4 (kq X.prog X.w) A (ksk_tree a f OY) P E s:=by
 cbv;obtain⟨h3,e3⟩:∃h3,h3=((s.heap.update a (eb λY=>(#[]:OF))).push (Qi "tuple" vs.toArray 0)).push (Qi "list" #[] 0):=(_,rfl)
 obtain⟨kS,u⟩:∃kS,kS=((s.heap.update a (eb λY=>(#[]:OF))).push (Qi "tuple" vs.toArray 0)).objs.size:=(_,rfl)
 let j:=QZ ho λY=>(#[]:OF)
 obtain⟨e1,v,J⟩:∃e,h3.get? a=OV (Qi "list" #[] e)/\_=e:=(_,by rw[e3];show Kq _ (Kq _ j),rfl)
 w_up;let K:h3.get? kS=OV (Qi "list" (px []) 0):=by rw[e3,u];show KF _ rfl
 let hsz:kS=(~~~s)+1:=by rw[u,size_push',Mq]
 let l:a≠kS:=by rw[hsz];show KO (Mh (KB ho))
 let L:=I.turnedN (t':=s.toks) (fp:=[a]) (h':=h3) (λb g=>by rw[Kj.mp g];show fa) λb o g e=>by
  rw[e3];show Kq _ (Kq _ (((dk s.heap a _).2 b (λz=>g (by simp[z]))).trans e))
 unfold ksk_tree;show jj (Yk ho rfl ?_);show jj (QX ho rfl ?_ (by rw[KA,zg];lia) (KG _));show jj (ZO j rfl ?_);show jj (ZU ?_ (by show -vs<=_;rw[zg];lia));show jj (Zx ?_ (KG _));show q4 ?_;rw[J];show j4 (kq X.prog X.w) A (ksk_rest a f OY vs.toArray e1 (.ref ((s.heap.update a (eb λY=>(#[]:OF))).push (Qi "tuple" vs.toArray 0)).objs.size)) P E { s with heap:=((s.heap.update a (eb λY=>(#[]:OF))).push (Qi "tuple" vs.toArray 0)).push (Qi "list" #[] 0) };rw[<-e3,<-u];unfold ksk_rest;show jj (Qa ?_);rw[List.forIn_toArray];show jj (KX (mT (f:=f) (A:=A) (e1:=e1) (n:=-vs) l t (λx ks e s' C hz hx=>?_) call vs [] _ (λx hx=>hx) (!1) ((H0,[],[],0,L,bh.refl _,.nil,.nil,!1,fa,I.fpOk (!0) (I.hok.fresh (!0)),K),v)) (λY s' hd=>?_) λY Y x=>x);show jj (QW (KX hx (λk y hk=>?_) λY Y hF=>hF.elim));let e:=QZ hk.1 (·.push k);rw[show(px ks).push k=px (ks++[k]) by simp]at e;dsimp only;show jj (QX hk.1 rfl (js (rfl,k,y,_,hk.2,rfl,e)) (by rw[KA,zg];lia) (by rw[NE,KA,zg];lia));let(ks,M,((H,kv,kd,c,D,N,rv,dn,hk,m,B,p),la)):=hd;show jj (Yk p rfl ?_);unfold ksk_end;simp only[KW,if_false];show mU (lt:=λY Y=>OY) (λz=>z.elim) M (λh2=>(hg G D dn.dv rv hk (!0)).two) λws st F Y q O=>?_;let t1:=dk s'.heap kS (eb λY=>(#[]:OF));let i:=(t1.2 a l).trans la;unfold ksk_tail;dsimp only;rw[q];show jj (QX p rfl ?_ (by rw[KA,zg];lia) (KG _));show jj (wpAny_letGo ?_);show jj (ZO i rfl ?_);simp only[KW,if_false];show jj (QX i rfl ?_ (KG _) (by rw[KA,F.length_eq,zg];lia));rw[O];simp only[bne_self_eq_false,KW,if_false];show js (h ws H _ _ F (D.turnedN (t':=s'.toks) (fp:=[kS,a]) (λb g=>?_) λb o g e=>?_) N m (QZ i λY=>ws.toArray));rcases Kt.mp g with rfl|g;show B;rw[Kj.mp g];show m;simp only[Kt,Ld,or_false,not_or]at g;show((dk _ a _).2 b g.2).trans ((t1.2 b g.1).trans e)
def o6(hg:xC X KP)(t:A.units+80<KI)(I:Inv X pins σ H0 s)(k:FU X.prog X.w A.in1 s l vs)(j:-vs<64)
  (call:∀x∈vs,∀H s',Inv X pins σ H s'->bh H0 H->j4 (kq X.prog X.w) A.in1.in1 (call (.ref f) [x]) (λr s2=>∃d,KP d/\oO X pins σ H s' d r s2) (λY Y=>False) s')
  (h : ∀(ws:ON) H s' D c,ws.Perm vs->Inv X pins σ H s'->bh H0 H->kj X pins H D->s'.heap.get? D=OV (Qi "list" ws.toArray c)->Q (.ref D) s') :
  j4 (kq X.prog X.w) A (I1 (.builtin "sorted") [.ref l] [(fI "key",.ref f)]) Q E s:=by show call_function_entry_kw kind_sorted plain_sorted entry_sorted (ksk_s1 _ _) ?_;unfold Builtin.«sorted»;show jj (m:=checkCount "sorted" 1 1 _) (js ?_);show jj (k λh1 tk kp a=>?_);show jj (Zx ?_ (by rw[zg];lia));let i:(h1.push (Qi "list" vs.toArray 0)).get? h1.objs.size=OV (Qi "list" vs.toArray 0):=KF _ rfl;show jj (q4 (wpAny_call_entry_kw slot_list_sort (_,i,rfl) entry_list_sort ?bo (ksk_l1 _ _)));show j4 (kq X.prog X.w) A.in1.in1 (Builtin.«list.sort» ([.ref h1.objs.size],[(fI "key",.ref f)])) _ _ _;rw[ksk_t1];show uO hg (by simp[Around.in1]at *;lia) (I.kept (t':=tk) λb o e=>Kq _ (kp b o e)) (I.fpOk a (I.hok.fresh a)) i j call λws H s' c n p q fp g=>(_,rfl,js (_,rfl,h ws H s' _ c n p q fp g))
end
def Cl(KP:ab->Prop)(tb:DE)(es:OM):Prop:=tb (es.map .fr) λs env=>∃kd,aM env s=OV kd/\KP kd
section
variable{X:Cx}{pins:Oq}{σ:St}{H:Hp}{s:az}{KP:ab->Prop}{tb:DE}
def Ic(KP:ab->Prop)(X:Cx)(H:Hp):VK:=λv H'=>bh H H'/\∃kd,KP kd/\DN X.K N0 H' v kd
def yV{fl:Except ao Flow}{s':az}(I:Inv X pins σ H s)(c:CR CX0 X.stack X.prog X.w H s (Ic KP X H) E0 fl s'):∃r,fl=.ok (.ret r)/\∃kd,KP kd/\oO X pins σ H s kd r s':=by
 cases fl with
 |error e=>show c.elim
 |ok fl =>
  cases fl with
  |ret z =>
   let(v1,H',os,bare,un,hok,rv,f,kd,d,dn):=c;show(_,rfl,kd,d,H',v1,I.call' (ch:=[]) os un hok bare (λb z=>nomatch z),f,rv,dn,λb o a e=>(un.keep b o e a.1 (λz=>?_) (!1),un.free b o e a.1 (!1)));rcases Kt.mp (I.stkSub b z) with z|z;show a.2.1 z;show a.2.2.1 z
  |_=>show False.elim c
def wm(q:DNs X.K N0 H vs ds)(hk:Cl KP tb ds):up X.K tb (vs.map OV) H (Ic KP X H):=by show(N0,N0,H,_,_,[],_,Bp q,hk,λs1 env' v' H' ⟨kd,hR,c⟩ a=>((a.e.keep).none,kd,c,?_));show(a.kept (ts:=[]) (v:=v') (s:=s1) (!1) hR).to λb Y Y z=>z.elim
end
section
variable{X:Cx}{K:bg}{e:ba}{t:TA}{q0 pos kpos lpos:Pos}{params:Zw}{scope:Qq}{body:ba}{p x:bc}{i:Nat}{tb:DE}{KP:ab->Prop}{KR:St->Hp->ab->Prop}
def Gx(K:bg)(KR:St->Hp->ab->Prop)(t:TA):TE:=λσ H Q=>t σ H λxs H1=>∃(q:ac) (vs:OU) (N:ac->Prop) (ds:OM),xs=[.ref q]/\SqL K H1 q vs/\DNs K N H1 vs ds/\(∀d∈ds,KR σ H1 d)/\vs.length<64 /\
 ∀vs' es H2,bh H1 H2->es.Perm ds->DNs K N H2 vs' es->∀q,H2 q=OW->Q (.ref q) (upd H2 q (.lst vs'))
def vF(hK:X.K=K)(hG:xC X KP)(L:zL X)(U:fb 4 X.A)(hg:Gl X "sorted")(W:X.mg "sorted" = OW)(Y:PA X [e] t)(n:Z4 params X.env=([],[]))
  (F:∀{pins:Oq}{s:az}{σ:St}{H:Hp},Inv X pins σ H s->∃clos,QV scope X.env=pure clos)
  (G:∀{σ:St}{H H':Hp}{d:ab},KR σ H d->bh H H'->KR σ H' d)
  (j:∀{pins:Oq}{s:az}{σ:St}{H:Hp}{clos:Ov}{f c':ac}{pm ctv u:ao}{v:V}{d:ab},Inv X pins σ H s->QV scope X.env=pure clos->s.heap.get? f=OV (ZB "<lambda>" (X.env.qual ++ "<lambda>") params body scope clos pm c' ctv)->s.heap.CodeRec (.ref c') (X.env.qual ++ "<lambda>") ->
   bE v u->DN X.K N0 H v d->KR σ H d->Qx (kq X.prog X.w) X.A.in1.in1 (.call (.ref f) ([u],[])) (CR CX0 X.stack X.prog X.w H s (Ic KP X H) E0) s)
  (p:z4 pos (j0 [e] X.env)=(OY,eval e X.env)::z4 pos (j0 [] X.env)) :
  PE X (.Call (.Name "sorted" q0) [e] [(OV "key",.Lambda params body scope lpos,kpos)] pos) (Gx K KR t):=by
 subst hK;intro pins s σ H Q I h;let(clos,hc):=F I;show Q2 (gS I hg W boot_sorted ?_ (!2) (!2));show callWith_kw (thn (Y pos pins s σ H _ I h) λus s1 J=>?_) p (by rw[p];rfl) rfl rfl;let(xs,H1,Z,r,q):=J;show j4 _ _ (evalAll [(do let v <-eval (.Lambda params body scope lpos) X.env;Q0 pos;pure v)]) _ _ s1;show wpAny_evalAll_cons (jj (wg Z L hc n λf c' pm ctv s2 H2 M x B k cz=>jj (Q6 (js (wpAny_evalAll_nil ?_)))));let(p0,vs,N,ds,rfl,sq,dn,C,a3,q):=q;let(u,rfl,ru):=iQ r;cases (show u=cu p0 from ru);let(its,rv,hp,_):=M.list (x.seq sq);let R:=-rv;generalize i:ZB "<lambda>" (X.env.qual ++ "<lambda>") params body scope clos pm c' ctv=fo at B;let I3:Inv X ((f,fo)::pins) σ H2 s2:=M.pins_of λz hz=>by
  rcases Kt.mp hz with rfl|hz;show(B,k.1,k.2.1,k.2.2.1,λv=>by rw[<-i];exactλz=>by cases z);show M.pin z (Kl _ hz)
 let O:DNs X.K N0 H2 vs ds:=(dn.keep (bd.same x)).to λb _ _ z=>z.elim;show o6 hG (iG U) I3 (j7 hp.isList (!0)) (!0) (λy hy H' s' l g=>?_) λws H' s' D c m l g a gD=>?_
 .cbv;let(v,d,rx,dx,md):=wO O rv y hy;let S:=(l.pin (f,fo) (Kl _ Ks)).1;rw[<-i]at S;let(oc,u,ws,t,e1,e2,e3):=cz;let(P,_):=l.hok c' _ (g _ _ e1)
  w_up;show wpAny_call (ZE (j l hc S (_,_,_,_,rfl,P,e2,e3) rx (dx.keep (bd.same g)) (G (C d md) (x.trans g))) λres s' hq=>by
   let(z,rfl,h):=yV l hq;show h)
 let I4:Inv X pins σ H' s':=l.pins_of λz hz=>l.pin z (Kl _ (Kv _ hz));let E:kj X pins H' D:=(a.1,a.2.1,a.2.2.1,a.2.2.2.1,a.2.2.2.2.1,λz hz=>a.2.2.2.2.2 z (by
  rcases Km.mp hz with hz|hz;show Kp _ hz;show Kl _ (Kv _ hz)))
 let(vs',es,r',q',T):=lM rv (dn.keep (bd.same (x.trans g))) m;show(.ref D,_,I4.track (o:=.lst vs') E (by let:=q'.len;let:=T.length_eq;let:=dn.len;rw[zg];lia,_,c,r',gD),rfl,q vs' es _ (x.trans g) T q' _ a.1)
variable{tl:DA}
def CT(KP:ab->Prop)(tb:DE)(t:DA):DE:=λenv R=>t env λss a=>∃s ds,ss=[s]/\aV a s=OV (.list ds)/\ds.length<64/\(∀d∈ds,Cl KP tb [d])/\∀es:OM,es.Perm ds->R (.ow es) a
def CS(KP:ab->Prop)(tb:DE)(i:Nat)(t:DA):DE:=λenv R=>t env λss a=>∃s ds b,ss=[s]/\aV a s=OV (.list ds)/\a[i]?=OV (.fr b)/\ds.length<64/\(∀d∈ds,Cl KP tb [d,b])/\∀es:OM,es.Perm ds->R (.ow es) a
def Ec(hG:xC X KP)(hK:X.K=K)(L:zL X)(t:fb 4 X.A)(hg:Gl X "sorted")(y:X.mg "sorted" = none)(z:PA X [e] (upA K tl))(S:aA [p] [p] scope)
  (B:∀(qual:bc) (pm c ctv u:ao),QP (kla_fn "<lambda>" qual params body scope [] pm c ctv) ([u],[])=pure [(p,u)])
  (i:QV scope X.env=pure []) (j:Z4 params X.env=([],[]))
  (g:∀(A:Around) (s:az) (H:Hp) (f:ac) (cd:ao),PE (ux CX0 X.prog X.w X.K X.mg X.base [p] (X.env.qual ++ "<lambda>") scope f cd A X.stack s H E0) body (up X.K tb))
  (l:z4 pos (j0 [e] X.env)=(false,eval e X.env)::z4 pos (j0 [] X.env):=by rfl) :
  PE X (.Call (.Name "sorted" q0) [e] [(some "key",.Lambda params body scope lpos,kpos)] pos) (up K (CT KP tb tl)) :=
 (vF (KR:=λY Y d=>Cl KP tb [d]) hK hG L t hg y z j (λY=>([],i)) (λh Y=>h) (λI hc ho m r hd hk=>by
  rw[i]at hc;cases hc;show Cf (k:=1) (CX:=CX0) (E:=E0) (ps:=[p]) S t.in1.in1 I.env0.in1.in1 ho m (B _ _ _ _ _) (.cons r .nil) rfl (g _ _ _ _ _) (wm (.cons hd .nil) hk)) l).imp λσ H Q h=>by
 let(M,P,H0,σ0,env,ts,R,n,ht,C):=h;show(M,P,H0,σ0,env,ts,_,n,ht,λss x vs H1 h1 D b=>?_)
 cbv;let(s,ds,rfl,e1,o,hk,hR):=h1;let(v,rfl):=kB D;let(a,us,rfl,sq,q):=(b.view (v:=v) (!1) e1).list
 w_up;show(a,us,_,ds,rfl,sq,q,hk,by rw[q.len];show o,λvs' es H2 F G J p' N=>C _ _ _ _ (hR es G) ((b.same F).resOw N J))
def Eb(i:Nat)(hG:xC X KP)(hK:X.K=K)(L:zL X)(hr:fb 4 X.A)(hg:Gl X "sorted")(hm:X.mg "sorted" = none)(ha:PA X [e] (upA K tl))(S:mE p x scope)
  (hN:X.N[i]?=some x) (hv:Vis X.env.scope x) (l:X.env.kindOf x=some .cell\/X.env.kindOf x=some .free) (O:X.env.kindOf x≠some .local)
  (hb:∀(qual:bc) (cl:Ov) (pm c ctv u:ao),QP (kla_fn "<lambda>" qual params body scope cl pm c ctv) ([u],[])=pure [(p,u)])
  (C:∀c,X.env.cells.lookup x=some c->QV scope X.env=pure [(x,c)]) (D:Z4 params X.env=([],[]))
  (n:∀(A:Around) (s:az) (H:Hp) (f:ac) (cd:ao) (c:ac),fb 1 (A.deeper (envX (X.env.qual ++ "<lambda>") scope s.heap.objs.size f cd [(x,c)]))->PE (AG CX0 X.prog X.w X.K X.mg X.base [p,x] (X.env.qual ++ "<lambda>") scope f cd [(x,c)] A X.stack s H E0) body (up X.K tb))
  (T:z4 pos (j0 [e] X.env)=(false,eval e X.env)::z4 pos (j0 [] X.env):=by rfl) :
  PE X (.Call (.Name "sorted" q0) [e] [(some "key",.Lambda params body scope lpos,kpos)] pos) (up K (CS KP tb i tl)) :=
 (vF (KR:=λσ H d=>∃v0 o,σ[i]?=OV (OV v0)/\DN K N0 H v0 o/\Cl KP tb [d,o]) hK hG L hr hg hm ha D (λI=>let ⟨c,hc⟩:=I.ok.has x l;(_,C c hc)) (λhz V=>by let(v0,o,U,dn,hk):=hz;show(v0,o,U,dn.keep (bd.same V),hk)) (λ{pins s σ H clos f c' pm ctv u v d} I hc ho W r hd hk=>by
  cbv;subst hK;let(c,t):=I.ok.has x l;rw[C c t]at hc;cases hc;let(v0,o,Y,y,hk):=hk;let(m,a7,F):=I.loc;let(u0,Z,B):=F i x v0 hN Y hv
  w_up;let j:s.heap.IsCell c (OV u0):=by
   rcases B with⟨z,_⟩|⟨_,c2,G,ic⟩
   show absurd z O;rw[t]at G;cases G;show ic
  let J:fb 2 X.A.in1.in1:=hr.in1.in1;show yO (k:=1) (CX:=CX0) (E:=E0) S J I.env0.in1.in1 ho W (hb _ _ _ _ _ _) j Z (I.freeC x c t) r (n _ _ _ _ _ _ (J.deeper _)) (wm (.cons hd (.cons y .nil)) hk)) T).imp λσ H Q h=>by
 let(M,P,H0,σ0,env,ts,R,a3,ht,hq):=h;show(M,P,H0,σ0,env,ts,_,a3,ht,λss a6 vs H1 h1 hl g=>?_)
 cbv;let(s,ds,o,rfl,e1,U,a4,hk,hR):=h1;let(v,rfl):=kB hl;let(a,us,rfl,sq,q):=(g.view (v:=v) (!1) e1).list;let(x0,ex,m0):=g.slot U;let(v0,a5,y):=g.e.fr _ _ m0
 w_up;show(a,us,_,ds,rfl,sq,q,λd hd=>(v0,o,by rw[ex,a5],y.to λb _ _ z=>z.elim,hk d hd),by rw[q.len];show a4,λvs' es H2 V pe qe p' hp=>hq _ _ _ _ (hR es pe) ((g.same V).resOw hp qe))
end
section
variable{X:Cx}{K:bg}
def CQ(t:DA):DE:=λenv R=>t env λss a=>∃s ks,ss=[s]/\(aV a s=OV (.list (ks.map λk=>aN k))\/∃kvs,aV a s=OV (br kvs)/\ks=kvs.map (·.1))/\ks.length<1000000/\∀b:OQ,b.Perm ks->(-ks<64->Di b)->R (.ow (b.map λk=>aN k)) a
def xi(hK:X.K=K)(hc:X.calm=OX)(f:X.A.units+80<KI):fM X (.builtin "sorted") (λxs H Q=>∃(p:ac) (ks:OQ) (N:ac->Prop) (vs:OU),xs=[.ref p]/\(SqL K H p vs\/∃es:Oo,H p=OV (.ext (bf p es))/\vs=es.map λp=>V.ref p.2.1)/\DNs K N H vs (ks.map λk=>aN k)/\vs.length<1000000 /\
  ∀vs' b,b.Perm ks->(-ks<64->Di b)->DNs K N H vs' (b.map λk=>aN k)->∀q,H q=OW->Q (.ref q) (upd H q (.lst vs'))):=by
 subst hK;intro pins s σ H xs us Q I r h;let(p,ks,N,vs,rfl,hs,hd,a,q):=h;let(u,rfl,g):=iQ r;cases (show u=cu p from g);rcases hs with hs|⟨es,hs,rfl⟩
 let(its,rv,j,_):=I.list hs;show qX f I (j7 j.isList (by rw[<- -rv];show a)) rv hd a q;let(z,y,o,dd,h1,h2,h3,h4,h5):=gv I hs;rw[Ki]at a;show qX (its:=es.map λp=>cu p.2.1) f I (λ{E Q} hQ=>oC (I.ok.hd hc) y h1 h2 h3 (!0) λh' tk c kp d it=>?_) (mL es) hd (by rw[Ki];show a) q;let l:c.toList=es.map λp=>cu p.2.1:=by show Mo (by rw[lu,it.1];simp[h4]) λi j1 j2=>?_;rw[Ki]at j2;let(z,e):=it.2 i c[i] (!1);rw[Array.getElem_toList,e];let:=h5 i (!0) j2;simp[this]
 rw[l];show hQ h' tk kp d
variable{e:ba}{p pos:Pos}{tl:DA}
def vo(hK:X.K=K)(hc:X.calm=true)(o:X.A.units+80<KI)(hg:Gl X "sorted")(r:X.mg "sorted" = none)(f:PA X [e] (upA K tl))(t:j0 [e] X.env=[(false,eval e X.env)]:=by rfl):PE X (.Call (.Name "sorted" p) [e] [] pos) (up K (CQ tl)) :=
 (ja (xi (K:=K) hK hc o) hg r boot_sorted f (!2) (!2) t rfl).imp λσ H Q h=>by
 let(M,P,H0,σ0,env,ts,R,g,ht,l):=h;show(M,P,H0,σ0,env,ts,_,g,ht,λss m vs H1 h1 u b=>?_);let(s,ks,rfl,e1,d,hR):=h1;let(v,rfl):=kB u;rcases e1 with e1|⟨kvs,e1,rfl⟩
 let(a,us,rfl,sq,q):=(b.view (v:=v) (!1) e1).list;show(a,ks,_,us,rfl,.inl sq,q,by rw[q.len,Ki];show d,λvs' c pk i j p' k=>l _ _ _ _ (hR c pk i) (b.resOw k j));let(a,es,rfl,f,hk,hv,w):=(b.view (v:=v) (!1) e1).dct_of rfl;let n:-es=-kvs:=by let:=congrArg eH w;simpa using this
 rw[Ki]at d;show(a,kvs.map (·.1),_,_,rfl,.inr (es,f,rfl),by rw[KQ];show hk,by rw[Ki];lia,λvs' c pk i j p' k=>l _ _ _ _ (hR c pk i) (b.resOw k j))
end
section
variable{K:bg}{x qual p q r t:bc}{st:Stmt}{f:ac}{fd:k3}(F:Fun K x qual st f fd)
def BdA(x qual:bc)(st:Stmt)(us:ON)(ps:List (bc×ao)):Prop:=∀(kV doc pm:ao) (an:OC) (cdv ct:ao),QP (gi x qual (eY st) (cI st) (ae st) .none kV doc pm an cdv ct) (us,[])=pure ps
include F
def bd1(h:∀a,BdA x qual st [a] [(p,a)]:=by intros;unfold BdA;intros;rfl):gY K fd [p] []:=F.binds (ps:=[p]) λY Y Y Y Y Y us b=>us1 (Q:=λus=>QP _ (us,[])=pure (pp _ us)) b λa=>h a _ _ _ _ _ _
def bd2(h:∀a b,BdA x qual st [a,b] [(p,a),(q,b)]:=by intros;unfold BdA;intros;rfl):gY K fd [p,q] []:=F.binds (ps:=[p,q]) λY Y Y Y Y Y us c=>us2 (Q:=λus=>QP _ (us,[])=pure (pp _ us)) c λa b=>h a b _ _ _ _ _ _
def bd3(h:∀a b c,BdA x qual st [a,b,c] [(p,a),(q,b),(r,c)]:=by intros;unfold BdA;intros;rfl):gY K fd [p,q,r] []:=F.binds (ps:=[p,q,r]) λY Y Y Y Y Y us d=>us3 (Q:=λus=>QP _ (us,[])=pure (pp _ us)) d λa b c=>h a b c _ _ _ _ _ _
def bd4(h:∀a b c d,BdA x qual st [a,b,c,d] [(p,a),(q,b),(r,c),(t,d)]:=by intros;unfold BdA;intros;rfl):gY K fd [p,q,r,t] []:=F.binds (ps:=[p,q,r,t]) λY Y Y Y Y Y us e=>us4 (Q:=λus=>QP _ (us,[])=pure (pp _ us)) e λa b c d=>h a b c d _ _ _ _ _ _
end
section
variable{X:Cx}{K:bg}{e1 e2:ba}{ta:TA}{p q zp pos:Pos}
def yu(hK:X.K=K)(J:X.calm=true)(L:Gl X "list")(M:X.mg "list" = none)(hg:Gl X "zip")(hm:X.mg "zip" = none)(N:PA X [e1,e2] ta)
  (O:j0 [.Call (.Name "zip" q) [e1,e2] [] zp] X.env=[(false,eval (.Call (.Name "zip" q) [e1,e2] [] zp) X.env)]:=by rfl)
  (m:z4 pos (j0 [.Call (.Name "zip" q) [e1,e2] [] zp] X.env)=[(false,eval (.Call (.Name "zip" q) [e1,e2] [] zp) X.env)]:=by rfl)
  (hs:j0 [e1,e2] X.env=[(false,eval e1 X.env),(false,eval e2 X.env)]:=by rfl) (r:j0 [e2] X.env=[(false,eval e2 X.env)]:=by rfl) :
  PE X (.Call (.Name "list" p) [.Call (.Name "zip" q) [e1,e2] [] zp] [] pos) (GD K ta):=by
 subst hK;intro pins s σ H Q I h;show Call_ (gS I L M vb (fx ?_ O rfl));rw[m];show Calls.spliced_cons ?_;show Call_ (gS I hg hm PyProof.Rows.boot_zip (fx (thn (N zp pins s σ H _ I h) λus s1 P=>?_) (by rw[hs,r]) (by rw[r];rfl)))
 cbv;let(vs,H1,l,r1,q1):=P;let(l1,l2,xs,ys,rfl,R,S,q):=q1;let(u,v,rfl,ru,rv):=tH r1
 w_up;cases (show u=cu l1 from ru);cases (show v=cu l2 from rv);let(w,g,T,z1):=l.list R;let(A,B,pl2,z2):=l.list S;let i:=T.isList;let k:=pl2.isList;show call_zip_2 i k λh' hz U C h1 h2 _ hk=>?_;show Calls.spliced_nil ?_
 cbv;let(o1,g1,_):=id i;let(o2,g2,_):=id k;let a3:=KB g1;let a4:=KB g2;generalize G:(~~~s1)=n at *
 w_up;let ap:Zb (n+4) (n+2) (n+3) n (n+1) l1 l2:=by constructor <;> (intro z;simp only[ac]at *;lia)
 let tl:n+3<h'.objs.size:=KB C;show my (s:={ s1 with heap:=h' }) (xs:=w.toArray) (ys:=A.toArray) (I.ok.hd J) ap (U,h1,h2,i.at λo e=>hk _ o e,k.at λo e=>hk _ o e,.inl (rfl,hz,_,_,C)) hz ?_ tl λh2 tk a5 c as kp hS D E F=>?_;let:=-g;rw[KA,<-this];show Kr (Md _ _) z1;let le:n<=h'.objs.size:=by simp only[ac]at *;lia
 let kk:∀b o,s1.heap.get? b=OV o->h2.get? b=OV o:=λb o e=>by
  let lb:=KB e;rw[G]at lb;show kp b o ?_ ?_ ?_ ?_ (hk b o e) <;> (intro z;simp only[ac]at *;lia)
 let I2:Inv X pins σ H1 { s1 with heap:=h2,toks:=tk }:=l.kept kk;let fr:∀a,n<=a->H1 a=OW:=λa N=>l.hok.fresh (by rw[G];show N);let d:-as=(xs.zip ys).length:=by rw[D,LN,KA,KA,(-g),(-B)]
 let f:(as.zip (xs.zip ys)).map (λt=>t.1)=as:=Nz (by rw[d];show Kz _);let(W,I3,s3,o3,g3):=jt (as.zip (xs.zip ys)) H1 I2 (by rw[f];show E.nd) λt ht=>by
  cbv;let(j,hj):=List.getElem?_of_mem ht;rw[LG]at hj;let(j1,j2):=hj;rw[LG]at j2;let(j2,j3):=j2;let(x,y,hx,hy,hp):=E.pairs j t.1 j1
  w_up;let Y:=E.above t.1 (Lu j1);show(l.fpOk (by rw[G];show Kr le (Kr (LD _) Y)) (fr _ (Kr le (Kr (LD _) Y))),x,y,?_,?_,hp);show lg g (by simpa using hx) j2;show lg B (by simpa using hy) j3
 let nS:h'.objs.size ∉ (as.zip (xs.zip ys)).map (λt=>t.1):=by rw[f];intro z;show Nat.not_succ_le_self _ (E.above _ z)
 let Z:W h'.objs.size=OW:=by rw[o3 _ nS];show fr _ le
 show(.ref h'.objs.size,_,I3.track (o:=.lst (as.map V.ref)) (l.fpOk (by rw[G];show le) Z) (?_,as.map cu,c,mK as,?_),rfl,q W as s3 d (λt ht=>(?_,g3 t ht)) _ Z);rw[Ki,d,LN];show Kr (Md _ _) z1;rw[<-F];show hS;let:t.1∈as:=by rw[<-f];show Ko.mpr (t,ht,rfl)
 show fr _ (Kr le (Kr (LD _) (E.above _ this)))
variable{tl:DA}
def Bt(hK:X.K=K)(e:X.calm=true)(f:Gl X "list")(g:X.mg "list" = none)(hg:Gl X "zip")(s:X.mg "zip" = none)(t:PA X [e1,e2] (upA K tl))
  (i:j0 [.Call (.Name "zip" q) [e1,e2] [] zp] X.env=[(false,eval (.Call (.Name "zip" q) [e1,e2] [] zp) X.env)]:=by rfl)
  (c:z4 pos (j0 [.Call (.Name "zip" q) [e1,e2] [] zp] X.env)=[(false,eval (.Call (.Name "zip" q) [e1,e2] [] zp) X.env)]:=by rfl)
  (hs:j0 [e1,e2] X.env=[(false,eval e1 X.env),(false,eval e2 X.env)]:=by rfl) (j:j0 [e2] X.env=[(false,eval e2 X.env)]:=by rfl) :
  PE X (.Call (.Name "list" p) [.Call (.Name "zip" q) [e1,e2] [] zp] [] pos) (up K (C0 tl)) :=
 (yu (K:=K) hK e f g hg s t i c hs j).imp λσ H Q h=>by
 let(M,P,H0,σ0,env,ts,R,k,ht,u):=h;show(M,P,H0,σ0,env,ts,_,k,ht,λss n vs H1 h1 x b=>?_)
 cbv;let(s1,s2,d1,d2,rfl,e1,e2,hR):=h1;let(v,w,rfl):=F6 x;let(l1,xs,rfl,l,q1):=(b.view (v:=v) (!1) e1).list;let(l2,ys,rfl,m,q2):=(b.view (v:=w) (!1) e2).list
 w_up;show(l1,l2,xs,ys,rfl,l,m,λH2 as o d hz r y=>u _ _ _ _ hR ((b.same o).resOw y (sN o (λa z=>b.newAddr z) as q1 q2 d hz)))
end
section
structure LpE(E:iD)(W:OL->Prop)(DD:iD):Prop where
 nx : ∀env,W env->E.nx env
 ct : ∀env,W env->E.ct env
 bk : ∀env,DD.nx env->E.bk env
 rt : ∀s env,DD.rt s env->E.rt s env
def dz(W:Nat->OL->Prop)(h0:W 0 env)
  (hs:∀E:Nat->iD,(∀i,LpE (E i) (W (i+1)) DD)->∀i env,(h:i< -ds)->W i env->g ds[i] env λa=>tb (E i) a) (hd:∀env,W (-ds) env->DD.nx env):FD ds g tb DD env:=(W,h0,λi=>hs (λi=>{ DD with nx:=dI (W (i+1)) ⟨⟩,ct:=dI (W (i+1)) ⟨⟩,bk:=DD.nx }) (λY=>(λY z=>z,λY z=>z,λY z=>z,λY Y z=>z)) i,hd)
def gz(W:Nat->OL->Prop)(h0:∃m,W m env)
  (h : ∀E:Nat->iD,(∀m,LpE (E m) (λenv=>∃a,a<m/\W a env) DD)->∀m env,W m env->c env λk b=>if k=OX then tb (E m) b else DD.nx b):AC c tb DD env :=
 (W,h0,λm=>h (λm=>{ DD with nx:=dI (λenv'=>∃a,a<m/\W a env') ⟨⟩,ct:=dI (λenv'=>∃a,a<m/\W a env') ⟨⟩,bk:=DD.nx }) (λY=>(λY z=>z,λY z=>z,λY z=>z,λY Y z=>z)) m)
end
section
variable{prog:k5}{w:q3}{A:Around}{E:ao->az->Prop}{s:az}
def wl:ZW (.type "list") "keys" = pure OW:=am_miss_of_fast (!3)
def xo(hx:s.heap.get? l=some o)(hc:o.cls=.type "list")(a:o.data=.seq xs k)(hd:o.dict=none)(hA:A.handled=none)
  (h : ∀h' tk,(∀b ob,s.heap.get? b=some ob->h'.get? b=some ob)->Q none { s with heap:=h',toks:=tk }):j4 (kq prog w) A (getAttr? (.ref l) "keys") Q E s:=by
 cbv;let(c,dct,j,sl):=o;simp only at hc a hd;subst hc a hd;let(m,g,d,tk,os):=s
 w_up;let hT:∀f,((m,g,d,f,os):az).TypeIs (.ref l) "list" := λY=>(_,hx,rfl)
 let n:=sub_AttributeError;let p:=F.slot_list_getattribute.lookup;let q:=F.slot_list_getattribute.bind (.ref l);let r:=am_list_getattr_none;unfold getAttr? getAttrBy? getAttrBy
 repeat (any_goals (first|assumption|show hT _|((with_reducible show j4 _ _ (call (NK "list.__getattribute__") _ _) _ _ _);show Qy F.slot_list_getattribute (hT _) am_entry_list_getattribute (F.args_list_getattribute_2 _ _) (meets_getattribute_miss_list l xs k sl "keys" _ wl (!3) (by size_fits)) (hx,hA,λh' f e i=>?_))|wp_step))
 let(t',t,u):=i.there;show j4 _ _ (getattributeRaised _ _ _ _ _ _ _) _ _ _;unfold getattributeRaised
 repeat (any_goals (first|assumption|wp_step))
 show h h' f i.keeps
def FQ(prog:k5)(w:q3)(h:bb)(v:ao)(p:ar×ac×ao):Prop:=∃t o n,v=.ref t/\h.get? t=OV o/\o.cls=.type "tuple" /\ o.data=.seq #[.ref p.2.1,p.2.2] n/\cQ prog w h p.1 p.2.1
def kX:entryFor table "dict.update.loop" = OV Builtin.«dict.update.loop»:=entryFor_of_tree (by kernel_rfl)
def fR:plainId "dict.update.loop" = OX:=!3
def xQ{its:OF}{ps:On}{h0:bb}(M:A.handled=none)(Q:A.units+8<KI)(u:l≠I)(y:d≠l)(f:d≠I)(B:h0.get? d=none)(C:h0.get? I=none)(hz:its.size=ps.length)(hsz:ps.length<1000000)(nd:(ps.map (·.1)).Nodup)
  (hF:∀h',(∀b o,h0.get? b=some o->h'.get? b=some o)->∀i (h:i<its.size) (h2:i<ps.length),FQ prog w h' its[i] ps[i])
  (hR:∀h' tk,(∀b o,h0.get? b=some o->h'.get? b=some o)->fZ prog w h' d ps->R (.ok (.ret .none)) { s with heap:=h',toks:=tk }) :
  ∀(n i:Nat) (h:bb) (tk:Nat),n=ps.length-i->i<=ps.length->(∀b o,h0.get? b=some o->h.get? b=some o)->h.IsListIter I l i->h.IsList l its->fZ prog w h d (ps.take i) ->
   Qx (kq prog w) A (.builtin "dict.update.loop" ([.ref d,.ref I,Qt i,.none],[])) R { s with heap:=h,toks:=tk }:=by
 let W:=Walks.list (prog:=prog) (w:=w) (A:=A.in1) M I l u its;let J:∀{h h':bb}{i:Nat},(∀b o,h0.get? b=OV o->h'.get? b=OV o)->(∀o,h.get? d=OV o->h'.get? d=OV o)->fZ prog w h d (ps.take i)->fZ prog w h' d (ps.take i):=λc kd dl=>by
  let(o,ds,ep,e1,e2,e3,e4,_,N,O):=dl;show(o,ds,ep,kd o e1,e2,e3,e4,λx hx=>?_,N,O);let(j,hj,rfl):=K7 (LX hx);let(_,_,_,_,_,_,_,z):=hF _ c j (!0) hj;show z
 let D:∀{h h':bb},(∀b o,h0.get? b=OV o->h.get? b=OV o)->(∀b o,b ∉ [I]->h.get? b=OV o->h'.get? b=OV o)->∀b o,h0.get? b=OV o->h'.get? b=OV o:=λc k b o e=>k b o (λz=>by rw[Kj.mp z,C]at e;cases e) (c b o e);intro n
 induction n with
 |zero =>
  intro i h tk hn hi c it E dl;obtain rfl:i=-ps:=!0
  show Qr kX ?_;rw[Around.under_plainId fR _];show jj (W.done { s with heap:=h,toks:=tk } _ _ (by rw[hz];show(it,E)) λh' g k=>?_);show jj (js (js (hR h' g (D c k) ?_)));let:=J (D c k) (λo e=>k d o (by simpa using f) e) dl;rwa [La]at this
 |succ n P =>
  intro i h tk hn hi c it E dl;let a:i< -ps:=!0
  show Qr kX ?_;rw[Around.under_plainId fR _];show jj (W.item i { s with heap:=h,toks:=tk } _ _ (!0) (it,E) λv h' g pv st k=>?_);let F:=D c k;let hv:v=its[i]:=by let:its[i]?=OV v:=pv;rw[gf (!0)]at this;show(di this).symm
  let K:=hF h' F i (!0) a;rw[<-hv]at K;let(t,o,m,rfl,ho,hc,hd,hk):=K;let G:=J F (λo e=>k d o (by simpa using f) e) dl;show jj (q4 (jj (wpAny_tryCatch ?_)));unfold Builtin.Dict.pairItems;show jj (Zc (T := "tuple") (_,ho,hc) ?_);rw[N6 (!2)];show jj (jj (wpAny_load ho ?_));rw[hd];show js (js ?_);show j4 _ _ (Qo [.ref ps[i].2.1,ps[i].2.2] (dictSet d (.ref ps[i].2.1) ps[i].2.2)) _ _ _;show q4 (j6 (by simp[Around.in1];lia) hk G (λh2 q L=>?_) (by rw[K8,zg];lia));let k2:∀b o,h0.get? b=OV o->h2.get? b=OV o:=λb o e=>(L.2 b (λz=>by rw[z,B]at e;cases e)).trans (F b o e);let r:ps[i].1 ∉ (ps.take i).map (·.1):=λz=>by
   rw[MM]at z;let(j,hj,e):=K7 z;rw[Mk]at e;rw[K8,Ki]at hj;let:=(L5 (i:=j) (j:=i) (h₀:=by simp;lia) (h₁:=by simpa using a) nd).mp (by rw[e];simp);lia
  rw[storedH_new (Q5 λj p e=>r (Ko.mpr (_,Lu e,rfl))),show ps.take i++[(ps[i].1,ps[i].2.1,ps[i].2.2)]=ps.take (i+1) by rw[K3,Kk a];rfl]at q;show js (Qu fR _,?_);rw[show((i:Int)+1)=((i+1:Nat):Int) by rw[Me];rfl];let fr:=W.frame (i+1) h' h2 st λb H o e=>(L.2 b (λz=>by rw[z]at H;simp at H;show H.elim f y)).trans e;show P (i+1) h2 _ (!0) a k2 fr.1 fr.2 q
def xk(hx:s.heap.get? l=some o)(hc:o.cls=.type "list")(f:o.data=.seq its c)(hd:o.dict=none)(hA:A.handled=none)(G:A.units+20<KI)(hz:its.size=ps.length)(hsz:ps.length<1000000)(nd:(ps.map (·.1)).Nodup)
  (hF:∀h',(∀b o,s.heap.get? b=some o->h'.get? b=some o)->∀i (h:i<its.size) (h2:i<ps.length),FQ prog w h' its[i] ps[i])
  (hQ:∀d h' tk,(∀b o,s.heap.get? b=some o->h'.get? b=some o)->s.heap.objs.size<=d->fZ prog w h' d ps->Q (.ref d) { s with heap:=h',toks:=tk }) :
  j4 (kq prog w) A (call (.type "dict") [.ref l]) Q E s:=by
 show callType_codes (Q₁:=λobj j=>obj=.ref (~~~s)/\j={ s with heap:=s.heap.push { cls:=.type "dict",data:=.dict #[] } }) F.kt_called_dict (F.kt_typeCall_dict_1 _) F.entry_dict_init (kt_code_dict_new _ ⟨rfl,rfl⟩) ?_;rintro obj j ⟨rfl,rfl⟩;let m:(s.heap.push { cls:=.type "dict",data:=.dict #[] }).get? (~~~s)=OV { cls:=.type "dict",data:=.dict #[] }:=KF _ rfl;let hT:({ s with heap:=s.heap.push { cls:=.type "dict",data:=.dict #[] } }:az).TypeIs (.ref (~~~s)) "dict" := ⟨_,m,rfl⟩
 let v:∀b ob,s.heap.get? b=OV ob->(s.heap.push { cls:=.type "dict",data:=.dict #[] }).get? b=OV ob:=λb ob e=>Kq _ e;show⟨hT,F.args_dict_init_2 _ _,?_⟩;unfold Builtin.«dict.__init__»;show jj ?_;unfold Builtin.Dict.selfAndRest;show jj (QR hT ?_);show j4 _ _ (pure (Pm (~~~s) [cu l])) _ _ _;show js ?_;show j4 _ _ (u1 "dict.__init__" (~~~s) (.ref l) [] .none) _ _ _;unfold u1;show jj (Zc (T := "list") ⟨_,v _ _ hx,hc⟩ ?_);rw[N6 (!2)];show jj (xo (v _ _ hx) hc f hd ?hA λh1 B x=>?_)
 case hA=>show hA
 rw[N6 (by rfl)];show jj (Qa ?_);let p:h1.get? l=OV o:=x _ _ (v _ _ hx);let q:=x _ _ m;let y:∀b ob,h1.get? b=OV ob->(h1.push { cls:=.type "list_iterator",data:=.fields #[.ref l,.int 0 0] }).get? b=OV ob:=λb ob e=>Kq _ e;show jj (QL (items:=its) ⟨o,p,hc,c,f⟩ ?_);show js ⟨Qu fR _,?_⟩;let n:(~~~s)<h1.objs.size:=KB q;let t:=KB hx;let g:∀{a:Nat},(~~~s)<=a->s.heap.get? a=OW:=λh=>M8 h;let z:A.in1.units+8<KI:=by show A.units+1+8<KI;lia
 let C:l≠h1.objs.size:=KO (tO t n);let D:(~~~s)≠l:=Ne.symm (KO t);show xQ (s:=s) (A:=A.in1) (d:=(~~~s)) (h0:=s.heap) (I:=h1.objs.size) (l:=l) (its:=its) (R:=wants (λr u=>r=du/\Q (cu (~~~s)) u) E) hA z C D (KO n) (g (Kz _)) (g (LP n)) hz hsz nd hF (λh' tk k dl=>⟨rfl,hQ _ h' tk k (Kz _) dl⟩) (-ps) 0 _ _ rfl (KG _) (λb ob e=>y _ _ (x _ _ (v _ _ e))) ⟨_,KF _ rfl,rfl,rfl⟩ ⟨o,y _ _ p,hc,c,f⟩ ⟨_,_,_,y _ _ q,⟨rfl,rfl,rfl⟩,rfl,!1,!1,!1,!1⟩
end
section
variable{X:Cx}{K:bg}{pins:Oq}{σ:St}{H:Hp}{s:az}
def PrV(K:bg)(H:Hp)(v:V)(e:ar×ac×V):Prop:=∃t,v=.ref t/\SqT K H t [.ref e.2.1,e.2.2]/\DV K H (.ref e.2.1) (aN e.1)
def Ab(I:Inv X pins σ H s){vs:OU}{es:Oo}{its:ON}(h:Paired (PrV X.K H) vs es):aS vs its ->
  ∃ps:On,Paired (λ(p:ar×ac×V) (q:ar×ac×ao)=>p.1=q.1/\p.2.1=q.2.1/\bE p.2.2 q.2.2) es ps/\Paired (λu p=>∀h':bb,(∀b o,s.heap.get? b=OV o->h'.get? b=OV o)->FQ X.prog X.w h' u p) its ps/\ps.map (·.1)=es.map (·.1):=by
 induction h generalizing its with
 |nil=>exactλh=>by cases h;show([],.nil,.nil,rfl)
 |@cons v e _ _ r t ih =>
  intro q
  cbv;let(c,us,rfl,c,d):=aS.consI q;let(ps,f,p2,p3):=ih d;let(a,rfl,st,g):=r;cases (show _=cu a from c);let(its,rv,it,_):=I.tuple st;let(h,i,rfl,j,l):=tH rv;let(o,ho,hc,n,hd):=it
  w_up;cases (show h=cu e.2.1 from j);show((e.1,e.2.1,i)::ps,.cons (rfl,rfl,l) f,.cons (λh' k=>?_) p2,by simp[p3])
  cbv;let(b,m,_,z):=fe (I.kept (t':=s.toks) k) g (u:=.ref e.2.1) rfl;cases m
  w_up;show(a,o,n,rfl,k _ _ ho,hc,hd,z)
def ul(hK:X.K=K)(hc:X.calm=OX)(l:X.A.units+20<KI):fM X (.type "dict") (λxs H Q=>∃(p:ac) (vs:OU) (es:Oo),xs=[.ref p]/\SqL K H p vs/\Paired (PrV K H) vs es/\es.length<1000000/\(es.map (·.1)).Nodup /\
  ∀q,H q=OW->Q (.ref q) (upd H q (.ext (bf q es)))):=by
 subst hK;intro pins s σ H xs us Q I r h;let(p,vs,es,rfl,sl,m,hsz,nd,q):=h;let(u,rfl,n):=iQ r;cases (show u=cu p from n)
 cbv;let(its,rv,t,_):=I.list sl;let(ps,j,p2,p3):=Ab I m rv;let(o,c,h1,h2,h4,h3):=t
 w_up;let l1:=Paired.length j;let l2:=Paired.length p2;show xk (its:=its.toArray) (ps:=ps) h1 h2 h3 h4 (I.ok.hd hc) l (by simpa using l2) (!0) (by rw[p3];show nd) (λh' k i a b=>?_) λd h' tk k hd dl=>?_;let:=Paired.at p2 i (by simpa using a) b h' k;simpa using this;let(o',ds,ep,e1,e2,e3,e4,_,v,w):=dl;let x:=I.big';let new:bf d es h':=(by rw[zg];lia,beq_eq_false_iff_ne.mpr (Ne.symm (KO (Ku x hd))),ps,j,o',ds,ep,e1,e2,e3,e4,v,w)
 show(.ref d,_,I.laid (t':=tk) (o:=.ext (bf d es)) k hd (new,(_,e1),λg1 g2 hx y=>?_),rfl,q _ (I.hok.fresh hd));let(a1,a2,e,z,f,ds',g,B,C):=hx;show(a1,a2,e,z,f,ds',g,y _ B,C)
def Ac(kvs:Ou){us:OU}(h:DNs K N H us (kvs.map λp=>.tuple [aN p.1,p.2])) :
  ∃es:Oo,Paired (PrV K H) us es/\DNs K N H (es.map λp=>V.ref p.2.1) (kvs.map λp=>aN p.1)/\DNs K N H (es.map λp=>p.2.2) (kvs.map λp=>p.2)/\es.map (λp=>p.1)=kvs.map (λp=>p.1):=by
 induction kvs generalizing us with
 |nil=>cases h;show([],.nil,.nil,.nil,rfl)
 |cons k kvs i =>
  cases h with
  |cons h q =>
   let(es,a,p2,p3,p4):=i q;let(t,xs,rfl,st,dx):=h.tuple;cases dx with|cons d1 dx=>cases dx with|cons d2 dx=>cases dx with|nil =>
   let(b,_,rfl,_,_):=d1.tuple;show((k.1,b,_)::es,.cons (t,rfl,st.sq,d1.dv) a,.cons d1 p2,.cons d2 p3,by simp[p4])
def wY(t:DA):DE:=λenv R=>t env λss a=>∃s kvs,ss=[s]/\aV a s=OV (.list (kvs.map λp:ar×ab=>.tuple [aN p.1,p.2]))/\kvs.length<1000000/\(kvs.map λp=>p.1).Nodup/\R (.fr (br kvs)) a
variable{e:ba}{p pos:Pos}{tl:DA}
def Bx(hK:X.K=K)(hc:X.calm=true)(r:X.A.units+80<KI)(hg:Gl X "dict")(j:X.mg "dict" = none)(k:PA X [e] (upA K tl))(l:j0 [e] X.env=[(false,eval e X.env)]:=by rfl):PE X (.Call (.Name "dict" p) [e] [] pos) (up K (wY tl)) :=
 (jM (ul (K:=K) hK hc (!0)) hg j PyProof.Rows.boot_dict k (!2) (!2) l rfl).imp λσ H Q h=>by
 let(M,P,H0,σ0,env,ts,R,g,ht,m):=h;show(M,P,H0,σ0,env,ts,_,g,ht,λss f vs H1 h1 n c=>?_)
 cbv;let(s,kvs,rfl,e1,hz,nd,hR):=h1;let(v,rfl):=kB n;let(a,us,rfl,sq,q):=(c.view (v:=v) (!1) e1).list;let(es,o,p2,p3,p4):=Ac kvs q
 w_up;show(a,us,es,rfl,sq,o,by let:=congrArg eH p4;simp at this;lia,by rw[p4];show nd,λd hd=>m _ _ _ _ hR ?_);let i:∀{vs:OU}{ds:OM},DNs K (Nw M (aK σ f (ts++[(V.ref a,s)]))) H1 vs ds->DNs K (Nw M (aK σ f ts)) (upd H1 d (.ext (bf d es))) vs ds:=λz=>(z.to λb Y Y z=>by rw[aG];show f6 z).keep (bd.same (bh.new hd));show(c.drop.same (bh.new hd)).addFr (.dct (c.drop.newAddr hd) aC (i p2) (i p3) p4)
theorem Am:∀a b:OD,HT.lexLt a b=OY->HT.lexLt b a=OY->a=b
 |[],[],_,_=>rfl
 |[],y::b,h,_=>by rw[HT.lexLt_nil_cons]at h;cases h
 |x::a,[],_,h=>by rw[HT.lexLt_nil_cons]at h;cases h
 |x :: a,y::b,h1,h2=>by
  rw[HT.lexLt_cons]at h1 h2;by_cases e:x=y;subst e;rw[N6 rfl]at h1 h2;rw[Am a b h1 h2];rw[N7 e]at h1;rw[N7 (Ne.symm e)]at h2;simp at h1 h2;lia
def yS(a b:ar)(h1:iw a b=OY)(h2:iw b a=OY):a=b:=by rw[jf]at h1 h2;by_cases e:a.1=b.1;rw[N6 e]at h1;rw[N6 e.symm]at h2;show Prod.ext e (Am _ _ h1 h2);rw[N7 e]at h1;rw[N7 (Ne.symm e)]at h2;simp at h1 h2;lia
def Di.eq(h:Di ks)(h':Di c)(p:ks.Perm c):ks=c:=by
 let d:∀{l:OQ},Di l->l.Pairwise λa b=>iw b a=OY:=λ{l} z=>List.pairwise_iff_getElem.mpr λi j hi hj e=>by
  let:=z i j (!0) hj;simpa[hi,hj] using this
 show p.eq_of_pairwise (λa b Y Y h1 h2=>yS a b h2 h1) (d h) (d h')
end
section
variable{X:Cx}{K:bg}{a b e:ba}{ta tb te:DE}{pos p:Pos}
def qx(c:PE X a (up K ta))(d:PE X b (up K tb))(hK:X.K=K:=by rfl)(hs:fK b:=by exactλY Y=>rfl):PE X (.Subscript a b pos) (up K (dOp gIx ta tb)):=yj (iM hK) mIx c d hs
def qxK(c:PE X a (up K ta))(d:PE X b (up K tb))(hK:X.K=K:=by rfl)(e:X.A.units+2<KI:=by exact hu2 (by assumption))(hs:fK b:=by exactλY Y=>rfl):PE X (.Subscript a b pos) (up K (dOp Gb ta tb)):=yj (J2 hK e) JT c d hs
def km(b:X.mg "len" = none)(h:PE X e (up K te))(hK:X.K=K:=by rfl)(hg:Gl X "len" := by rfl)(a:j0 [e] X.env=(false,eval e X.env)::j0 [] X.env:=by rfl):PE X (.Call (.Name "len" p) [e] [] pos) (up K (dCB Fl (w4 te FG))):=rG (J1 hK) JR hg b m4 (aa h ad a) (!2) (!2) a
end
end _L
namespace _W
open PySem _L
local macro_rules | `(tactic| walk_at "d2") => do
 let l <- (("FH,AF,wY,CP,CT,CS,HM,C0,CV,wV,nG,CW,HL,wZ,C2,C7,CQ,qu,Cw,Hz,qi,HK,Gc,C3,C1,Cv,HQ,HP,C5,C4,CU,Hy,qh,Gb,Hx,mo,sR,wU,zt,zU,qL,Dl,CO,wW,FC,AD,HR,kY,zo,dFz,ox,zq,FE,wX,CY,Gm,C6,wT,Gn,dOp,FF,zx,dUn,Gf,zv,dC,qr,HS,dOr,Gj,dIf,Dp,Gk,w4,FG,w9,oz,sT,dCB,dIs,sP,Gg,zu,mq,qt,wS,Go,Gh,sQ,zr,zw,qw,sS,AB,sqD,gI,gIC,gB,gBB,gEq,gNe,Gd,zf,gIn,wF,gIx,Ge,Fl,Hw,Ga,Hu,Cu,Hv,Iu,Gi,CZ,C8,Sl.tr.injEq,HN,F0,ko,jr,slF,noL,pU,nA,qU,rA,nJ,qO,qM,qN,qK,kD,jq,nL,nK,nI,jU,iL,zX,zV,zW,zT,zS,zQ,zR,zP,qW,qV,qT,rC,rB,rz,vd,vc,kC,nY,nW,nX,nV,sK,sL,c8,rh,rm,vM,vN,vO,vL,iT,oF,oE,tm,sZ,s9,sY,kG,jz,mO,mQ,qP,mP,kE,nQ,sx,nU,nR,kT,sy,fV,gx,mh,AN,xt,AM,AL,AK,AJ,AI,AH,sJ,Av,Ax,u4,q9,rd,List.map_cons,List.map_nil,List.length_cons,List.length_nil,List.cons_append,List.nil_append,List.append_nil,List.replicate_succ,List.replicate_zero,List.set_cons_succ,List.set_cons_zero,List.getElem?_cons_zero,List.getElem?_cons_succ,List.getElem?_nil,List.take_succ_cons,List.take_zero,List.take_nil,List.drop_succ_cons,List.drop_zero,List.drop_nil,Option.some.injEq,Option.bind_some,Option.bind_none,Option.map_some,Option.map_none,Sl.fr.injEq,Sl.ow.injEq,Sl.io.injEq,Sl.vw.injEq,PyData.int.injEq,PyData.bool.injEq,PyData.list.injEq,PyData.tuple.injEq,PyData.str.injEq,List.cons.injEq,reduceCtorEq,and_true,true_and,and_false,false_and,and_assoc,exists_eq_left',exists_eq_left,exists_and_left,exists_eq',exists_eq,exists_false,exists_const,Nat.reduceSub,Nat.reduceAdd,Nat.reduceLT,Nat.zero_add,Nat.lt_add_left_iff_pos,decide_eq_true_eq,ite_true,ite_false,Bool.false_eq_true,if_true,if_false,Bool.not_eq_true',Bool.not_eq_true,decide_eq_false_iff_not,Int.zero_add,String.reduceBEq,Bool.true_and,Bool.and_true,Bool.or_false,Bool.false_or,Bool.or_true,Bool.true_or,Bool.and_false,Bool.false_and,Bool.not_true,Bool.not_false,id_eq,Sl.ctorIdx,Nat.succ_eq_add_one".splitOn ",").toArray.mapM λs => `(Lean.Parser.Tactic.simpLemma| $(Lean.mkIdent s.toName):ident))
 `(tactic|simp only[$l,*])
local macro_rules | `(tactic| walk_at "d1") => do
 let l <- (("AF,wY,CP,CT,CS,HM,C0,CV,wV,nG,CW,HL,wZ,C2,C7,CQ,qu,Cw,Hz,qi,HK,Gc,C3,C1,Cv,HQ,HP,C5,C4,CU,Hy,qh,Gb,Hx,mo,sR,wU,zt,zU,qL,Dl,CO,wW,FC,AD,HR,kY,zo,dFz,ox,zq,FE,wX,CY,Gm,C6,wT,Gn,dOp,FF,zx,dUn,Gf,zv,dC,qr,HS,dOr,Gj,dIf,Dp,Gk,w4,FG,w9,oz,sT,dCB,dIs,sP,Gg,zu,mq,qt,wS,Go,Gh,sQ,zr,zw,qw,sS,AB,sqD,gI,gIC,gB,gBB,gEq,gNe,Gd,zf,gIn,wF,gIx,Ge,Fl,Hw,Ga,Hu,Cu,Hv,Iu,Gi,CZ,C8,Sl.tr.injEq,HN,F0,ko,jr,slF,noL,pU,nA,qU,rA,nJ,qO,qM,qN,qK,kD,jq,nL,nK,nI,jU,iL,zX,zV,zW,zT,zS,zQ,zR,zP,qW,qV,qT,rC,rB,rz,vd,vc,kC,nY,nW,nX,nV,sK,sL,c8,rh,rm,vM,vN,vO,vL,iT,oF,oE,tm,sZ,s9,sY,kG,jz,mO,mQ,qP,mP,kE,nQ,sx,nU,nR,kT,sy,fV,gx,mh,AN,xt,AM,AL,AK,AJ,AI,AH,sJ,Av,Ax,u4,q9,rd,List.map_cons,List.map_nil,List.length_cons,List.length_nil,List.cons_append,List.nil_append,List.append_nil,List.replicate_succ,List.replicate_zero,List.set_cons_succ,List.set_cons_zero,List.getElem?_cons_zero,List.getElem?_cons_succ,List.getElem?_nil,List.take_succ_cons,List.take_zero,List.take_nil,List.drop_succ_cons,List.drop_zero,List.drop_nil,Option.some.injEq,Option.bind_some,Option.bind_none,Option.map_some,Option.map_none,Sl.fr.injEq,Sl.ow.injEq,Sl.io.injEq,Sl.vw.injEq,PyData.int.injEq,PyData.bool.injEq,PyData.list.injEq,PyData.tuple.injEq,PyData.str.injEq,List.cons.injEq,reduceCtorEq,and_true,true_and,and_false,false_and,and_assoc,exists_eq_left',exists_eq_left,exists_and_left,exists_eq',exists_eq,exists_false,exists_const,Nat.reduceSub,Nat.reduceAdd,Nat.reduceLT,Nat.zero_add,Nat.lt_add_left_iff_pos,decide_eq_true_eq,ite_true,ite_false,Bool.false_eq_true,if_true,if_false,Bool.not_eq_true',Bool.not_eq_true,decide_eq_false_iff_not,Int.zero_add,String.reduceBEq,Bool.true_and,Bool.and_true,Bool.or_false,Bool.false_or,Bool.or_true,Bool.true_or,Bool.and_false,Bool.false_and,Bool.not_true,Bool.not_false,id_eq,Sl.ctorIdx,Nat.succ_eq_add_one".splitOn ",").toArray.mapM λs => `(Lean.Parser.Tactic.simpLemma| $(Lean.mkIdent s.toName):ident))
 let h:=Lean.mkIdent `hW
 `(tactic|(refine'(?wf : Wk _ _) ?we ?wk ?wq; (case we => (intro $h:ident; simp only[$l,*]at $h:ident; exact $h)); (case wf => exactλ_ k q => k q); (case wk => (intro $h:ident; walk_at"wa"))))
local macro_rules | `(tactic| walk_at "wh") => do
 let h:=Lean.mkIdent `hW
 `(tactic|repeat (first |(with_reducible refine Exists.elim $h λ_ $h => ?_) |((with_reducible refine And.elim (λe $h => ?_) $h); try subst e)))
local macro_rules | `(tactic| walk_at "ev") => do
 let l <- ("HC,Fn,J9,Ka,HJ,Kb,HE,CC,Fs,Fo,Ft,Fu,Fq,HB,CF,Fp,HD,CB,CA,Fr,HI,HF,FA,CK,HG,HH,FB,Fz,Fy,CI,CH,CJ,wK,zj".splitOn ",").toArray.mapM λs => `(Lean.Parser.Tactic.tacticSeq|with_reducible apply $(Lean.mkIdent s.toName))
 `(tactic|((repeat' (first $[| $l]* |walk_at"wc")); done))
local macro_rules | `(tactic| walk_at "wc") => `(tactic| first | ((first | (with_reducible show _ = some (aN _)) | (with_reducible show _ = aN _) | (with_reducible show _ = List.map wD _) | (with_reducible show _ = br _)); assumption) | exact rfl | with_reducible assumption | with_reducible exact fV _ | exact of_decide_eq_true rfl | exact Cc rfl | ((first | (with_reducible show _ <= sizeLine) | (with_reducible show _ < sizeLine) | (with_reducible show _ = _) | (with_reducible show shp _)); assumption))
local macro_rules | `(tactic| walk_at "wa") => do
 let h:=Lean.mkIdent `hW
 let l <- ("DC,Dx,Dy,Dz,DB,DH,A3,DF,AX,xP,JG,Gu,Gv".splitOn ",").toArray.mapM λs => `(Lean.Parser.Tactic.tacticSeq|(with_reducible apply $(Lean.mkIdent s.toName)); focus walk_at"ev")
 let m <- ("ws_seq,wg_name,wk_K,w_pop,w_popL,wx_set,wx_ret,wx_drop".splitOn ",").toArray.mapM λs => `(Lean.Parser.Tactic.tacticSeq|with_reducible apply $(Lean.mkIdent s.toName))
 `(tactic|(walk_at"wh"; repeat' (first |exact $h $[| $l]* $[| $m]* |walk_at"wc" |((with_reducible show Ev _ _ _); walk_at"ev") |apply Exists.intro |refine And.intro rfl ?_ |(refine And.intro ?_ ?_; focus walk_at"wc") |refine And.intro (_, rfl) ?_ |refine And.intro (_, _, rfl) ?_ |(intro x; replace $h:ident := $h x; walk_at"wh") |(refine uC rfl (fun $h => ?_) (fun $h => ?_) $h <;> walk_at"wh") |(refine AZ (fun $h => ?_) (fun $h => ?_) $h <;> walk_at"wh") |(refine A0 (fun $h => ?_) (fun $h => ?_) $h <;> walk_at"wh"))))
local macro_rules | `(tactic| walk_at "dN") => do
 let l <- ("hN,hM,hL".splitOn ",").toArray.mapM λs => let x := Lean.mkIdent s.toName; `(Lean.Parser.Tactic.tacticSeq|with_reducible (first |refine($x _).nx _ ?_ |refine($x _).ct _ ?_ |refine($x _).bk _ ?_ |refine($x _).rt _ _ ?_))
 `(tactic|((first $[| $l]*); try walk_at"d2"))
local macro_rules | `(tactic| walk_at "dd") => `(tactic| ((first | (walk_at "d1"; try walk_at "d2") | (simp only[Int.zero_add]; walk_at "d1"; try walk_at "d2") | (walk_at "d2")); try walk_at "dN"))
local macro_rules | `(tactic| walk_at "dx") => `(tactic| (first | ((with_reducible refine nx ?_); try walk_at "dd") | walk_at "dd"); repeat ((with_reducible refine nx ?_); try walk_at "dd"))
noncomputable def top(i:Nat):Stmt:=PySem.Challenge.pw_windround_k28_prices_looked_at.main.body.getD i (.Pass (0,0,0,0))
section
variable{P:k5}{w:q3}{K:bg}{mg:bc->OB}{base:bb}
abbrev ie:Stmt:=top 34
def pA:aA ["_law_draws_here"] ["_law_draws_here"] (ae ie):={}
def tU(ds:OD):Int:=ds.getLastD 0
inductive tM:DSp
 |mk {ss R} (ds:OD):ss=[.io (li ds)]->R (.fr (.int (tU ds))) [.io (li ds.dropLast)]->tM ss R
def Aw(a b:OD):eu (.list (li a)) (.list (li b))=decide (a=b):=Fw a b
def Ce(h:ds≠[]):(li ds).getLast? = OV (.int (tU ds)):=by
 unfold tU;rw[List.getLast?_map,ME];cases e:ds.getLast? with
 |none=>show absurd (List.getLast?_eq_none_iff.mp e) h
 |some x=>rfl
def CN(ds:OD):(li ds).dropLast=li ds.dropLast:=by simp[List.map_dropLast]
def pR(F:Fun K "_law_pop" "_law_pop" ie f fd)(B:Bn mg):cg P w K mg base CX0 1 f fd ["_law_draws_here"] (spD K tM):=by
 show okD (k:=0) F pA (λss R h=>?_) (!2) (λcdv A outer s H E a=>(_,(ce (eV (aB (F9 (K:=K) rfl a.units) mEq (qv 0) (bD ad)) (ak (aR aj)) aT)
   (ak (aR (tR 0 (K:=K) rfl rfl)))),λss R h=>?_))
 let(ds,rfl,_):=h;rfl;let(ds,rfl,q):=h;walk_at"dd";show(KG _,(Sh.ints 0 ds).shp (!2),(Sh.ints 0 []).shp (!2),?_);rw[show dt []=dt (li []) from rfl,Aw];by_cases e:ds=[]
 subst e;rw[N6 (!1)];show q;rw[N7 (by simp[e])];show(_,Ce e,by rw[CN];show q)
def FI(ns:OD)(a b:Oy):oT (li ns) a b=li ((ns.drop (HT.sIx (-ns) 0 a)).take (HT.sIx (-ns) (-ns) b-HT.sIx (-ns) 0 a)):=by unfold oT;show(List.drop _ (eC db ns)).take _=eC db _;rw[Ki,MM,NT]
def zy(ns:OD)(c:Nat):oT (li ns) (OV (c:Int)) OW=li (ns.drop c):=by rw[FI,HT.sIx_none,HT.sIx_nat];by_cases h:c<=-ns;rw[L2 h,Lg (!1)];rw[pu (!0),Lv (Kz _),Lv (!0)];simp
def dq{l:Ol}(h:k< -l):l.getD k []∈l:=by rw[Kn,Kk h];show KL h
abbrev ig:Stmt:=top 32
def jB:aA ["_law_cell","_law_turn","_law_number"] ["_law_cell","_law_turn"] (ae ig):={}
inductive Bd:DSp
 |mk {ss R} (c t:Int):ss=[.fr (.int c),.fr (.int t)]->0<=t->t<100000->(∀x:Int,0<=x->x<2147483648->R (.fr (.int x)) [.un,.un])->Bd ss R
def pS(F:Fun K "_law_mix" "_law_mix" ig f fd)(B:Bn mg):cg P w K mg base CX0 1 f fd ["_law_cell","_law_turn"] (spD K Bd):=by
 show okD (k:=0) F jB (λss R h=>?_) (!2) (λcdv A outer s H E a=>(_,(ce (ax 2 jB.nd (aY aP mIC (aY cT mIC (aY bq mI (aY bq mI (aY aP mIC (qv 0) aj) (aY cT mIC (aY cT mIC (qv 1) (qv 1)) aj)) aj) aj) aj))
   (ak (aR (aY aP mIC (aY bq mI (aY cT mIC (qv 2) (qv 2)) (aY cT mIC aj (qv 1))) aj)))),λss R h=>?_))
 let(c,t,rfl,_):=h;rfl;let(c,t,rfl,h0,h1,q):=h;lk;let a1:=LB ((c % 2147483647+t*t*7919+104729)*48271) (show(2147483647:Int)≠0 by decide);let a2:=Lj ((c % 2147483647+t*t*7919+104729)*48271) (show(0:Int)<2147483647 by decide);show(!2,ff (!0) (!0),sW (!2) (!2),sW (!2) (!2),!2,?_);let b1:=LB ((c % 2147483647+t*t*7919+104729)*48271 % 2147483647*((c % 2147483647+t*t*7919+104729)*48271 % 2147483647)+69621*t) (show(2147483629:Int)≠0 by decide);let b:=Lj ((c % 2147483647+t*t*7919+104729)*48271 % 2147483647*((c % 2147483647+t*t*7919+104729)*48271 % 2147483647)+69621*t) (show(0:Int)<2147483629 by decide);show(ff (!0) (!0),ff (!2) (!2),!2,q _ b1 (!0))
abbrev dH:Stmt:=top 33
def bi:aA ["_law_script","_law_turn","_law_many","_law_cells","_law_found","_law_k","_law_at","_law_number","_law_cell"] ["_law_script","_law_turn","_law_many"] (ae dH):={}
def Ds(l:OD):Prop:=∀x∈l,0<=x/\x<2147483648
def Ds.app(h:Ds l)(h0:0<=x)(h1:x<2147483648):Ds (l++[x]):=λy a=>by
 rcases Km.mp a with a|a;show h y a;rw[Kj.mp a];show(h0,h1)
def Ds.drop(h:Ds l):Ds l.dropLast:=λx hx=>h x (nB hx)
def Ds.pop(h:Ds l):0<=tU l/\tU l<2147483648:=by
 unfold tU;rw[ME];cases e:l.getLast? with
 |none=>show(L6 0,!2)
 |some x=>show h x (List.mem_of_getLast? e)
inductive pf:DSp
 |mk {ss R} (ns:OD) (t m:Nat):ss=[.fr (.list (li ns)),.fr (.int t),.fr (.int m)]->ns.length<=63->t<=5000->m<=5000->(∀l,Ds l->l.length=m->R (.ow (li l)) [.un,.un,.un])->pf ss R
def HU(ns:OD)(h:-ns<=63):oT (li ns) OW (OV 63)=li ns:=by unfold oT;let e:HT.sIx (li ns).length (li ns).length (OV 63)=min 63 (li ns).length:=HT.sIx_nat _ _ 63;rw[e,HT.sIx_none,Ki,NL,Nat.sub_zero,pu h];show Lg (!1)
inductive JA (ns:OD) (t m:Int) (n i:Nat):OL->Prop
 |mk (fs ls:OD) (kv av:Sl):ls.length=n->fs.length=i->Ds fs->JA ns t m n i [.fr (.list (li ns)),.fr (.int t),.fr (.int m),.ow (li ls),.ow (li fs),kv,av,.un,.un]
inductive Jz (ns cs:OD) (t m:Int) (i:Nat):OL->Prop
 |mk (n:Int) (kv cv:Sl):0<=n->n<2147483648->Jz ns cs t m i [.fr (.list (li ns)),.fr (.int t),.fr (.int m),.fr (.list (li cs)),.un,kv,.un,.fr (.int n),cv]
def lT(F:Fun K "_law_draws" "_law_draws" dH f fd)(B:Bn mg)(a:Cal P w K mg base "_law_mix" 1 (spD K Bd)):cg P w K mg base CX0 2 f fd ["_law_script","_law_turn","_law_many"] (spD K pf):=by
 show okD (k:=1) F bi (λss R h=>?_) (!2) (λcdv A outer s H E C=>(_,(af (ax 3 bi.nd (gd (cw (K:=K) rfl) sd (ku (K:=K) rfl (qv 0) dU (dS aj)) (bD (aa (qf 1) ad))))
   (af (eV (aB fg nC (aY aP mIC (aY cG mIC (qx (qv 3) aj) aj) aj) aj) (af (ax 4 bi.nd (bD ad))
   (af (cS PassesOwn.never rfl (dW rfl B.range (aa (aY bq mI (aY cG mIC (qv 1) aj) (qv 2)) ad)) (al 5 bi.nd) (af (ax 6 bi.nd (aY aP mIC (qv 5) (km B.len (qv 3))))
   (af (cL (iR 4 (K:=K) rfl rfl (aY aP mIC (qx (qv 3) (qv 6)) aj)))
   (ak (vp 3 rfl (qv 6) (aY cG mIC (qx (qv 3) (qv 6)) aj))))))
   (ak (aR (ku (K:=K) rfl (qv 4) (dS (aY cG mIC (qv 1) aj)) dU))))) aT)
   (af (ax 7 bi.nd (qf 1))
   (af (cS PassesOwn.never rfl (jH OY (K:=K) rfl rfl B.enumerate (aa (qf 3) ad)) (dJ (K:=K) (n:=2) rfl rfl (aI (al 5 bi.nd) (aI (al 8 bi.nd) cp))) (ak (ax 7 bi.nd (aY aP mIC (aY bq mI (aY cT mIC (qv 7) aj) (aH a (aa (qf 8) (aa (aY bq mI (qv 5) (qv 1)) ad)))) aj))))
   (ak (aR (bZ (NN:=_::_) (sc0:=ae dH) (N':=["_law_k","_law_turn","_law_cells","_law_number"]) (ix:=[OW,OV 1,OV 3,OV 7]) (dW rfl B.range (aa (qv 2) ad)) (λY Y Y Y=>(al 0 (!4))) (λY Y Y Y=>(aH a (aa (qx (qv 2) (aY aP mIC (qv 0) (km B.len (qv 2)))) (aa (aY bq mI (aY bq mI (aY aP mIC (qv 3) aj) (qv 0)) (qv 1)) ad))))))))))),λss R h=>?_))
 let(ns,t,m,rfl,_):=h;rfl;let(ns,t,m,rfl,j,ht,D,q):=h;lk;rw[HU ns j];let u:li ns++[db (t:Int)]=li (ns++[(t:Int)]):=!1
 rw[u];obtain⟨cs,c⟩:∃cs:OD,cs=ns++[(t:Int)]:=(_,rfl)
 let p:-cs=-ns+1:=by rw[c];simp
 rw[<-c];show(Kr (!2) ai,?_,?_);rw[Ki];show Kr (!0) ai;lk;show(_,dO (k:=0) (!0),?_);lk;show((!2,!2),!2,cC (λY=>?_) (λY=>?_))
 .let e4:(t:Int) / 4=((t / 4:Nat):Int):=rfl;show(KG _,?_);lk;show((!2,!2),!0,!0,dz (JA ns t m (-cs)) (.mk [] cs _ _ rfl rfl (λx hx=>by cases hx)) (λE hN=>?_) ?_)
  .rintro i env hi ⟨fs,ls,kv,av,g,e,hd⟩;rw[aD]at hi;rw[bG];let b:i % (-ls)< -ls:=Nm _ (!0);lk;rw[Ki];let v:((i:Nat):Int) % ((-ls:Nat):Int)=((i % (-ls):Nat):Int):=rfl;rw[v];show(!0,?_);lk;show(_,dO b,?_);lk;show(!2,by rw[Ki,e];show Ku (!0) ai,?_);lk;show(_,dO b,?_);lk;let b1:=LB (ls.getD (i % (-ls)) 0) (show(1000003:Int)≠0 by decide);let r:=Lj (ls.getD (i % (-ls)) 0) (show(0:Int)<1000003 by decide);show((!2,!2),_,wu (by rw[Ki];show b),(hN _).nx _ ?_);rw[fG,EU];show .mk _ _ _ _ (by rw[A2];show g) (by simp[e]) (hd.app b1 (!0))
  .rintro env ⟨fs,ls,kv,av,g,e,hd⟩;lk;rw[e4,zy];show((!2,!2),q _ (λx hx=>hd x (LY hx)) (by rw[aD]at e;rw[vr,e];lia))
 .lk;show dz (Jz ns cs t m) (.mk t _ _ (!0) (!0)) (λE hN=>?_) ?_
  .rintro i env hi ⟨n,kv,cv,y,z⟩;rw[eB,dL];rw[bA,Ki]at hi;lk;show(ff (by omega +splitDisjunctions) (by omega +splitDisjunctions),_,_,rfl,by omega +splitDisjunctions,by omega +splitDisjunctions,λx x0 x1=>?_);lk;let b1:=LB (n*31+x) (show(2147483629:Int)≠0 by decide);let r:=Lj (n*31+x) (show(0:Int)<2147483629 by decide);show(!2,(hN _).nx _ (.mk _ _ _ b1 (!0)))
  .rintro env ⟨n,kv,cv,y,z⟩;lk;show(by omega +splitDisjunctions,by omega +splitDisjunctions,sX (λd=>∃x:Int,d=.int x/\0<=x/\x<2147483648) (by rw[aD];lia) (λi hi Q hQ=>?_) λrs hn o=>?_)
   .rw[aD]at hi;rw[bG];lk;rw[Ki];let b:i % (-cs)< -cs:=Nm _ (!0);rw[show((i:Nat):Int) % ((-cs:Nat):Int)=((i % (-cs):Nat):Int) from rfl];let b1:=LB n (show(1009:Int)≠0 by decide);let r:=Lj n (show(0:Int)<1009 by decide);show(!0,_,dO b,!2,_,_,rfl,!0,!0,λx x0 x1=>?_);lk;show hQ _ (x,rfl,x0,x1)
   .let(l,rfl,g):=jo o;lk;show q l g (by rw[aD,Ki]at hn;lia)
abbrev cF:Stmt:=top 35
def bw:aA ["_law_draws_here","_law_most","_law_number","_law_hands","_law_left","_law_spans","_law_k"] ["_law_draws_here","_law_most"] (ae cF):={}
def TB(s o:OD):Prop:=1<=-s/\s.length<=6/\1<=-o/\o.length<=6/\(∀x∈s,1<=x/\x<=12)/\(∀x∈o,0<=x/\x<=6)/\(-s<=4\/∀x∈o,x<=2)
noncomputable def jK:OD->Nat
 |[]=>1
 |x::s=>x.toNat*jK s
def tT(s:OD)(x:Int):jK (s++[x])=jK s*x.toNat:=by
 induction s with
 |nil=>show x.toNat*1=1*x.toNat;lia
 |cons y s a=>show y.toNat*jK (s++[x])=y.toNat*jK s*x.toNat;rw[a,LJ]
def yI(h:L*p<=q)(a:l<=L)(y:Nat)(e:L / y*y<=L):L / y*(p*y)<=q:=by rw[<-LJ,Nat.mul_right_comm];show Kr (LL _ e) h
inductive uQ:DSp
 |mk {ss R} (l:OD) (m:Nat):ss=[.io (li l),.fr (.int m)]->Ds l->6<=m->m<=100000->(∀s o l':OD,Ds l'->TB s o->o.length*jK s<=m->R (.fr (.tuple [.list (li s),.list (li o)])) [.io (li l'),.un])->uQ ss R
def zG(xs:List α)(v:α):atI (xs++[v]) (-1)=OV v:=by unfold atI ixN;rw[N7 (!2),N6 (by rw[KD];simp;lia)];show(xs++[v])[(-1+((xs++[v]).length:Int)).toNat]?=OV v;rw[show(-1+((xs++[v]).length:Int)).toNat=-xs by rw[KD];simp;lia];simp
inductive Dt (k:Int) (i:Nat):OM->OM->Prop
 |mk (hds l:OD):hds.length=i->Ds l->(∀x∈hds,0<=x/\x<=k)->Dt k i (li hds) (li l)
def Dt.add(a:-hds=i)(dl:Ds l)(b:∀x∈hds,0<=x/\x<=k)(hv:0<=v/\v<=k):Dt k (i+1) (li hds++[.int v]) (li l.dropLast):=by rw[fG];show .mk _ _ (by simp[a]) dl.drop λx hx=>(Km.mp hx).elim (b x) λh=>by rw[Kj.mp h];show hv
inductive Ja (l2:OD) (m num:Int):OL->Prop
 |mk (hs:OD):1<=hs.length->hs.length<=6->(∀x∈hs,0<=x/\x<=2)->Ja l2 m num [.io (li l2),.fr (.int m),.fr (.int num),.ow (li hs),.un,.un,.un]
inductive IZ (m num:Int):OL->Prop
 |mk (hs l3:OD):Ds l3->1<=hs.length->hs.length<=6->(∀x∈hs,0<=x/\x<=6)->(num / 27 % 3=1\/∀x∈hs,x<=2)->IZ m num [.io (li l3),.fr (.int m),.fr (.int num),.ow (li hs),.un,.un,.un]
inductive IY (hs:OD) (m:Nat) (num:Int) (i:Nat):OL->Prop
 |mk (l sp:OD) (left:Int) (kv:Sl):Ds l->sp.length=i->1<=left->hs.length*(left.toNat*jK sp)<=m->(∀x∈sp,1<=x/\x<=12)->IY hs m num i [.io (li l),.fr (.int m),.fr (.int num),.ow (li hs),.fr (.int left),.ow (li sp),kv]
def nr(F:Fun K "_law_town" "_law_town" cF f fd)(B:Bn mg)(a:Cal P w K mg base "_law_pop" 1 (spD K tM)):cg P w K mg base CX0 2 f fd ["_law_draws_here","_law_most"] (spD K uQ):=by
 show okD (k:=1) F bw (λss R h=>?_) (!2) (λcdv A outer s H E S=>(_,(af (ax 2 bw.nd (bN 0 a (aa (qv 0) ad)))
   (af (ii 3 1 0 rfl bw.nd (NN:=_::_) (sc0:=ae cF) (N':=["_law_k","_law_draws_here"]) (ix:=[OW,OV 0]) (dW rfl B.range (aa (aY bq mI aj (aY aP mIC (qv 2) aj)) ad)) (λ_ _ _ _=>(al 0 (!4))) (λ_ _ _ _=>(aY aP mIC (bN 0 a (aa (qv 1) ad)) aj)))
   (jF (eV (aB G9 mB (aY aP mIC (aY cG mIC (qv 2) aj) aj) aj) (ak (bR 3 bw.nd (NN:=_::_) (sc0:=ae cF) (N':=["_law_one"]) (ix:=[OW]) (aE (qf 3)) (λ_ _ _ _=>(al 0 (!4))) (λ_ _ _ _=>(aY bq mI aj (aY aP mIC (qv 0) aj))))) aT)
   (jF (eV (aB fg nC (aY aP mIC (aY cG mIC (qv 2) aj) aj) aj) (ak (ii 3 1 0 rfl bw.nd (NN:=_::_) (sc0:=ae cF) (N':=["_law_k","_law_draws_here"]) (ix:=[OW,OV 0]) (dW rfl B.range (aa (aY bq mI aj (aY aP mIC (aY cG mIC (qv 2) aj) aj)) ad)) (λ_ _ _ _=>(al 0 (!4))) (λ_ _ _ _=>(aY aP mIC (bN 0 a (aa (qv 1) ad)) aj)))) aT)
   (af (ax 4 bw.nd (aY cG mIC (qv 1) (km B.len (qv 3))))
   (af (ax 5 bw.nd (bD ad))
   (af (cS PassesOwn.never rfl (dW rfl B.range (aa (aY bq mI aj (aY aP mIC (bN 0 a (aa (qv 0) ad)) (qx (bD (aa aj (aa aj (aa aj ad)))) (aY aP mIC (aY cG mIC (qv 2) aj) aj)))) ad)) (al 6 bw.nd) (af (cL (iR 5 (K:=K) rfl rfl (aY bq mI aj (aY aP mIC (bN 0 a (aa (qv 0) ad)) (rG (j9 rfl) Hd rfl B.min ml (aa aj (aa (qv 4) ad)))))))
   (ak (ax 4 bw.nd (aY cG mIC (qv 4) (qx (qv 5) (z6 gE Ak aj)))))))
   (ak (aR (bV (aa (qf 5) (aa (qf 3) ad)))))))))))),λss R h=>?_))
 let(l,m,rfl,_):=h;rfl;let(l,m,rfl,dl,N,T,q):=h;lk;show(l,rfl,?_);lk;let p0:=dl.pop;let v:=dl.drop;generalize tU l=num at *;generalize l.dropLast=l1 at *;show(!2,!0,!0,Dt 2,_,_,rfl,rfl,.mk [] _ rfl v (!1),?_,?_)
 .rintro i rs l hi ⟨hds,l',b,g,o⟩;rw[aD]at hi;rw[bG];show(by rw[Ki,b];show Ku (!0) ai,_,rfl,?_);lk;show(l',rfl,?_);lk;show(!2,.add b g o (!0))
 rintro rs l ⟨hds,l2,b,u,o⟩;rw[aD]at b;show(_,rfl,?_);lk;show(Ja l2 m num,?_,?_)
 .lk;show((!2,!2),!2,cC (λ_=>?_) (λ_=>.mk hds (!0) (!0) o));show sX (λd=>∃x:Int,d=.int x/\0<=x/\x<=2) (by rw[Ki];lia) (λi hi Q hQ=>?_) λrs z C=>?_
  .rw[dL];lk;show(!2,hQ _ (_,rfl,!0,!0))
  .let(hs,rfl,j):=jo C;lk;rw[Ki,Ki]at z;show .mk hs (!0) (!0) j
 rintro env ⟨hs,h1,h6,j⟩;show(IZ m num,?_,?_)
 .lk;show((!2,!2),!2,cC (λM=>?_) (λ_=>.mk hs l2 u h1 h6 (λx hx=>by let:=j x hx;lia) (.inr λx hx=>(j x hx).2)));show((!2,!2),!2,!0,!0,Dt 6,_,_,rfl,rfl,.mk [] _ rfl u (!1),?_,?_)
  .rintro i rs l hi ⟨hds,l',b,g,o⟩;rw[aD]at hi;rw[bG];show(by rw[Ki,b];show Ku (!0) ai,_,rfl,?_);lk;show(l',rfl,?_);lk;show(!2,.add b g o (!0))
  rintro rs l ⟨D,l3,b,n,o⟩;rw[aD]at b;show(_,rfl,?_);lk;show .mk D l3 n (!0) (!0) o (.inl (!0))
 rintro env ⟨hs,l3,n,h1,h6,G,I⟩;lk;rw[Ki];obtain⟨c,O,U,V,M⟩:∃c:Int,atI [db 3,db 4,db 6] (num / 27 % 3)=OV (.int c)/\3<=c/\c<=6/\(num / 27 % 3=1->c=4):=by
  let:num / 27 % 3=0\/num / 27 % 3=1\/num / 27 % 3=2:=!0
  rcases this with e|e|e;rw[e];show(3,rfl,!2,!2,!2);rw[e];show(4,rfl,!2,!2,λ_=>rfl);rw[e];show(6,rfl,!2,!2,!2)
 let W:=n.pop;let J:=n.drop;show((by omega +splitDisjunctions,by omega +splitDisjunctions),?_);lk;show(KG _,?_);lk;show(l3,rfl,?_);lk;show(Kr (!2) ai,(!2,!2),!2,_,O,_,rfl,by omega +splitDisjunctions,?_);generalize tU l3=p3 at *;generalize l3.dropLast=l4 at *;let u0:=LB p3 (show c≠0 by lia);let X:=Lj p3 (show 0<c by lia);let m1:1<=(m:Int) / (-hs:Int):=by rw[M3 (!0)];lia
 let m2:-hs*(((m:Int) / (-hs:Int)).toNat*jK [])<=m:=by show -hs*(((m / -hs:Nat):Int).toNat*1)<=m;rw[K2,Nat.mul_one];show Nat.mul_div_le _ _
 show(!0,!0,dz (IY hs m num) (.mk l4 [] _ _ J rfl m1 m2 (!1)) (λE hN=>?_) ?_)
 .rintro i env hi ⟨l,sp,left,kv,dl,b,l1,r,t⟩;rw[aD]at hi;rw[bG];lk;show(l,rfl,?_);lk;let g:=dl.drop
  cbv;generalize tU l=p at *;generalize l.dropLast=l5 at *;obtain⟨w,hw⟩:∃w:Int,w=if left<12 then left else 12:=(_,rfl)
  w_up;rw[<-hw];let Z:1<=w/\w<=12/\w<=left:=by rw[hw];split <;> lia
  let y0:=LB p (show w≠0 by lia);let y1:=Lj p (show 0<w by lia);generalize p % w=y at *;show(!0,by rw[Ki,b];show Ku (!0) ai,?_);lk;show(_,zG _ _,_,rfl,(!0,!0),(hN _).nx _ ?_);rw[fG];show .mk l5 (sp++[1+y]) _ _ g (by simp[b]) ?_ ?_ λx hx=>?_;rw[M3 (!0)];lia;rw[tT];show Kr (Nf _ ?_) r;obtain⟨L,rfl⟩:∃L:Nat,left=(L:Int):=(left.toNat,!0)
  obtain⟨Y,hY⟩:∃Y:Nat,1+y=(Y:Int):=((1+y).toNat,!0)
  rw[hY,show((L:Int) / (Y:Int)).toNat=L / Y from rfl,K2,K2];show yI (l:=0) (Kz _) (KG _) Y (Nat.div_mul_le_self L Y);rcases Km.mp hx with hx|hx;show t x hx;rw[Kj.mp hx];lia
 .rintro env ⟨l,sp,left,kv,dl,b,l1,r,t⟩;rw[aD]at b;lk;show(Kr (!2) ai,q sp hs l dl (!0,!0,h1,h6,t,G,?_) (Kr (Nf _ (Nat.le_mul_of_pos_left _ (!0))) r));rcases I with h|h;let:=M h;show .inl (!0);show .inr h
noncomputable def dP:Nat->Ol
 | 0=>[[]]
 |k+1=>dP k++(dP k).map (·++[(k:Int)])
noncomputable def d5(l:OD)(n:Nat):OD:=((dm n).filter λi=>decide (l.getD i 0=1)).map (ro:Nat->Int)
noncomputable def cN(h:Int)(a r:OD):Bool:=decide ((-r:Int)<=h)&&decide ((a.filter λc=>decide (c ∉ r))=[])
def gq(n:Nat)(h:Int)(l:OD):Ol:=(dP n).filter (cN h (d5 l n))
def E9(r:OD):ab:=.tuple [.int (-r),.list (li r)]
theorem gF:∀n,(dP n).length=2 ^ n
 | 0=>rfl
 |n+1=>by
  show(dP n++(dP n).map _).length=_;rw[KD,Ki,gF n,Nat.pow_succ];lia
theorem bU:∀n,∀r∈dP n,-r<=n/\r.Pairwise (·<·)/\∀x∈r,0<=x/\x<n
 | 0,r,h=>by
  rw[Kj.mp h];simp
 |n + 1,r,h=>by
  rcases Km.mp h with h|h;let(a,b,c):=bU n r h;show(!0,b,λx hx=>by let:=c x hx;lia);let(d,h',rfl):=Ko.mp h;let(a,b,c):=bU n d h';show(by simp;lia,List.pairwise_append.mpr (b,!1,λx hx y e=>?_),λx hx=>?_);rw[Kj.mp e];let:=c x hx;lia;rcases Km.mp hx with hx|hx;let:=c x hx;lia;rw[Kj.mp hx];lia
theorem iP{α:Type}{p q:α->Bool}(h:∀x,p x=OX->q x=OX):∀l:List α,(l.filter p).length<=(l.filter q).length
 |[]=>Kz _
 |x :: l=>by
  let b:=iP h l;by_cases a:p x=OX;rw[Lq a,Lq (h x a)];simpa using b;rw[LR a];by_cases c:q x=OX;rw[Lq c];simp;lia;rw[LR c];show b
def iz(hn:n<=6)(d:n<=4\/h<=3):(gq n h l).length<64:=by
 rcases d with h4|h2;let a:=KZ (cN h (d5 l n)) (dP n);rw[gF]at a;let:2 ^ n<=2 ^ 4:=LZ (!2) h4;unfold gq;lia;let a:(gq n h l).length<=((dP n).filter λr=>decide (-r<=3)).length:=iP (λr c=>by
  unfold cN at c;rw[Ll,decide_eq_true_eq]at c;rw[decide_eq_true_eq];lia) _
 let:=(by decide +kernel:∀n<7,((dP n).filter λr=>decide (-r<=3)).length<=42) n (!0);lia
def aU{l:OD}(h:k< -l):l.getD k 0∈l:=by rw[Kn,Kk h];show KL h
def StB(s o:OD)(d:Nat)(l:OD):Prop:=d< -o/\l.length=-s
abbrev bX:Stmt:=top 37
def bI:aA ["_law_town_here","_law_standing_here","_law_found","_law_clocks","_law_due","_law_rows_here","_law_clock","_law_row"] ["_law_town_here","_law_standing_here"] (ae bX):={}
inductive Jh (s o l:OD) (d i:Nat):OL->Prop
 |mk (cv:Sl) (rs:OM):rs=lr (dP i)->Jh s o l d i [.fr (.tuple [.list (li s),.list (li o)]),.fr (.tuple [.int d,.tuple (li l)]),.ow [],.fr (.list (li (eC (ro:Nat->Int) (dm s.length)))),.fr (.list (li (d5 l s.length))),.ow rs,cv,.un]
inductive Jg (s o l:OD) (d:Nat) (cv:Sl) (i:Nat):OL->Prop
 |mk (rv:Sl) (fs:OM):fs=(((dP s.length).take i).filter (cN (o.getD d 0) (d5 l s.length))).map E9->Jg s o l d cv i [.fr (.tuple [.list (li s),.list (li o)]),.fr (.tuple [.int d,.tuple (li l)]),.ow fs,.fr (.list (li (eC (ro:Nat->Int) (dm s.length)))),.fr (.list (li (d5 l s.length))),.fr (.list (lr (dP s.length))),cv,rv]
inductive uR:DSp
 |mk {ss R} (s o l:OD) (d:Nat):ss=[.fr (.tuple [.list (li s),.list (li o)]),.fr (.tuple [.int d,.tuple (li l)])]->TB s o->StB s o d l->(∀rr:Ol,rr.Perm (gq s.length (o.getD d 0) l)->R (.ow (lr rr)) [.un,.un])->uR ss R
def nt(F:Fun K "_law_rows" "_law_rows" bX f fd)(B:Bn mg):cg P w K mg base CX0 1 f fd ["_law_town_here","_law_standing_here"] (spD K uR):=by
 show okD (k:=0) F bI (λss R h=>?_) (!2) (λcdv A outer s H E m=>(_,(af (ax 2 bI.nd (bD ad))
   (af (bR 3 bI.nd (NN:=_::_) (sc0:=ae bX) (N':=["_law_clock"]) (ix:=[OW]) (dW rfl B.range (aa (km B.len (qx (qv 0) aj)) ad)) (λZ Z Z Z=>(al 0 (!4))) (λZ Z Z Z=>(qf 0)))
   (af (bR 4 bI.nd (NN:=_::_) (sc0:=ae bX) (N':=["_law_clock","_law_standing_here"]) (ix:=[OW,OV 1]) (aE (qf 3)) (λZ Z Z Z=>(al 0 (!4))) (λZ Z Z Z=>(qf 0)) (ht:=(λZ Z Z Z=>(eU (aB fg nC (qx (qx (qv 1) aj) (qv 0)) aj)))))
   (vm 4 (af (ax 5 bI.nd (bD (aa (bD ad) ad)))
   (af (cS PassesOwn.never rfl (aE (qf 3)) (al 6 bI.nd) (ak (ax 5 bI.nd (gd (cw (K:=K) rfl) sd (qv 5) (bZ (NN:=_::_) (sc0:=ae bX) (N':=["_law_row","_law_clock"]) (ix:=[OW,OV 6]) (aE (qf 5)) (λZ Z Z Z=>(al 0 (!4))) (λZ Z Z Z=>(gd (cw (K:=K) rfl) sd (qv 0) (bD (aa (qf 1) ad)))))))))
   (af (cS PassesOwn.never rfl (aE (qf 5)) (al 7 bI.nd) (ak (eV (PW.pt (mY (aB G8 mB (km B.len (qv 7)) (qx (qx (qv 0) aj) (qx (qv 1) aj))) (jE (aB (F9 (K:=K) rfl m.units) mEq (bZ (NN:=_::_) (sc0:=ae bX) (N':=["_law_clock","_law_row"]) (ix:=[OW,OV 7]) (aE (qf 4)) (λZ Z Z Z=>(al 0 (!4))) (λZ Z Z Z=>(qf 0)) (ht:=(λZ Z Z Z=>(eU (aB (Fc (K:=K) rfl) EO (qv 0) (qv 1)))))) (bD ad))))) (ak (cL (iR 2 (K:=K) rfl rfl (bV (aa (km B.len (qv 7)) (aa (qf 7) ad)))))) aT)))
   (ak (aR (bZ (NN:=_::_) (sc0:=ae bX) (N':=["_law_many","_law_row"]) (ix:=[OW,OW]) (aE (z7 sr (K:=K) rfl (iG m) rfl B.sorted (aa (qv 2) ad))) (λZ Z Z Z=>(dJ (K:=K) (n:=2) rfl rfl (aI (al 0 (!4)) (aI (al 1 (!4)) cp)))) (λZ Z Z Z=>(qf 1)))))))))))),λss R h=>?_))
 let(s,o,l,d,rfl,_):=h;rfl
 cbv;let(s,o,l,d,rfl,tb,G,q):=h;let(t1,t2,N,O,S,T,z):=tb;let(s1,s2):=G
 w_up;lk;show(KG _,?_);lk;rw[Ki];show(!0,!0,b7 (λi=>.int (i:Int)) (by rw[aD];lia) (λi hi Q hQ=>?_) ?_)
 .rw[bG];lk;show hQ
 rw[aD,K2,jd];lk;show cy (λi=>decide (l.getD i 0=1)) (λi=>.int (i:Int)) (by simp;lia) (λi hi Q I h1 h2=>?_) ?_
 .rw[Ki,Ki,Lz]at hi;rw[dL];let v:(eC (ro:Nat->Int) (dm (-s))).getD i 0=(i:Int):=by simp[Kn,hi]
  rw[v];lk;show(_,dO (k:=i) (!0),?_);lk;show cC (λh=>h1 (by simpa using h)) (λh=>h2 (by simpa using h))
 lk;let J:eC (λ(i:Nat)=>db (i:Int)) (mN (λ(i:Nat)=>decide (l.getD i 0=1)) (dm (li (eC (ro:Nat->Int) (dm (-s)))).length))=li (d5 l (-s)):=by rw[Ki,Ki,Lz];unfold d5;show _=eC _ (eC _ _);rw[KQ];rfl
 rw[J];show(KG _,Kr (!2) ai,?_);lk;show dz (Jh s o l d) (.mk _ _ rfl) (λE hN=>?_) ?_
 .rintro i env hi ⟨cv,_,rfl⟩;rw[Ki,Ki,Lz]at hi;rw[dL];let v:(eC (ro:Nat->Int) (dm (-s))).getD i 0=(i:Int):=by simp[Kn,hi]
  rw[v];let hz:(dP i).length<=32:=by rw[gF];let:2 ^ i<=2 ^ 5:=LZ (!2) (!0);lia
  lk;show b7 (λj=>.list (li ((dP i).getD j []++[(i:Int)]))) (by rw[Ki];lia) (λj hj Q hQ=>?_) ?_
  .rw[Ki]at hj;rw[iK];let m:=(bU i _ (dq (l:=dP i) hj)).1;lk;show(Kr (!2) ai,by rw[Ki];show Kr (!0) ai,?_);rw[fG];show hQ
  .rw[Ki,aQ (dP i) [] (λr=>dt (li (r++[(i:Int)])))];let e:lr (dP i)++(dP i).map (λr=>dt (li (r++[(i:Int)])))=lr (dP (i+1)):=by
    show _=eC _ (dP i++_);rw[KC,KQ];rfl
   lk;show(?_,(hN _).nx _ (.mk _ _ e));rw[Ki,Ki];show Kr (!0) ai
 rintro env ⟨cv,_,rfl⟩;rw[Ki,Ki,Lz];lk;show dz (Jg s o l d cv) (.mk _ _ rfl) (λE hN=>?_) ?_
 .rintro i env hi ⟨rv,_,rfl⟩;rw[Ki]at hi;rw[iK];let p:=dq (l:=dP (-s)) hi
  cbv;let(U,V,W):=bU _ _ p;let C:((dP (-s)).take (i+1)).filter (cN (o.getD d 0) (d5 l (-s)))=((dP (-s)).take i).filter (cN (o.getD d 0) (d5 l (-s)))++(if cN (o.getD d 0) (d5 l (-s)) ((dP (-s)).getD i [])=OX then [(dP (-s)).getD i []] else []):=by
   let t:(dP (-s)).getD i []=(dP (-s))[i]:=by simp[Kn,hi]
   rw[K3,Kk hi,t,Lr];show _++mN _ [_]=_;generalize o.getD d 0=oh;cases hg:cN oh (d5 l (-s)) (dP (-s))[i] <;> simp[hg]
  let hz:(((dP (-s)).take i).filter (cN (o.getD d 0) (d5 l (-s)))).length<=64:=by show Kr (KZ _ _) ?_;rw[K8,gF];let:2 ^ (-s)<=2 ^ 6:=LZ (!2) t2;lia
  let a:∀g u,g=(((dP (-s)).take i).filter (cN (o.getD d 0) (d5 l (-s)))++(if cN (o.getD d 0) (d5 l (-s)) ((dP (-s)).getD i [])=OX then [(dP (-s)).getD i []] else [])).map E9->(E i).nx [.fr (.tuple [.list (li s),.list (li o)]),.fr (.tuple [.int d,.tuple (li l)]),.ow g,.fr (.list (li (eC (ro:Nat->Int) (dm (-s))))),.fr (.list (li (d5 l (-s)))),.fr (.list (lr (dP (-s)))),cv,u]:=λg u e=>(hN _).nx _ (.mk _ _ (by rw[C];show e));clear hN C;generalize ((dP (-s)).take i).filter (cN (o.getD d 0) (d5 l (-s)))=fs at *;generalize (dP (-s)).getD i []=r at *
  w_up;let L:(d5 l (-s)).length<=6:=by unfold d5;rw[Ki];show Kr (KZ _ _) ?_;rw[Lz];show t2
  lk;show(_,dO s1,?_);lk;rw[Ki];show cC (λb=>?_) (λb=>?_)
  rotate_left
  let t:cN (o.getD d 0) (d5 l (-s)) r=OY:=by unfold cN;rw[decide_eq_false b,NQ]
  rw[t,N7 (!2),K1]at a;show a _ _ rfl;show cy (λj=>decide ((d5 l (-s)).getD j 0 ∉ r)) (λj=>.int ((d5 l (-s)).getD j 0)) (by rw[Ki];lia) (λj hj Q I h1 h2=>?_) ?_
  .rw[dL];lk;generalize (d5 l (-s)).getD j 0=c at *;show cC (λh=>h1 (decide_eq_true h)) (λh=>h2 (decide_eq_false h))
  rw[Ki,bM (d5 l (-s)) 0 (λc=>decide (c ∉ r)) (λc=>db c)];lk;rw[show dt []=dt (li []) from rfl,Aw];show(KG _,(Sh.ints 0 _).shp (!2),(Sh.ints 0 []).shp (!2),?_);let t:cN (o.getD d 0) (d5 l (-s)) r=decide (((d5 l (-s)).filter λc=>decide (c ∉ r))=[]):=by unfold cN;rw[decide_eq_true b,NW]
  rw[t]at a;show cC (λp=>?_) (λp=>?_);rw[N6 p,KC]at a;show(Kr (!2) ai,by rw[Ki];show Ku (!0) ai,?_);show a _ _ (by rw[Ki];rfl);rw[N7 p,K1]at a;show a _ _ rfl
 .rintro env ⟨rv,_,rfl⟩;rw[Ki,Lg (Kz _)];lk;let hs:∀r∈(dP (-s)).filter (cN (o.getD d 0) (d5 l (-s))),-r<=1000:=λr m=>by
   let:=(bU _ r (cc.mp m).1).1;lia
  show(λx hx=>?_,?_,λes y=>?_);let(r,_,rfl):=Ko.mp hx;show(-r,r,rfl);rw[Ki];show tO (iz (n:=-s) (h:=o.getD d 0) t2 (z.imp (λh=>h) λh=>by let:=h _ (aU s1);lia)) (!2)
  .let(rr,D,rfl):=df y _ rfl;let X:=D.length_eq;let Y:((dP (-s)).filter (cN (o.getD d 0) (d5 l (-s)))).length<64:=iz t2 (z.imp (λh=>h) λh=>by let:=h _ (aU s1);lia);show b7 (λj=>.list (li (rr.getD j []))) (by rw[Ki];lia) (λj hj Q hQ=>?_) ?_
   .rw[Ki]at hj;let M:(eC E9 rr)[j]'(by simpa using hj)=E9 (rr.getD j []):=by simp[Kn,hj]
    rw[M];unfold E9;lk;show hQ
   .rw[Ki,aQ rr [] (λr=>dt (li r))];lk;show q rr D
noncomputable def qE(s l r:OD)(n:Nat):OD:=(dm n).map λ(i:Nat)=>if (i:Int)∈r then s.getD i 0 else l.getD i 0-1
def tx(s l r:OD)(n:Nat):(qE s l r n).length=n:=by simp[qE]
def xw(s l r:OD)(n:Nat):qE s l r (n+1)=qE s l r n++[if (n:Int)∈r then s.getD n 0 else l.getD n 0-1]:=by unfold qE;rw[Mc,KC];rfl
abbrev fB:Stmt:=top 38
def cj:aA ["_law_town_here","_law_standing_here","_law_row","_law_lefts","_law_clock"] ["_law_town_here","_law_standing_here","_law_row"] (ae fB):={}
inductive po:DSp
 |mk {ss R} (s o l r:OD) (d:Nat):ss=[.fr (.tuple [.list (li s),.list (li o)]),.fr (.tuple [.int d,.tuple (li l)]),.fr (.list (li r))]->s.length<=1000->1<=o.length->l.length=s.length->R (.fr (.tuple [.int (((d+1) % o.length:Nat):Int),.tuple (li (qE s l r s.length))])) [.un,.un,.un]->po ss R
inductive IvX (s o l r:OD) (d i:Nat):OL->Prop
 |mk (cv:Sl):IvX s o l r d i [.fr (.tuple [.list (li s),.list (li o)]),.fr (.tuple [.int d,.tuple (li l)]),.fr (.list (li r)),.fr (.tuple (li (qE s l r i))),cv]
def lV(F:Fun K "_law_after" "_law_after" fB f fd)(B:Bn mg):cg P w K mg base CX0 1 f fd ["_law_town_here","_law_standing_here","_law_row"] (spD K po):=by
 show okD (k:=0) F cj (λss R h=>?_) (!2) (λcdv A outer s H E b=>(_,(af (ax 3 cj.nd (bV ad))
   (af (cS PassesOwn.never rfl (dW rfl B.range (aa (km B.len (qx (qv 0) aj)) ad)) (al 4 cj.nd) (ak (eV (aB (kIn (K:=K) rfl) mIn (qv 4) (qv 2)) (ak (ax 3 cj.nd (rH (K:=K) rfl (qv 3) (bV (aa (qx (qx (qv 0) aj) (qv 4)) ad))))) (ak (ax 3 cj.nd (rH (K:=K) rfl (qv 3) (bV (aa (aY kM mI (qx (qx (qv 1) aj) (qv 4)) aj) ad))))))))
   (ak (aR (bV (aa (aY aP mIC (aY bq mI (qx (qv 1) aj) aj) (km B.len (qx (qv 0) aj))) (aa (qf 3) ad))))))),λss R h=>?_))
 let(s,o,l,r,d,rfl,_):=h;rfl;let(s,o,l,r,d,rfl,h1,h2,h3,q):=h;lk;show(KG _,?_);lk;rw[Ki];show(!0,!0,dz (IvX s o l r d) (.mk _) (λE hN=>?_) ?_)
 .rintro i env hi ⟨cv⟩;rw[aD,K2]at hi;rw[bG];lk;let hz:(li (qE s l r i)).length+1<=sizeLine:=by
   rw[Ki,tx];show Kr (!0) ai
  let hv:=λcv=>IvX.mk (s:=s) (o:=o) (l:=l) (r:=r) (d:=d) (i:=i+1) cv;rw[xw]at hv;show cC (λa=>?_) (λa=>?_);rw[N6 a]at hv;show(_,dO hi,Kr (!2) ai,hz,(hN _).nx _ (by rw[fG];show hv _));rw[N7 a]at hv;show(_,dO (!0),_,rfl,Kr (!2) ai,hz,(hN _).nx _ (by rw[fG];show hv _))
 .rintro env ⟨cv⟩;rw[aD,K2];lk;rw[Ki];show(!0,Kr (!2) ai,q)
abbrev h8:Stmt:=top 2
def pz:aA ["town","standing"] ["town","standing"] (ae h8):={}
inductive jv:DSp
 |mk {ss R} (s o l:OD) (d:Nat):ss=[.fr (.tuple [.list (li s),.list (li o)]),.fr (.tuple [.int d,.tuple (li l)])]->d<o.length->R (.fr (.int (o.getD d 0))) [.un,.un]->jv ss R
def pO(F:Fun K "hands_on" "hands_on" h8 f fd)(B:Bn mg):cg P w K mg base CX0 1 f fd ["town","standing"] (spD K jv):=by show okD (k:=0) F pz (λss R h=>?_) (!2) (λcdv A outer s H E a=>(_,(ak (aR (qx (qx (qv 0) aj) (qx (qv 1) aj)))),λss R h=>?_));let(s,o,l,d,rfl,_):=h;rfl;let(s,o,l,d,rfl,hd,q):=h;walk_at"dd";show(_,dO hd,q)
abbrev i8:Stmt:=top 4
def jA:aA ["town","standing","row","spans","lefts"] ["town","standing","row"] (ae i8):={}
inductive i5:DSp
 |mk {ss R} (s o l r:OD) (d:Nat):ss=[.fr (.tuple [.list (li s),.list (li o)]),.fr (.tuple [.int d,.tuple (li l)]),.fr (.list (li r))]->1<=o.length->l.length=s.length->s.length<=1000->R (.fr (.tuple [.int (((d+1) % o.length:Nat):Int),.tuple (li (qE s l r s.length))])) [.un,.un,.un]->i5 ss R
def vV(F:Fun K "behind" "behind" i8 f fd)(B:Bn mg):cg P w K mg base CX0 1 f fd ["town","standing","row"] (spD K i5):=by
 show okD (k:=0) F jA (λss R h=>?_) (!2) (λcdv A outer s H E b=>(_,(af (ax 3 jA.nd (qx (qv 0) aj))
   (af (bR 4 jA.nd (NN:=_::_) (sc0:=ae i8) (N':=["clock","left","row","spans"]) (ix:=[OW,OW,OV 2,OV 3]) (jH OX (K:=K) rfl rfl B.enumerate (aa (qx (qv 1) aj) ad)) (λY Y Y Y=>(dJ (K:=K) (n:=2) rfl rfl (aI (al 0 (!4)) (aI (al 1 (!4)) cp)))) (λY Y Y Y=>(pF (aB (kIn (K:=K) rfl) mIn (qv 0) (qv 2)) (qx (qv 3) (qv 0)) (aY kM mI (qv 1) aj))))
   (ak (aR (bV (aa (aY aP mIC (aY bq mI (qx (qv 1) aj) aj) (km B.len (qx (qv 0) aj))) (aa (vn (K:=K) rfl rfl B.tuple (aa (qv 4) ad)) ad))))))),λss R h=>?_))
 let(s,o,l,r,d,rfl,_):=h;rfl;let(s,o,l,r,d,rfl,ho,a,hs,q):=h;lk;show b7 (λi=>.int (if (i:Int)∈r then s.getD i 0 else l.getD i 0-1)) (by rw[bA,Ki];lia) (λi hi Q hQ=>?_) ?_
 .rw[bA,Ki]at hi;rw[eB,dL];lk;show cC (λh=>?_) (λh=>?_);rw[N6 h]at hQ;show(_,dO (!0),hQ);rw[N7 h]at hQ;show hQ
 let e:(dm (mi (li l)).length).map (λi:Nat=>db (if (i:Int)∈r then s.getD i 0 else l.getD i 0-1))=li (qE s l r (-s)):=by rw[bA,Ki,a];show _=eC _ (eC _ _);rw[KQ];rfl
 rw[e];lk;rw[Ki];show(!0,Kr (!2) ai,q)
abbrev pB:Stmt:=top 1
def ye:aA ["town"] ["town"] (ae pB):={}
inductive jw:DSp
 |mk {ss R} (s o:OD):ss=[.fr (.tuple [.list (li s),.list (li o)])]->R (.fr (.tuple [.int 0,.tuple (li s)])) [.un]->jw ss R
def yz(F:Fun K "begun" "begun" pB f fd)(B:Bn mg):cg P w K mg base CX0 1 f fd ["town"] (spD K jw):=by show okD (k:=0) F ye (λss R h=>?_) (!2) (λcdv A outer s H E a=>(_,(ak (aR (bV (aa aj (aa (vn (K:=K) rfl rfl B.tuple (aa (qx (qv 0) aj) ad)) ad))))),λss R h=>?_));let(s,o,rfl,_):=h;rfl;let(s,o,rfl,q):=h;walk_at"dd";show(Kr (!2) ai,q)
def zJ(h:c<n):(qE s l r n).getD c 0=if (c:Int)∈r then s.getD c 0 else l.getD c 0-1:=by unfold qE;simp[Kn,h]
abbrev gL:Stmt:=top 3
def cE:aA ["town","standing","most","rows","clock","left","with_it"] ["town","standing"] (ae gL):={}
noncomputable def chs(h:Int)(l:OD):Nat->Ol
 | 0=>[[]]
 |k+1=>if l.getD k 0=1 then ((chs h l k).filter λr=>decide ((-r:Int)<h)).map (·++[(k:Int)]) else chs h l k++((chs h l k).filter λr=>decide ((-r:Int)<h)).map (·++[(k:Int)])
def j5(l:OD)(k:Nat):d5 l (k+1)=d5 l k++(if l.getD k 0=1 then [(k:Int)] else []):=by
 unfold d5;rw[Mc,Lr,KC]
 congr 1
 by_cases h:l.getD k 0=1;rw[N6 h,Lq (by simpa using h)];rfl;rw[N7 h,LR (by simpa using h)];rfl
def CM(h:x∈d5 l k):0<=x/\x<k:=by unfold d5 at h;let(i,hi,rfl):=Ko.mp h;let:=L1.mp (cc.mp hi).1;lia
theorem j8(h:Int)(f:0<=h)(l:OD):∀k,chs h l k=gq k h l
 | 0 => by
  show[[]]=mN _ [[]];rw[Lq];rfl;show cN h (d5 l 0) []=OX;unfold cN d5;simp[f]
 |k + 1=>by
  let g:=j8 h f l k;let e1:((dP k).map (·++[(k:Int)])).filter (cN h (d5 l (k+1)))=((gq k h l).filter λr=>decide ((-r:Int)<h)).map (·++[(k:Int)]):=by
   unfold gq;rw[Dd,List.filter_filter]
   congr 1
   show Np λr b=>?_;let a:=bU k r b;show cN h (d5 l (k+1)) (r++[(k:Int)])=_;unfold cN;rw[j5];let e2:(mN (λc=>decide (c ∉ r++[(k:Int)])) (d5 l k++if l.getD k 0=1 then [(k:Int)] else []))=mN (λc=>decide (c ∉ r)) (d5 l k):=by
    rw[Lr];let e3:mN (λc=>decide (c ∉ r++[(k:Int)])) (if l.getD k 0=1 then [(k:Int)] else [])=[]:=by split <;> simp
    rw[e3,K1];show Np λc hc=>?_;let:=CM hc;let d:c≠(k:Int):=!0
    simp[d]
   rw[e2];let e4:decide (((r++[(k:Int)]).length:Int)<=h)=(decide ((-r:Int)<h)&&decide ((-r:Int)<=h)):=by
    rw[KD,K5];by_cases c:(-r:Int)<h;let c2:(-r:Int)<=h:=!0
    let e:((-r+1:Nat):Int)<=h:=!0
    rw[decide_eq_true c,decide_eq_true c2,decide_eq_true e];rfl;let e:¬((-r+1:Nat):Int)<=h:=!0
    rw[decide_eq_false c,decide_eq_false e];rfl
   rw[e4,Bool.and_assoc]
  let e2:(dP k).filter (cN h (d5 l (k+1)))=if l.getD k 0=1 then [] else gq k h l:=by
   split;rename_i h1;show MU.mpr λr b=>?_;let a:=bU k r b;unfold cN;rw[j5,N6 h1,Lr];let hn:(k:Int) ∉ r:=λz=>by let:=a.2.2 _ z;lia
   simp[hn];rename_i h1;unfold gq;rw[j5,N7 h1,K1]
  show(if l.getD k 0=1 then _ else _)=mN _ (dP k++(dP k).map (·++[(k:Int)]));rw[Lr,e1,e2,g];split;rw[Mt];rfl
inductive gH:DSp
 |mk {ss R} (s o l:OD) (d:Nat):ss=[.fr (.tuple [.list (li s),.list (li o)]),.fr (.tuple [.int d,.tuple (li l)])]->s.length<=6->0<=o.getD d 0->(s.length<=4\/o.getD d 0<=3)->StB s o d l->(∀cs:Ol,cs.Perm (gq s.length (o.getD d 0) l)->R (.ow (lr cs)) [.un,.un])->gH ss R
def t8(F:Fun K "choices" "choices" gL f fd)(B:Bn mg)(L:xB K base "choices" fd)(e:Cal P w K mg base "hands_on" 1 (spD K jv)):cg P w K mg base CX0 6 f fd ["town","standing"] (spD K gH):=by
 show IB (k:=5) F cE (λss R h=>?_) (!2) (λcdv v A outer s H E t=>(_,(af (ax 2 cE.nd (aH e (aa (qf 0) (aa (qf 1) ad))))
   (af (ax 3 cE.nd (bD (aa (bD ad) ad)))
   (af (cS PassesOwn.never rfl (jH OX (K:=K) rfl rfl B.enumerate (aa (qx (qv 1) aj) ad)) (dJ (K:=K) (n:=2) rfl rfl (aI (al 4 cE.nd) (aI (al 5 cE.nd) cp))) (af (bR 6 cE.nd (NN:=_::_) (sc0:=ae gL) (N':=["row","most","clock"]) (ix:=[OW,OV 2,OV 4]) (aE (qf 3)) (λY Y Y Y=>(al 0 (!4))) (λY Y Y Y=>(gd (cw (K:=K) rfl) sd (qv 0) (bD (aa (qf 2) ad)))) (ht:=(λY Y Y Y=>(eU (aB tV mB (km B.len (qv 0)) (qv 1))))))
   (ak (ax 3 cE.nd (pF (aB fg nC (qv 5) aj) (qf 6) (gd (cw (K:=K) rfl) sd (qv 3) (qv 6)))))))
   (ak (aR (Ec sr (p := "row") (K:=K) rfl (let ⟨c,T,a,b,d⟩:=L;(c,T,v.trans a,b,d)) (t.mono (!2)) rfl B.sorted (aa (qv 3) ad) (rfl,rfl,rfl,!2,rfl,λx hx=>by rw[Kj.mp hx];show .inl rfl,!2) (λY Y Y Y Y=>rfl) rfl rfl (λY Y Y Y Y=>(bV (aa (km B.len (qv 0)) (aa (qf 0) ad)))))))))),λss R h=>?_))
 let(s,o,l,d,rfl,_):=h;rfl;let(s,o,l,d,rfl,t2,u,z,C,q):=h;let(s1,s2):=C;lk;show(s,o,l,d,rfl,s1,?_);lk;show(KG _,Kr (!2) ai,?_);lk;show sE (λi env=>∃(rv a b c:Sl),env=[.fr (.tuple [.list (li s),.list (li o)]),.fr (.tuple [.int d,.tuple (li l)]),.fr (.int (o.getD d 0)),rv,a,b,c]/\(rv=.ow (lr (chs (o.getD d 0) l i))\/rv=.fr (.list (lr (chs (o.getD d 0) l i))))) (_,_,_,_,rfl,.inl rfl) ?_ ?_
 .rintro i env hi ⟨rv,a,b,c,rfl,g⟩;rw[eB,dL];rw[bA,Ki]at hi;let hz:(chs (o.getD d 0) l i).length<=64:=by
   rw[j8 _ u];show Kr (KZ _ _) ?_;rw[gF];show LZ (!2) (show i<=6 by lia)
  let m:∀r∈chs (o.getD d 0) l i,-r<=6:=λr t=>by
   rw[j8 _ u]at t;let:=(bU i r (cc.mp t).1).1;lia
  let D:chs (o.getD d 0) l (i+1)=if l.getD i 0=1 then ((chs (o.getD d 0) l i).filter λr=>decide ((-r:Int)<o.getD d 0)).map (·++[(i:Int)]) else chs (o.getD d 0) l i++((chs (o.getD d 0) l i).filter λr=>decide ((-r:Int)<o.getD d 0)).map (·++[(i:Int)]):=rfl
  rw[D];generalize chs (o.getD d 0) l i=cs at *;generalize o.getD d 0=hd at *;rcases g with rfl|rfl
  all_goals
   lk;show cy (λj=>decide (((cs.getD j []).length:Int)<hd)) (λj=>.list (li (cs.getD j []++[(i:Int)]))) (by rw[Ki];lia) (λj hj Q I h1 h2=>?_) ?_
   .rw[Ki]at hj;rw[iK];let J:=m _ (dq (l:=cs) hj);lk;rw[Ki];show cC (λh=>?_) (λh=>h2 (by simpa using h));rw[fG];show(Kr (!2) ai,Kr (!0) ai,h1 (by simpa using h))
   rw[Ki,bM cs [] (λr=>decide ((-r:Int)<hd)) (λr=>dt (li (r++[(i:Int)])))];lk;show cC (λh1=>?_) (λh1=>?_);rw[N6 h1];show .inr (!1);rw[N7 h1];let M:=KZ (λr:OD=>decide ((-r:Int)<hd)) cs;show(?_,.inl (!1));rw[Ki,Ki];show Kr (!0) ai
 .rintro env ⟨rv,a,b,c,rfl,g⟩;rw[bA,Ki,s2]at g;let hz:(chs (o.getD d 0) l (-s)).length<64:=by
   rw[j8 _ u];show iz t2 z
  rcases g with rfl|rfl
  all_goals
   lk;show(by rw[Ki];show hz,λx hx=>?_,λes y=>?_)
   .let(r,_,rfl):=Ko.mp hx;unfold Cl;walk_at"dd";show(Kr (!2) ai,_,r,rfl)
   let(cs,G,rfl):=df y _ rfl;show q cs (by rw[<-j8 _ u];show G)
section
variable{κ β:Type}[DecidableEq κ]
def l8(a b:List (κ×β))(k:κ):aJ (a++b) k=match aJ a k with|some v=>OV v|none=>aJ b k:=by
 induction a with
 |nil=>rfl
 |cons p a c =>
  rw[vu,aq,aq,c];by_cases h:p.1=k <;> simp[h]
def za(kvs:List (κ×β))(k:κ)(v:β)(x:κ):aJ (kvs.map λp=>if p.1=k then (p.1,v) else p) x=if x=k then (aJ kvs x).map λY=>v else aJ kvs x:=by
 induction kvs with
 |nil=>simp[aJ]
 |cons p kvs a =>
  rw[Kw,aq,aq,a];by_cases h1:p.1=k;by_cases h2:x=k;simp[h1,h2];let:¬k=x:=λz=>h2 z.symm;simp[h1,h2,this];by_cases h2:p.1=x;subst h2;simp[h1];simp[h1,h2]
def sC(kvs:List (κ×β))(k:κ)(v:β)(x:κ):aJ (c7 kvs k v) x=if x=k then OV v else aJ kvs x:=by
 unfold c7;cases e:aJ kvs k with
 |some w =>
  rw[N6 (show(OV w).isSome=OX from rfl),za];by_cases h:x=k;subst h;simp[e];simp[h]
 |none =>
  rw[N7 (!1),l8,aq,zb];by_cases h:x=k;subst h;simp[e];let:¬k=x:=λz=>h z.symm;simp only[this,h,if_false];cases aJ kvs x <;> rfl
end
theorem cM{α:Type} [DecidableEq α]:∀{l U:List α},l.Nodup->(∀x∈l,x∈U)->-l<=-U
 |[],_,_,_=>KG _
 |x::l,U,hn,h=>by
  let(h1,h2):=KY.mp hn;let hx:=h x (!1);let:=cM (l:=l) (U:=U.erase x) h2 λy a=>(List.mem_erase_of_ne (λ(z:y=x)=>h1 (by rw[<-z];show a))).mpr (h y (by simp[a]));rw[MN hx]at this;let b:0< -U:=List.length_pos_of_mem hx;simp;lia
def B5:r∈gq n h l↔r∈dP n/\(-r:Int)<=h/\∀c,c<n->l.getD c 0=1->(c:Int)∈r:=by
 unfold gq cN;rw[cc,Ll,decide_eq_true_eq,decide_eq_true_eq];let a:(mN (λc=>decide (c ∉ r)) (d5 l n))=[]↔∀c,c<n->l.getD c 0=1->(c:Int)∈r:=by
  rw[MU];constructor;intro h c hc e;let:=h (c:Int) (by
   unfold d5;show Ko.mpr (c,cc.mpr (L1.mpr hc,decide_eq_true e),rfl))
  simpa using this;intro h x hx;unfold d5 at hx;let(c,hc,rfl):=Ko.mp hx;let(h1,h2):=cc.mp hc;let:=h c (L1.mp h1) (of_decide_eq_true h2);simpa using this
 rw[a]
abbrev Std:=Nat×OD
abbrev N8:=List (Std×List (List Int))
abbrev OH:=List Std
def bQ(s o:OD)(x:Std)(r:OD):Std:=((x.1+1) % (-o),qE s x.2 r (-s))
def IsS(s o:OD)(x:Std):Prop:=x.1< -o/\x.2.length=-s/\∀c,c< -s->1<=x.2.getD c 0/\x.2.getD c 0<=s.getD c 0
def Ah(hs:∀x∈s,1<=x)(h:IsS s o x)(a:r∈gq (-s) (o.getD x.1 0) x.2):IsS s o (bQ s o x r):=by let(h1,h2,h3):=h;show(Nm _ (!0),tx _ _ _ _,λc hc=>?_);let b:=(B5.mp a).2.2;show 1<=(qE s x.2 r (-s)).getD c 0/\(qE s x.2 r (-s)).getD c 0<=_;rw[zJ hc];let h4:=h3 c hc;let h5:=hs _ (aU hc);split;lia;rename_i hn;by_cases e:x.2.getD c 0=1;show absurd (b c hc e) hn;lia
noncomputable def zI:OD->Ol
 |[]=>[[]]
 |x::s=>((dm x.toNat).map λ(i:Nat)=>(zI s).map λl=>((i:Int)+1)::l).flatten
theorem r9:∀{s l:OD},-l=-s->(∀c,c< -s->1<=l.getD c 0/\l.getD c 0<=s.getD c 0)->l∈zI s
 |[],l,h,_=>by
  rw[MP.mp h];simp[zI]
 |x::s,[],h,_=>by simp at h
 |x::s,y::l,h,a=>by
  let h0:=a 0 (!1);let d:1<=y/\y<=x:=by simpa using h0
  let b:=r9 (s:=s) (l:=l) (by simpa using h) λc hc=>by simpa using a (c+1) (by simpa using hc)
  unfold zI;show Ny.mpr (_,Ko.mpr ((y-1).toNat,L1.mpr (!0),rfl),Ko.mpr (l,b,?_));rw[show(((y-1).toNat:Nat):Int)+1=y by lia]
def m8:OD->Nat
 |[]=>1
 |x::s=>x.toNat*m8 s
theorem tw:∀s:OD,(zI s).length=m8 s
 |[]=>rfl
 |x :: s=>by
  unfold zI m8;rw[Nb,KQ];let:(eH ∘ λ(i:Nat)=>(zI s).map λl=>((i:Int)+1)::l)=λY=>m8 s:=by funext i;simp[tw s]
  rw[this,NI,MT,Lz]
def fX(s o:OD):OH:=((dm (-o)).map λd=>(zI s).map λl=>(d,l)).flatten
def rZ(h:IsS s o x):x∈fX s o :=
 Ny.mpr (_,Ko.mpr (x.1,L1.mpr h.1,rfl),Ko.mpr (x.2,r9 h.2.1 h.2.2,rfl))
def tq(s o:OD):(fX s o).length=-o*m8 s:=by
 unfold fX;rw[Nb,KQ];let:(eH ∘ λd=>(zI s).map λl=>((d,l):Std))=λY=>m8 s:=by funext i;simp[tw s]
 rw[this,NI,MT,Lz]
def xq(a:Ol)(x:OD):atI (lr (a++[x])) (-1)=OV (.list (li x)):=by show atI (eC _ (a++[x])) (-1)=_;rw[KC];show eD _ _
abbrev eQ:Stmt:=top 9
def dE:aA ["town","standing","lefts","rows","full"] ["town","standing"] (ae eQ):={}
inductive uW:DSp
 |mk {ss R} (s o l:OD) (d:Nat):ss=[.fr (.tuple [.list (li s),.list (li o)]),.fr (.tuple [.int d,.tuple (li l)])]->s.length<=6->0<=o.getD d 0->(s.length<=4\/o.getD d 0<=3)->StB s o d l->(∀fr:Ol,(∀r∈fr,r∈gq s.length (o.getD d 0) l)->fr.length<64->R (.ow (lr fr)) [.un,.un])->uW ss R
def nq(F:Fun K "full_rows" "full_rows" eQ f fd)(B:Bn mg)(L:xB K base "full_rows" fd)(e:Cal P w K mg base "choices" 6 (spD K gH)):cg P w K mg base CX0 7 f fd ["town","standing"] (spD K uW):=by
 show IB (k:=6) F dE (λss R h=>?_) (!2) (λcdv u A outer s H E g=>(_,(ce (ax 2 dE.nd (qx (qv 1) aj))
   (ce (ax 3 dE.nd (aH e (aa (qf 0) (aa (qf 1) ad))))
   (ce (bR 4 dE.nd (NN:=_::_) (sc0:=ae eQ) (N':=["row","rows"]) (ix:=[OW,OV 3]) (aE (qf 3)) (λY Y Y Y=>(al 0 (!4))) (λY Y Y Y=>(qf 0)) (ht:=(λY Y Y Y=>(eU (aB fg nC (km B.len (qv 0)) (km B.len (qx (qv 1) (z6 gE Ak aj))))))))
   (ak (aR (Eb 2 yT (p := "row") (x := "lefts") (K:=K) rfl (let ⟨c,T,a,b,d⟩:=L;(c,T,u.trans a,b,d)) (g.mono (!2)) rfl B.sorted (aa (qv 4) ad) (rfl,rfl,rfl,rfl,rfl,!2,!2,!2) rfl (ee cb) cb (λz=>nomatch (show(OV gw:Option NameKind)=OV .local from z)) (λY Y Y Y Y Y=>rfl) (λc hc=>by cases hc;rfl) rfl (λY Y Y Y Y Y v=>(z7 yU (K:=K) rfl (iG v) rfl B.sorted (aa (vt (N':=["clock","lefts"]) (ix:=[OW,OV 1]) rfl (HY (!3)) (aE (qf 0)) (λY Y Y Y=>(al 0 (!4))) (λY Y Y Y=>jG) (λY Y Y Y=>(qx (qv 1) (qv 0)))) ad))))))))),λss R h=>?_))
 let(s,o,l,d,rfl,_):=h;rfl;let(s,o,l,d,rfl,t2,N,I,J,q):=h;let(s1,s2):=id J;walk_at"dd";show(s,o,l,d,rfl,t2,N,I,J,λcs y=>?_);walk_at"dd";let n:-cs<64:=by rw[y.length_eq];show iz t2 I
 let C:∀r∈cs,-r<=6/\∀x∈r,0<=x/\x< -s:=λr g=>by
  let:=bU _ r (cc.mp (y.mem_iff.mp g)).1;show(!0,this.2.2)
 obtain⟨m,O⟩:∃m:Nat,∀j,j< -cs->∃z:OD,atI (lr cs) (-1)=OV (.list (li z))/\z.length=m:=by
  rcases Lo cs with rfl|⟨U,r,rfl⟩
  show(0,λj hj=>absurd hj (LO _));show(-r,λj hj=>(r,by rw[Lp];show xq _ _,rfl))
 show cy (λj=>decide ((cs.getD j []).length=m)) (λj=>.list (li (cs.getD j []))) (by rw[Ki];lia) (λj hj Q V h1 h2=>?_) ?_
 .rw[Ki]at hj;rw[iK];let(z,z1,z2):=O j hj;walk_at"dd";show(_,z1,_,rfl,?_);rw[Ki,Ki];show cC (λh=>h1 (decide_eq_true (!0))) (λh=>h2 (decide_eq_false (!0)))
 rw[Ki,bM cs [] (λr=>decide (-r=m)) (λr=>dt (li r))];walk_at"dd";let M:(cs.filter λr=>decide (-r=m)).length<64:=Ls (KZ _ _) n;show(by rw[Ki];show M,λx hx=>?_,λes D=>?_)
 .let(r,g,rfl):=Ko.mp hx;let(W,G):=C r (cc.mp g).1;unfold Cl;walk_at"dd";show b7 (λi=>.int (l.getD (r.getD i 0).toNat 0)) (by rw[Ki];lia) (λi hi Q hQ=>?_) ?_
  .rw[Ki]at hi;rw[dL];let X:=G _ (aU hi);walk_at"dd";rw[show r.getD i 0=((r.getD i 0).toNat:Int) by lia];show(_,dO (!0),hQ)
  .lk;show(λd hd=>?_,by simp;lia,λes S=>?_);let(i,_,rfl):=Ko.mp hd;show(_,rfl);let(ns,_,rfl):=df (f:=db) S ((dm (li r).length).map λi=>l.getD (r.getD i 0).toNat 0) (by rw[KQ];rfl);show(ns,rfl)
 let(fr,t,rfl):=df D _ rfl;show q fr (λr g=>y.mem_iff.mp (cc.mp (t.mem_iff.mp g)).1) (by rw[t.length_eq];show M)
abbrev stS(x:Std):ab:=aN ((x.1:Int),x.2)
noncomputable def kOf(x:Std):ar:=((x.1:Int),x.2)
def jW(h:kOf x=kOf y):x=y:=by let(a,b):=x;let(c,d):=y;unfold kOf at h;simp only[m7]at h ⊢;show(!0,h.2)
def zc{κ β:Type} [DecidableEq κ]{kvs:List (κ×β)}{k:κ}{v:β}(h:aJ kvs k=OV v):(k,v)∈kvs:=by
 induction kvs with
 |nil=>cases h
 |cons p kvs a =>
  rw[aq]at h;split at h
  .rename_i e
   cbv;cases h;subst e
   w_up;show Ks
  show Kv _ (a h)
def y7(W:N9):(dm (eC wD W).length).map (λi:Nat=>dt (li ((W.getD i []).getD 0 [])))=lr (W.map λw=>w.getD 0 []):=by show _=eC _ (eC _ _);rw[Ki,KQ];show Mo (!1) λi h1 h2=>?_;rw[Ki]at h2;simp[Kn,h2]
def xc(ns:Ol)(a b:Oy):oT (lr ns) a b=lr ((ns.drop (HT.sIx (-ns) 0 a)).take (HT.sIx (-ns) (-ns) b-HT.sIx (-ns) 0 a)):=by unfold oT;show(List.drop _ (eC (λr=>dt (li r)) ns)).take _=eC _ _;rw[Ki,MM,NT]
def xa(ns:Ol)(c:Nat):oT (lr ns) OW (OV (c:Int))=lr (ns.take c):=by rw[xc,HT.sIx_none,HT.sIx_nat,NL,Nat.sub_zero];by_cases h:c<=-ns;rw[L2 h];rw[pu (!0),Lg (Kz _),Lg (!0)]
def xf(ns:Ol)(c:Nat):oT (lr ns) (OV (c:Int)) OW=lr (ns.drop c):=by rw[xc,HT.sIx_none,HT.sIx_nat];by_cases h:c<=-ns;rw[L2 h,Lg (!1)];rw[pu (!0),Lv (Kz _),Lv (!0)];simp
def A9(s o:OD)(x:Std):OH:=(gq (-s) (o.getD x.1 0) x.2).map (bQ s o x)
def fj(s o:OD)(x:Std):Prop:=∃S:Std->Prop,S x/\∀y,S y->∃z∈A9 s o y,S z
def fj.step{s o:OD}{x:Std}(h:fj s o x):∃z∈A9 s o x,fj s o z:=by let(S,hx,a):=h;let(z,hz,sz):=a x hx;show(z,hz,S,sz,a)
abbrev Lds:=List (Std×OH)
abbrev kys(L:Lds):OH:=L.map (·.1)
structure Fil(s o:OD)(x0:Std)(L:Lds)(pile:OH):Prop where
 nd : (kys L).Nodup
 is : ∀p∈L,IsS s o p.1
 suc:∀p∈L,p.2.Perm (A9 s o p.1)
 pis:∀x∈pile,IsS s o x
 st : x0∈pile\/x0∈kys L
 cl : ∀p∈L,∀y∈p.2,y∈pile\/y∈kys L
 pl : pile.length<=64*L.length+1
section
def Fil.init(h:IsS s o x0):Fil s o x0 [] [x0]:=(!1,!1,!1,by simpa using h,!1,!1,!1)
def Fil.few(h:Fil s o x0 L pile):-L<=(fX s o).length:=by
 let:=cM (U:=fX s o) h.nd λx hx=>by
  let(p,a,rfl):=Ko.mp hx;show rZ (h.is p a)
 simpa using this
def Fil.skip(h:Fil s o x0 L (pile++[x]))(hx:x∈kys L):Fil s o x0 L pile:=by show(h.nd,h.is,h.suc,λy a=>h.pis y (by simp[a]),?_,λp b y a=>?_,by let:=h.pl;simp at this;lia);rcases h.st with e|e;rcases Km.mp e with e|e;show .inl e;rw[Kj.mp e];show .inr hx;show .inr e;rcases h.cl p b y a with e|e;rcases Km.mp e with e|e;show .inl e;rw[Kj.mp e];show .inr hx;show .inr e
def Fil.add(hs:∀c∈s,1<=c)(h:Fil s o x0 L (pile++[x]))(hx:x ∉ kys L)(hv:v.Perm (A9 s o x))(k:-v<64):Fil s o x0 (L++[(x,v)]) (pile++v):=by
 let ix:IsS s o x:=h.pis x (!1);let key:∀y,y∈pile++[x]\/y∈kys L->y∈pile++v\/y∈kys (L++[(x,v)]):=by intro y d;rcases d with e|e;rcases Km.mp e with e|e;show .inl (by simp[e]);show .inr (by simp[Kj.mp e]);show .inr (by simp only[kys,KC,Km];show .inl e)
 show(?_,λp f=>?_,λp f=>?_,λy d=>?_,key _ h.st,λp f y d=>?_,?_);simp only[kys,KC,Kw,LQ];show Ky.mpr (h.nd,!1,λa g b i e=>?_);rw[Kj.mp i]at e;show hx (e▸g);rcases Km.mp f with e|e;show h.is p e;rw[Kj.mp e];show ix;rcases Km.mp f with e|e;show h.suc p e;rw[Kj.mp e];show hv;rcases Km.mp d with e|e;show h.pis y (by simp[e]);let(r,j,rfl):=Ko.mp (hv.mem_iff.mp e);show Ah hs ix j;rcases Km.mp f with e|e;show key y (h.cl p e y d);rw[Kj.mp e]at d;show .inl (by simp[d]);let:=h.pl;simp at this ⊢;lia
structure Sft(s o:OD)(x0:Std)(L:Lds):Prop where
 nd : (kys L).Nodup
 sub:∀p∈L,∀y∈p.2,y∈A9 s o p.1
 can:fj s o x0->x0∈kys L
 go : ∀p∈L,∀y∈A9 s o p.1,fj s o y->y∈p.2/\y∈kys L
 few:L.length<=(fX s o).length
 sh : ∀p∈L,p.2.length<64
def Fil.sft(h:Fil s o x0 L [])(b:∀p∈L,p.2.length<64):Sft s o x0 L:=by show(h.nd,λp a y c=>(h.suc p a).mem_iff.mp c,λY=>?_,λp a y c Y=>?_,h.few,b);rcases h.st with e|e;cases e;show e;let:=(h.suc p a).mem_iff.mpr c;show(this,?_);rcases h.cl p a y this with e|e;cases e;show e
noncomputable def stp(L:Lds)(p:Std×OH):OH:=p.2.filter λy=>decide (y∈kys L)
def yc(L A:Lds):Lds:=(A.filter λp=>decide (stp L p≠[])).map λp=>(p.1,stp L p)
def rg(L A:Lds):kys (yc L A)=kys (A.filter λp=>decide (stp L p≠[])):=by simp[kys,yc,Function.comp_def]
def Bi(a:q∈L)(e:q.1=y)(h:stp L q≠[]):y∈kys (yc L L):=by rw[rg];show Ko.mpr (q,cc.mpr (a,by simpa using h),e)
def Sft.keep(h:Sft s o x0 L)(b:y∈kys L)(hc:fj s o y):y∈kys (yc L L):=by
 cbv;let(q,a,e):=Ko.mp b;let(z,hz,c):=hc.step;let(z1,z2):=h.go q a z (by rw[show q.1=y from e];show hz) c
 w_up;show Bi a e λhn=>?_;let:z∈stp L q:=cc.mpr (z1,by simpa using z2);rw[hn]at this;cases this
def Sft.next(h:Sft s o x0 L):Sft s o x0 (yc L L):=by
 let c:∀p∈yc L L,∃q∈L,stp L q≠[]/\p=(q.1,stp L q):=λp a=>by
  let(q,b,rfl):=Ko.mp a;let(h1,h2):=cc.mp b;show(q,h1,by simpa using h2,rfl)
 show(?_,λp a y d=>?_,λhc=>h.keep (h.can hc) hc,λp a y d hc=>?_,?_,λp a=>?_);rw[rg];show h.nd.sublist (rE.map _);let(q,b,_,rfl):=c p a;show h.sub q b y (cc.mp d).1;let(q,b,_,rfl):=c p a;let(h1,h2):=h.go q b y d hc;show(cc.mpr (h1,by simpa using h2),h.keep h2 hc);show Kr ?_ h.few;unfold yc;rw[Ki];show KZ _ _;let(q,b,_,rfl):=c p a;show Ls (KZ _ _) (h.sh q b)
end
section
variable{κ:Type}[DecidableEq κ]{U:List κ}{kvs:List (κ×ab)}{k:κ}{d:ab}
structure KvU(U:List κ)(kvs:List (κ×ab)):Prop where
 nd : (kvs.map (·.1)).Nodup
 key:∀x∈kvs,x.1∈U
def KvU.len(h:KvU U kvs):-kvs<=-U:=by
 let:=cM h.nd (U:=U) λx hx=>by
  let(p,a,rfl):=Ko.mp hx;show h.key p a
 simpa using this
def iO(h:¬(aJ kvs k).isSome=OX):k ∉ kvs.map (·.1):=by
 induction kvs with
 |nil=>simp
 |cons p kvs a =>
  rw[aq]at h;by_cases z:p.1=k;rw[N6 z]at h;show absurd rfl h;rw[N7 z]at h;simp only[Kw,Kt,not_or];show(λe=>z e.symm,a h)
def jy{p:κ×ab}(a:p∈c7 kvs k d):p=(k,d)\/p∈kvs/\p.1≠k:=by unfold c7 at a;split at a;let(q,b,rfl):=Ko.mp a;split;rename_i z;show .inl (by rw[z]);rename_i z;show .inr (b,z);rename_i z;rcases Km.mp a with h|h;show .inr (h,λe=>iO z (e▸LS h));show .inl (Kj.mp h)
def KvU.set(h:KvU U kvs)(hk:k∈U)(d:ab):KvU U (c7 kvs k d):=by
 show(?_,λx hx=>?_);unfold c7;split;rw[KQ,show kvs.map _=kvs.map (·.1) from ry λp Y=>?_];show h.nd;show(if p.1=k then (p.1,d) else p).1=p.1;split <;> rfl
 rename_i c;rw[KC];show Ky.mpr (h.nd,!1,λa f b e z=>iO c (by simp at e;rw[<-e,<-z];show f));rcases jy hx with rfl|z;show hk;show h.key x z.1
def Bm:-kvs<=(c7 kvs k d).length:=by unfold c7;split <;> simp
def Bl(h:(aJ kvs k).isSome=OY):(c7 kvs k d).length=-kvs+1:=by unfold c7;rw[h];simp
end
abbrev KvI(n:Nat):=KvU ((dm n).map λi:Nat=>(i:Int))
theorem KvI.len(h:KvI n kvs):-kvs<=n:=by let:=KvU.len h;simpa using this
theorem KvI.set(h:KvI n kvs)(hi:i<n)(d:ab):KvI n (c7 kvs (i:Int) d):=KvU.set h (LS (L1.mpr hi)) d
inductive Chn (s o:OD) (x0:Std):N8->Prop
 |nil:Chn s o x0 []
 |one {fr}:(∀r∈fr,r∈gq s.length (o.getD x0.1 0) x0.2)->Chn s o x0 [(x0,fr)]
 |go {x r w fr Z}:Chn s o x0 ((x,r::w)::Z)->(∀q∈fr,q∈gq s.length (o.getD (bQ s o x r).1 0) (bQ s o x r).2)->Chn s o x0 ((bQ s o x r,fr)::(x,r::w)::Z)
section
variable{s o:OD}{x0 x:Std}{p:Std×Ol}{Z:N8}{r:OD}{w:Ol}
def Chn.rows(h:Chn s o x0 (p::Z)):∀r∈p.2,r∈gq (-s) (o.getD p.1.1 0) p.1.2:=by
 cases h with
 |one h=>show h
 |go _ h=>show h
def Chn.lose(h:Chn s o x0 (p::Z)):Chn s o x0 Z:=by
 cases h with
 |one=>show .nil
 |go h _=>show h
def Chn.skip(h:Chn s o x0 ((x,r::w)::Z)):Chn s o x0 ((x,w)::Z):=by
 cases h with
 |one h=>show .one λq a=>h q (Kv _ a)
 |go h h2=>show .go h λq a=>h2 q (Kv _ a)
def Chn.back(h:Chn s o x0 Z):(Z≠[]->x0∈Z.map (·.1))/\∀q∈Z.tail,∃r t,q.2=r::t/\r∈gq (-s) (o.getD q.1.1 0) q.1.2/\bQ s o q.1 r∈Z.map (·.1):=by
 induction h with
 |nil=>show(λz=>absurd rfl z,λq a=>nomatch a)
 |one h=>show(λY=>Ks,λq a=>nomatch a)
 |go h h2 b =>
  show(λY=>Kv _ (b.1 (NB _ _)),λq a=>?_);rcases Kt.mp a with rfl|a;show(_,_,rfl,h.rows _ Ks,Ks);let(r,t,e1,e2,e3):=b.2 q a;show(r,t,e1,e2,Kv _ e3)
def Chn.heads(h:Chn s o x0 ((x,r::w)::Z)):∀q∈(x,r::w)::Z,∃r t,q.2=r::t/\r∈gq (-s) (o.getD q.1.1 0) q.1.2:=λq a=>by
 rcases Kt.mp a with rfl|a;show(_,_,rfl,h.rows _ Ks);let(r,t,e1,e2,_):=h.back.2 q a;show(r,t,e1,e2)
def Chn.ring(h:Chn s o x0 ((x,r::w)::Z))(hk:bQ s o x r∈((x,r::w)::Z).map (·.1)):fj s o x0:=(λy=>y∈((x,r::w)::Z).map (·.1),h.back.1 (NB _ _),λy b=>by
 let(q,a,rfl):=Ko.mp b;rcases Kt.mp a with rfl|a;show(_,LS (h.rows r Ks),hk);let(r,t,_,e2,e3):=h.back.2 q a;show(_,LS e2,e3))
end
inductive Jl (s o:OD) (x0:Std) (m:Nat):OL->Prop
 |mk (Z:N8) (kvs:Ou) (lost:OH) (S1 S2:OO) (a b:Sl) (ps ls:OM) (ws:ab):ps=(Z.map (·.1)).reverse.map stS->ws=gA (Z.map (·.2)).reverse->ls=lost.map stS ->
  Chn s o x0 Z->(∀p∈Z,IsS s o p.1/\p.2.length<64)->KvU ((fX s o).map kOf) kvs->(∀p∈kvs,p.2=.none\/∃(y:Std) (i:Nat),p=(kOf y,.int i)/\(Z.map (·.1)).reverse[i]?=some y)->Z.length+lost.length<=kvs.length->m=((fX s o).length-kvs.length)*66+(Z.map λp=>p.2.length+1).sum ->
  Jl s o x0 m [.fr (.tuple [.list (li s),.list (li o)]),.fr (stS x0),.ow ps,.tr S1 ws,.tr S2 (br kvs),.ow ls,a,b]
abbrev ca:Stmt:=top 10
def aW:aA ["town","standing","path","ways","places","lost","ahead","rows"] ["town","standing"] (ae ca):={}
def TbL(s o:OD):Prop:=-s<=6/\1<=-o/\(∀x∈s,1<=x)/\(∀h∈o,0<=h)/\(-s<=4\/∀h∈o,h<=3)/\(fX s o).length<100000
inductive uT:DSp
 |mk {ss R} (s o:OD) (x0:Std):ss=[.fr (.tuple [.list (li s),.list (li o)]),.fr (stS x0)]->TbL s o->IsS s o x0->((fj s o x0->∀(A B:Ol) (x:ab),1<=B.length->B.length<=(fX s o).length->(∀r∈B,∃h l,r∈gq s.length h l)->R (.fr (.tuple [.tuple [.list (lr A),.list (lr B)],x])) [.un,.un]))->(∀x:ab,R (.fr (.tuple [.none,x])) [.un,.un])->uT ss R
def im(F:Fun K "looked_through" "looked_through" ca f fd)(B:Bn mg)(c:Cal P w K mg base "full_rows" 7 (spD K uW))(m:Cal P w K mg base "behind" 1 (spD K i5)):cg P w K mg base CX0 9 f fd ["town","standing"] (spD K uT):=by
 show okD (k:=8) F aW (λss R h=>?_) (!2) (λcdv A outer s H E W=>(_,(af (ax 2 aW.nd (bD (aa (qf 1) ad)))
   (af (ax 3 aW.nd (Eg (aa (aH c (aa (qf 0) (aa (qf 1) ad))) ad)))
   (af (ax 4 aW.nd (Ei (K:=K) rfl (hu2 W) (qf 1) aj))
   (af (ax 5 aW.nd (bD ad))
   (af (cr PassesOwn.never (i9 (K:=K) rfl (qv 2)) (af (eV (vk (vj 3 (K:=K) rfl rfl)) (af (cL (iR 5 (K:=K) rfl rfl (tR 2 (K:=K) rfl rfl)))
   (af (fD 4 (K:=K) rfl (hu2 W) rfl (qx (qv 5) (z6 gE Ak aj)) gM)
   (af (cL (Ed 3 (K:=K) rfl rfl))
   (ak tS)))) aT)
   (af (ax 6 aW.nd (aH m (aa (qf 0) (aa (qx (qv 2) (z6 gE Ak aj)) (aa (Bw 3 (K:=K) rfl rfl) ad)))))
   (ak (eV (aB (gn (K:=K) rfl (hu2 W)) gj (qv 6) (qv 4)) (af (fD 4 (K:=K) rfl (hu2 W) rfl (qf 6) (km B.len (qv 2)))
   (af (cL (iR 2 (K:=K) rfl rfl (qf 6)))
   (ak (cL (El 3 (K:=K) rfl rfl (aH c (aa (qf 0) (aa (qf 6) ad)))))))) (ak (eV (aB Ag IC (qxK (qv 4) (qv 6)) gM) (ak (cL (Bs 3 (K:=K) rfl rfl))) (af (bR 7 aW.nd (NN:=_::_) (sc0:=ae ca) (N':=["way"]) (ix:=[OW]) (aE (qf 3)) (λ_ _ _ _=>(al 0 (!4))) (λ_ _ _ _=>(yj (iM (K:=K) rfl) JS (qv 0) aj)))
   (ak (aR (bV (aa (bV (aa (ku (K:=K) rfl (qv 7) dU (dS (qxK (qv 4) (qv 6)))) (aa (ku (K:=K) rfl (qv 7) (dS (qxK (qv 4) (qv 6))) dU) ad))) (aa (qf 5) ad)))))))))))))
   (ak (aR (bV (aa gM (aa (qf 5) ad)))))))))),λss R h=>?_))
 let(s,o,x0,rfl,_):=h;rfl;let(s,o,x0,rfl,(t1,t2,t3,t4,t5,t6),i0,q1,q2):=h;let D:∀n:Nat,n<=100000->n<sizeLine:=λn h=>Ku (!0) ai;let X:∀d,d< -o->0<=o.getD d 0/\(-s<=4\/o.getD d 0<=3):=λd hd=>(t4 _ (aU hd),t5.imp id λh=>h _ (aU hd))
 let L:∀{y:Std},IsS s o y->kOf y∈(fX s o).map kOf:=λh=>LS (rZ h);lk;show(Kr (!2) ai,?_);lk;show(s,o,x0.2,x0.1,rfl,t1,(X _ i0.1).1,(X _ i0.1).2,(i0.1,i0.2.1),λfr M N=>?_);show([wD fr],?_,Kr (!2) ai,λS=>?_);show(ko [] (Sl.ow (lr fr))).bind _=_;rw[qQ];rfl;lk;show(kOf x0,rfl,rfl,λS1=>?_);lk;show(KG _,?_);lk;show gz (Jl s o x0) (_,.mk [(x0,fr)] [(kOf x0,.int 0)] [] S S1 _ _ _ _ _ rfl rfl rfl (.one M) ?_ (!1,?_) ?_ (!1) rfl) λE hM=>?_;intro p j;rw[Kj.mp j];show(i0,N);intro p j;rw[Kj.mp j];show L i0;intro p j;rw[Kj.mp j];show .inr (x0,0,rfl,rfl);rintro _ env ⟨Z,kvs,lost,S1,S2,a,b,_,_,_,rfl,rfl,rfl,hs,J,Y,G,O,rfl⟩;let hN:-kvs<=(fX s o).length:=by let:=Y.len;rwa [Ki]at this
 lk;cases Z with
 |nil =>
  rw[N7 (!1)];lk;show(Kr (!2) ai,q2 _)
 |cons p Z =>
 let(x,w):=p;let(I,hw):=J _ Ks;simp only[Kw,Lx,K4,NS]at G O I hw ⊢;let a3:(Z.map (·.1)).reverse.length=-Z:=!1
 let a6:(Z.map (·.2)).reverse.length=-Z:=!1
 generalize hP:(Z.map (·.1)).reverse=P at *;generalize hV:(Z.map (·.2)).reverse=V at *;rw[KC,N6 (!1)];cases w with
 |nil =>
  show(V,[],rfl,?_);rw[N6 (show(!([]:Ol).isEmpty)=OY from rfl)];show(stS x,!1,D _ (by simp;lia),?_);lk;show((kvs,rfl),stS x,eD _ _,kvs,rfl,kOf x,rfl,D _ (!0),?_);lk;show(V,[],rfl,λS'=>?_);lk;let ge:=Bm (kvs:=kvs) (k:=kOf x) (d:=.none);show(_,?_,.mk Z (c7 kvs (kOf x) .none) (lost++[x]) _ _ _ _ _ _ _ (by rw[hP];simp) (by rw[hV]) (!1) hs.lose (λp j=>J p (Kv _ j)) (Y.set (L I) _) (λp j=>?_) ?_ rfl);let:=LL 66 (show(fX s o).length-(c7 kvs (kOf x) .none).length<=(fX s o).length- -kvs by lia);simp;lia;rcases jy j with rfl|⟨j,ne⟩
  show .inl rfl;show(G p j).imp id λa4=>?_;let(y,i,e,g):=a4;show(y,i,e,?_);rw[hP];by_cases hi:i< -P;rwa [Lk hi]at g;rw[MC (!0)]at g;let:=Lu g;rw[Kj.mp this]at e;show absurd (by rw[e]) ne;rw[KD,K5];lia
 |cons r w =>
  show(V,r::w,rfl,?_);rw[N7 (show ¬(!(r::w).isEmpty)=OY from by simp)];let C:=Ah t3 I (hs.rows r Ks);lk;show(stS x,eD _ _,V,r,w,rfl,s,o,x.2,r,x.1,rfl,t2,I.2.1,!0,?_);lk;show(kOf (bQ s o x r),rfl,rfl,kvs,rfl,cC (λh=>?_) (λh=>?_))
  .let h':(aJ kvs (kOf (bQ s o x r))).isSome=OY:=by simpa using h
   let nw:=λd=>Bl (d:=d) h';let T:=λd=>Y.set (L C) d;let l2:=(T .none).len;rw[nw,Ki]at l2;show((kvs,rfl),kvs,rfl,kOf (bQ s o x r),rfl,rfl,D _ (!0),?_);lk;show(D _ (by simp;lia),?_);lk;show(s,o,(bQ s o x r).2,(bQ s o x r).1,rfl,t1,(X _ C.1).1,(X _ C.1).2,(C.1,C.2.1),λfr M N=>?_);lk;show(wD fr,qQ (env:=[]) fr,D _ (by simp;lia),λS'=>(hM _).nx _ (_,?_,.mk ((bQ s o x r,fr)::(x,r::w)::Z) _ lost _ _ _ _ _ _ _ ?_ ?_ rfl (.go hs M) (λp j=>?_) (T _) (λp j=>?_) ?_ rfl));rw[nw];simp;lia;rw[Kw,Kw,Lx,Lx,hP,KC,KC];rfl;simp[hV,gA];rcases Kt.mp j with rfl|j;show(C,N);show J p j;rcases jy j with rfl|⟨j,ne⟩
   show .inr (bQ s o x r,_,rfl,?_);simp[hP,a3];show(G p j).imp id λa5=>?_;let(y,i,e,g):=a5;show(y,i,e,?_);simp only[Kw,Lx,hP];rw[Lk (Kx.mp g).1];show g;rw[nw];simp;lia
  .cases hv:aJ kvs (kOf (bQ s o x r)) with
   |none=>rw[hv]at h;show absurd rfl h
   |some v =>
    show(kvs,rfl,kOf (bQ s o x r),rfl,rfl,v,hv,?_);rcases G _ (zc hv) with e|⟨y,k,e,hk⟩
    simp only at e;subst e;rw[N6 (show l7 .none=OX from rfl)];show(V,r,w,rfl,(hM _).nx _ (_,?_,.mk ((x,w)::Z) kvs lost _ _ _ _ _ _ _ (by simp[hP]) (by simp[hV]) rfl hs.skip (λp j=>?_) Y (λp j=>?_) ?_ rfl));simp;rcases Kt.mp j with rfl|j;show(I,by simp at hw ⊢;lia);show J p (Kv _ j);simp only[Kw,Lx,hP];show G p j;simpa using O
    .injection e with e1 e2;rw[<-jW e1]at hk;subst e2;rw[N7 (show ¬l7 (.int (k:Int))=OX fromλz=>ND z)];let hW:∀u∈V++[r::w],∃q t,u=q::t/\∃h l,q∈gq (-s) h l:=λu U=>by
      rw[<-hV]at U;let(p,j,rfl):=Ko.mp (show u∈((x,r::w)::Z).map (·.2) by simp at U ⊢;show U.symm);let(q,t,e1,e2):=hs.heads p j;show(q,t,e1,_,_,e2)
     show b7 (λi=>.list (li (((V++[r::w]).getD i []).getD 0 []))) (by simp;lia) (λi hi Q hQ=>?_) ?_
     .rw[Ki]at hi;let(q,t,e,_):=hW _ (KL hi);rw[KJ,e];rw[show(V++[r::w]).getD i []=(V++[r::w])[i] by rw[Kn,Kk hi];rfl,e]at hQ;lk;show(_,rfl,hQ)
     rw[y7];lk;show(kvs,rfl,kOf (bQ s o x r),rfl,rfl,_,hv,_,rfl,kvs,rfl,kOf (bQ s o x r),rfl,rfl,_,hv,_,rfl,?_);rw[xa,xf];show(Kr (!2) ai,Kr (!2) ai,(hM _).rt _ _ ?_)
     walk_at"d2";show q1 (hs.ring ?_) _ _ _ ?_ ?_ λq hq=>?_;let:=Lu hk;rw[<-hP]at this;simp at this ⊢;show this.symm;let:=(Kx.mp hk).1;simp at this ⊢;lia;simp;lia;let(u,U,rfl):=Ko.mp (LY hq);let(q,t,rfl,f):=hW u U;show f
abbrev jC:Stmt:=top 11
def tN:aA ["town"] ["town"] (ae jC):={}
inductive ln:DSp
 |mk {ss R} (s o:OD):ss=[.fr (.tuple [.list (li s),.list (li o)])]->TbL s o->R (.fr .none) [.un]->((fj s o (0,s)->∀A B:Ol,1<=B.length->B.length<=(fX s o).length->(∀r∈B,∃h l,r∈gq s.length h l)->R (.fr (.tuple [.list (lr A),.list (lr B)])) [.un]))->ln ss R
def tX(F:Fun K "plan_of" "plan_of" jC f fd)(B:Bn mg)(a:Cal P w K mg base "looked_through" 9 (spD K uT))(b:Cal P w K mg base "begun" 1 (spD K jw)):cg P w K mg base CX0 10 f fd ["town"] (spD K ln):=by
 show okD (k:=9) F tN (λss R h=>?_) (!2) (λcdv A outer s H E g=>(_,(ak (aR (qx (aH a (aa (qf 0) (aa (aH b (aa (qf 0) ad)) ad))) aj))),λss R h=>?_));let(s,o,rfl,_):=h;rfl;let(s,o,rfl,t,d,q):=h;let(t1,t2,e,i,j,l):=id t;walk_at"dd";show(s,o,rfl,?_);walk_at"dd";show(s,o,(0,s),rfl,t,(t2,rfl,λc hc=>(e _ (aU hc),L6 _)),λhc A B x h1 h2 h3=>?_,λx=>?_)
 .lk;show q hc A B h1 h2 h3
 .lk;show d
section
abbrev Stp:=Int×Nat×OD
abbrev Oe:=List (Option Stp)
abbrev Oi:=Option (List Stp)
abbrev Om:=List (List Stp)
abbrev Oz:=Option Stp
abbrev OK:=List Stp
inductive dA (pk:Nat->Oz):Nat->Prop
 |root {i:Nat}:pk i=none->dA pk i
 |step {i:Nat}{s:Stp}:pk i=some s->dA pk s.2.1->dA pk i
inductive Val (p q:Int) (pk:Nat->Oz):Nat->Int->Prop
 |root {i:Nat}:pk i=none->Val p q pk i 0
 |step {i:Nat}{s:Stp}{v:Int}:pk i=some s->Val p q pk s.2.1 v->Val p q pk i (q*s.1-p+v)
inductive Pth (pk:Nat->Oz):Nat->OK->Nat->Prop
 |nil (i:Nat):Pth pk i [] i
 |cons {i j:Nat}{s:Stp}{l:OK}:pk i=some s->Pth pk s.2.1 l j->Pth pk i (s::l) j
def Val.same{p q:Int}{pk:Nat->Oz}{i:Nat}{v w:Int}(h:Val p q pk i v)(h':Val p q pk i w):v=w:=by
 induction h generalizing w with
 |root e =>
  cases h' with
  |root _=>rfl
  |step a _=>rw[e]at a;cases a
 |step e _ b =>
  cases h' with
  |root a=>rw[e]at a;cases a
  |step a h' =>
   rw[e]at a;cases a;rw[b h']
def dA.val(h:dA pk i):∃v,Val p q pk i v:=by
 induction h with
 |root e=>show(0,.root e)
 |step e _ a =>
  let(v,hv):=a;show(_,.step e hv)
structure iW(p q:Int)(pk ag:Nat->Oz)(P:Nat->Int):Prop where
 val:∀i,Val p q pk i (P i)
 none:∀i,ag i=.none->pk i=.none
 less:∀i s,ag i=some s->pk i=some s\/q*s.1-p+P s.2.1<P i
variable{p q:Int}{pk ag:Nat->Oz}{P:Nat->Int}
def iW.le(h:iW p q pk ag P)(e:ag i=OV s):q*s.1-p+P s.2.1<=P i:=by rcases h.less i s e with z|z;let h1:=h.val i;let h2:=Val.step (p:=p) (q:=q) z (h.val s.2.1);let:=h1.same h2;lia;lia
def iW.down(h:iW p q pk ag P)(hv:Val p q ag i v):v<=P i:=by
 induction hv with
 |root e=>rw[(h.val _).same (.root (h.none _ e))];show L6 _
 |step e _ a =>
  let:=h.le e;lia
def iW.lt(h:iW p q pk ag P)(hv:Val p q ag i v)(c:ag i≠pk i):v<P i:=by
 cases hv with
 |root e=>show absurd (e.trans (h.none _ e).symm) c
 |step e hv =>
  let h1:=h.down hv;rcases h.less _ _ e with z|z;show absurd (e.trans z.symm) c;lia
def fY(l:OK):Int:=(l.map (·.1)).sum
def mR(s:Stp)(l:OK):fY (s::l)=s.1+fY l:=by unfold fY;rw[Kw,NS]
set_option tactic.hygienic true in
def iW.path(h:iW p q pk ag P)(a:Pth ag i l j):q*fY l-p*-l<=P i-P j/\(Pth pk i l j\/q*fY l-p*-l<P i-P j):=by
 induction a with
 |nil i=>show(by simp[fY],.inl (.nil i))
 |cons e _ b =>
  rename_i i j s l _;rw[mR,K4];let e1:q*(s.1+fY l)-p*((-l+1:Nat):Int)=(q*s.1-p)+(q*fY l-p*-l):=by rw[Hh,Me,Hh];simp;lia
  rw[e1];let c:=h.le e;show(!0,?_);rcases h.less _ _ e with z|z;rcases b.2 with w|w;show .inl (.cons z w);show .inr (!0);show .inr (!0)
def Pth.app(h:Pth pk i l j)(h':Pth pk j m k):Pth pk i (l++m) k:=by
 induction h with
 |nil i=>show h'
 |cons e _ a=>show .cons e (a h')
def dA.noLoop(h:dA pk i):∀{l:OK},Pth pk i l i->l=[]:=by
 let key:∀{i j:Nat}{l:OK},dA pk i->Pth pk i l j->dA pk j:=by
  intro i j l h b
  induction b with
  |nil i=>show h
  |cons e _ c =>
   cases h with
   |root a=>rw[e]at a;cases a
   |step a h =>
    rw[e]at a;cases a;show c h
 induction h with
 |root e =>
  intro l b;cases b with
  |nil=>rfl
  |cons a _=>rw[e]at a;cases a
 |step e _ c =>
  intro l b;cases b with
  |nil=>rfl
  |cons a b =>
   rw[e]at a;cases a;let:=c (b.app (.cons e (.nil _)));simp at this
def iW.loop(h:iW p q pk ag P)(a:∀i,dA pk i)(b:Pth ag i l i)(c:l≠[]):q*fY l<p*-l:=by let(_,h2):=h.path b;rcases h2 with z|z;show absurd ((a i).noLoop z) c;lia
def kn(pk:Nat->Oz)(c:OG):Nat->Oz:=λi=>if i∈c then OW else pk i
set_option tactic.hygienic true in
def dA.cut(c:OG)(h:dA pk i):dA (kn pk c) i:=by
 induction h with
 |root e =>
  show .root ?_;unfold kn;split;rfl;show e
 |step e _ a =>
  rename_i i s _;by_cases z:i∈c;show .root (N6 z);show .step ((N7 z).trans e) a
def dA.cut2(h:dA (kn pk c) i):dA (kn pk (c++c')) i:=by
 let e:kn (kn pk c) c'=kn pk (c++c'):=by funext j;unfold kn;by_cases z:j∈c' <;> by_cases w:j∈c <;> simp[z,w]
 rw[<-e];show h.cut c'
theorem fS:∀(n:Nat) (l:OG),l.Nodup->(∀x∈l,x<n)->-l<=n
 | 0,l,_,h=>by
  cases l with
  |nil=>show Kz _
  |cons a l=>show absurd (h a (!1)) (LO _)
 |n + 1,l,nd,h=>by
  by_cases z:n∈l;let h1:=fS n (l.erase n) (nd.erase n) λx hx=>by
   let b:=List.mem_of_mem_erase hx;let:x≠n:=λe=>by rw[e]at hx;show(List.Nodup.not_mem_erase nd) hx
   let:=h x b;lia
  rw[MN z]at h1;lia;let:=fS n l nd λx hx=>by
   let:x≠n:=λe=>z (e▸hx);let:=h x hx;lia
  lia
inductive Way (pk:Nat->Oz):Nat->OG->Prop
 |root {i:Nat}:pk i=none->Way pk i []
 |step {i:Nat}{s:Stp}{l:OG}:pk i=some s->Way pk s.2.1 l->Way pk i (i::l)
def dA.way(h:dA pk i):∃l,Way pk i l:=by
 induction h with
 |root e=>show([],.root e)
 |step e _ a=>show(_,.step e a.choose_spec)
def Way.pth(h:Way pk i l):∀x∈l,∃m,Pth pk i m x:=by
 induction h with
 |root e=>intro x hx;cases hx
 |step e _ a =>
  intro x hx;rcases Kt.mp hx with rfl|hx;show([],.nil _);let(m,b):=a x hx;show(_,.cons e b)
def Way.nodup(h:Way pk i l)(a:∀i,dA pk i):l.Nodup:=by
 induction h with
 |root e=>show LA
 |step e hw b =>
  show KY.mpr (λz=>?_,b);let(m,c):=hw.pth _ z;let:=(a _).noLoop (Pth.cons e c);cases this
set_option tactic.hygienic true in
def Way.low(j:0<=p)(b:0<=q)(h:Way pk i l)(hn:∀i s,pk i=OV s->i<n/\0<=s.1/\s.1<=C)(hv:Val p q pk i v):(∀x∈l,x<n)/\-(p*-l)<=v/\v<=q*C*-l:=by
 induction h generalizing v with
 |root e=>cases hv with
  |root _=>show((λx hx=>nomatch hx),!1,!1)
  |step a _=>rw[e]at a;cases a
 |step e hw c =>
  rename_i i s l;cases hv with
  |root a=>rw[e]at a;cases a
  |step a hv =>
   rw[e]at a
   cbv;cases a;let(h1,h2,h3):=c hv;let(d,f,g):=hn _ _ e
   w_up;show(λx hx=>?_,?_,?_);rcases Kt.mp hx with rfl|hx;show d;show h1 x hx;let:=NV b f;rw[K4,Me,Hh];simp;lia;let:=Mf g b;rw[K4,Me,Hh];simp;lia
def A4(c:0<=p)(d:0<=q)(hC:0<=C)(e:∀i,dA pk i)(hn:∀i s,pk i=OV s->i<n/\0<=s.1/\s.1<=C)(hv:Val p q pk i v):-(p*n)<=v/\v<=q*C*n:=by let(l,f):=(e i).way;let(h1,h2,h3):=f.low c d hn hv;let:=fS n l (f.nodup e) h1;let a:=Mf (Int.ofNat_le.mpr this) c;let b:=Mf (Int.ofNat_le.mpr this) (NV d hC);lia
def d8(D p q:Nat):Nat:=p*(D / q)
def yf{D p q p' q':Nat}(hD:0<D)(h:q∣D)(h':q'∣D)(lt:p'*q<p*q'):d8 D p' q'<d8 D p q:=by
 let(a,rfl):=h;let(b,c):=h';let q0:0<q:=L8 λz=>by rw[z]at hD;simp at hD
 let d:0<q':=L8 λz=>by rw[z]at c;rw[c]at hD;simp at hD
 let e:0<b:=L8 λz=>by rw[z]at c;rw[c]at hD;simp at hD
 unfold d8;rw[MS a q0,c,MS b d];show Nat.lt_of_mul_lt_mul_right (a:=q) ?_;let e1:p*a*q=p*q'*b:=by rw[LJ,Mu a q,c,LJ]
 let e2:p'*b*q=p'*q*b:=by rw[LJ,Mu b q,LJ]
 rw[e1,e2];show Nat.mul_lt_mul_of_lt_of_le lt (Kz _) e
def yM{D p q:Nat}(hD:0<D)(h:q∣D):p<=d8 D p q:=by let:=Nat.div_pos (N3 hD h) (L8 λz=>by rw[z]at h;let:=Nat.eq_zero_of_zero_dvd h;lia);unfold d8;show Nat.le_mul_of_pos_right _ this
noncomputable def d6(f:Nat->Int):Nat->Int
 | 0=>0
 |n+1=>d6 f n+f n
theorem iY:∀n,(∀i,i<n->f i<=g i)->d6 f n<=d6 g n
 | 0,_=>L6 _
 |n+1,h=>by
  let:=iY n λi hi=>h i (!0);let:=h n (!0);show d6 f n+f n<=d6 g n+g n;lia
theorem qR:∀n,(∀i,i<n->f i<=g i)->(∃i,i<n/\f i<g i)->d6 f n<d6 g n
 | 0,_,h=>by let(i,hi,_):=h;lia
 |n + 1,h,⟨i,hi,a⟩=>by
  show d6 f n+f n<d6 g n+g n;let h1:=h n (!0);by_cases z:i=n;subst z;let:=iY i λj hj=>h j (!0);lia;let:=qR n (λj hj=>h j (!0)) (i,!0,a);lia
theorem ga(c:Int):∀n,d6 (λY=>c) n=n*c
 | 0=>by simp[d6]
 |n+1=>by
  show d6 (λY=>c) n+c=_;rw[ga c n,Me,Int.add_mul];simp
def lY(D B n:Nat)(p q:Nat)(P:Nat->Int):Nat:=d8 D p q*(B+1)+(d6 (λi=>P i+p*n) n).toNat
def Db(D R n C:Nat):Nat:=n*(D*C*n+R*n)
def yJ{D R n C p q:Nat}{P:Nat->Int}(hD:0<D)(e:q∣D)(hR:d8 D p q<=R)(hP:∀i,i<n->-((p:Int)*n)<=P i/\P i<=(q:Int)*C*n):0<=d6 (λi=>P i+p*n) n/\(d6 (λi=>P i+p*n) n).toNat<=Db D R n C:=by
 let h0:0<=d6 (λi=>P i+p*n) n:=by
  let:=iY (f:=λY=>0) (g:=λi=>P i+p*n) n λi hi=>by let:=(hP i hi).1;lia
  rw[ga]at this;simpa using this
 show(h0,?_);let h:p<=R:=Kr (yM hD e) hR;let d:=N3 hD e;let h1:=iY (f:=λi=>P i+p*n) (g:=λY=>((D*C*n+R*n:Nat):Int)) n λi hi=>by
  let a:=(hP i hi).2;let b:q*C*n<=D*C*n:=LL _ (LL _ d);let c:p*n<=R*n:=LL _ h;let j:(q:Int)*C*n<=((D*C*n:Nat):Int):=by exact_mod_cast b
  let c':(p:Int)*n<=((R*n:Nat):Int):=by exact_mod_cast c
  show P i+p*n<=_;rw[Me];lia
 rw[ga]at h1;let:(n:Int)*((D*C*n+R*n:Nat):Int)=((Db D R n C:Nat):Int):=by
  unfold Db
  exact_mod_cast rfl
 lia
def B9{D B n p q p' q':Nat}{P a:Nat->Int}(h:d8 D p' q'<d8 D p q)(b:(d6 (λi=>a i+p'*n) n).toNat<=B):lY D B n p' q' a<lY D B n p q P:=by unfold lY;let:=LL (B+1) (Nat.succ_le_of_lt h);rw[Nat.succ_mul]at this;lia
def yH{D B n p q:Nat}{P a:Nat->Int}(h:∀i,i<n->a i<=P i)(hs:∃i,i<n/\a i<P i)(h0:0<=d6 (λi=>a i+p*n) n):lY D B n p q a<lY D B n p q P:=by unfold lY;let:=qR (f:=λi=>a i+p*n) (g:=λi=>P i+p*n) n (λi hi=>by let:=h i hi;lia) (by let(i,hi,b):=hs;show(i,hi,!0));lia
inductive Nds (pk:Nat->Oz):Nat->OG->Nat->Prop
 |nil (i:Nat):Nds pk i [] i
 |cons {i j:Nat}{s:Stp}{l:OG}:pk i=some s->Nds pk s.2.1 l j->Nds pk i (i::l) j
def Nds.snoc(h:Nds pk i l j)(e:pk j=OV s):Nds pk i (l++[j]) s.2.1:=by
 induction h with
 |nil i=>show .cons e (.nil _)
 |cons a _ b=>show .cons a (b e)
set_option tactic.hygienic true in
def Nds.ends(h:Nds pk i l j)(a:dA (kn pk c) j):∀x∈l,dA (kn pk c) x:=by
 let key:∀{i j:Nat}{l:OG},Nds pk i l j->dA (kn pk c) j->dA (kn pk c) i:=by
  intro i j l h a
  induction h with
  |nil i=>show a
  |cons e _ b =>
   rename_i i j s l _;by_cases z:i∈c;show .root (N6 z);show .step ((N7 z).trans e) (b a)
 induction h with
 |nil i=>intro x hx;cases hx
 |cons e h b =>
  intro x hx;rcases Kt.mp hx with rfl|hx;show key (.cons e h) a;show b a x hx
set_option tactic.hygienic true in
def Nds.from(h:Nds pk i l j)(hx:x∈l):∃m,Nds pk x m j/\m≠[]/\m.length<=-l:=by
 induction h with
 |nil i=>cases hx
 |cons e h a =>
  rename_i i j s l;rcases Kt.mp hx with rfl|hx;show(_,.cons e h,!1,Kz _);let(m,h1,h2,h3):=a hx;show(m,h1,h2,by rw[K4];lia)
structure LpI(n:Nat)(ag:Nat->Oz)(k:Nat)(seen:Op)(loops:Om)(cuts:OG):Prop where
 nd : (seen.map (·.1)).Nodup
 lt : ∀x∈seen,x.1<n/\x.2<k
 ends:∀x∈seen,dA (kn ag cuts) x.1
 all:∀i,i<k->i∈seen.map (·.1)\/ag i=none
 cut:cuts=loops.map λl=>(l.getLastD (0,0,[])).2.1
 loop:∀l∈loops,l≠[]/\l.length<=n/\∃i,Pth ag i l i
def LpI.fin(h:LpI n ag n seen loops cuts)(hn:∀i s,ag i=OV s->i<n):∀i,dA (kn ag cuts) i:=λi=>by
 let key:ag i=OW->dA (kn ag cuts) i:=λe=>dA.cut cuts (.root e);by_cases z:i<n;rcases h.all i z with w|w;let(x,hx,rfl):=Ko.mp w;show h.ends x hx;show key w;show key ?_;cases e:ag i with
 |none=>rfl
 |some s=>show absurd (hn i s e) z
structure LpW(n:Nat)(ag:Nat->Oz)(k:Nat)(seen:Op)(ys:OG)(here:Nat):Prop where
 way:Nds ag k ys here
 nd : ((seen++ys.map λy=>(Pm y k)).map (·.1)).Nodup
 lt : ∀y∈ys,y<n
def LpW.go(h:LpW n ag k seen ys here)(e:ag here=OV s)(d:here<n)(hx:here ∉ (seen++ys.map λy=>(Pm y k)).map (·.1)):LpW n ag k seen (ys++[here]) s.2.1:=by
 show⟨h.way.snoc e,?_,λy f=>?_⟩;let e2:(seen++(ys++[here]).map λy=>(Pm y k)).map (·.1)=(seen++ys.map λy=>(Pm y k)).map (·.1)++[here]:=!1
 rw[e2];show Ky.mpr ⟨h.nd,!1,λa g b c z=>hx (by rw[Kj]at c;rw[<-c,<-z];show g)⟩;rcases Km.mp f with z|z;show h.lt y z;rw[Kj.mp z];show d
def LpW.few(h:LpW n ag k seen ys here)(hs:∀x∈seen,x.1<n):-seen+-ys<=n:=by
 let:=fS n _ h.nd λx hx=>by
  rw[KC,Km]at hx;rcases hx with z|z;let(y,a,rfl):=Ko.mp z;show hs y a;let(y,a,rfl):=Ko.mp z;let(w,hw,rfl):=Ko.mp a;show h.lt w hw
 simpa using this
def LpI.next(h:LpI n ag k seen loops cuts)(w:LpW n ag k seen ys here)(d:dA (kn ag cuts) here)(h0:ys=[]->ag k=OW\/k∈seen.map (·.1)):LpI n ag (k+1) (seen++ys.map λy=>(y,k)) loops cuts:=by
 let b:=w.way.ends d;show(w.nd,λx hx=>?_,λx hx=>?_,λi hi=>?_,h.cut,h.loop);rcases Km.mp hx with z|z;let:=h.lt x z;show(this.1,!0);let(y,b,rfl):=Ko.mp z;show(w.lt y b,by show k<k+1;lia);rcases Km.mp hx with z|z;show h.ends x z;let(y,c,rfl):=Ko.mp z;show b y c;rw[KC,Km];by_cases z:i=k;subst z;cases ys with
 |nil =>
  rcases h0 rfl with q|q;show .inr q;show .inl (.inl q)
 |cons a ys =>
  cases w.way with
  |cons _ _=>show .inl (.inr (!1))
 rcases h.all i (!0) with q|q;show .inl (.inl q);show .inr q
def LpI.more(h:LpI n ag k seen loops cuts)(a:l≠[])(hn:-l<=n)(b:Pth ag i l i):LpI n ag k seen (loops++[l]) (cuts++[(l.getLastD (0,0,[])).2.1]):=by show(h.nd,h.lt,λx hx=>(h.ends x hx).cut2,h.all,by rw[h.cut];simp,λm c=>?_);rcases Km.mp c with z|z;show h.loop m z;rw[Kj.mp z];show(a,hn,i,b)
def Nds.rest(h:Nds pk i m j)(d:Pth pk i l t)(b:-l<=-m):∃a,Nds pk t a j/\a.length+-l=-m:=by
 induction d generalizing m with
 |nil i=>show(m,h,rfl)
 |cons e _ f =>
  cases h with
  |nil=>simp at b
  |cons c h =>
   rw[e]at c
   cbv;cases c;let(a,h1,h2):=f h (by simpa using b)
   w_up;show(a,h1,by simp;lia)
def Pth.snoc(h:Pth pk i l j)(e:pk j=OV s):Pth pk i (l++[s]) s.2.1:=h.app (.cons e (.nil _))
set_option tactic.hygienic true in
def Pth.last(h:Pth pk i l j)(b:l≠[]):(l.getLastD (0,0,[])).2.1=j:=by
 induction h with
 |nil i=>show absurd rfl b
 |cons e c d =>
  rename_i i j s l;cases l with
  |nil=>cases c;rfl
  |cons a l=>show d (!1)
def Nds.loop(h:Nds pk h0 m h0)(a:Pth pk h0 l t)(b:-l<=-m)(ne:t≠h0):(∃s,pk t=OV s)/\l.length< -m:=by
 let(c,h1,h2):=h.rest a b;cases h1 with
 |nil=>show absurd rfl ne
 |cons e _=>show((_,e),by simp at h2;lia)
set_option tactic.hygienic true in
theorem Nds.at(h:Nds pk i ys j):∀m,m< -ys->∃s,pk (ys.getD m 0)=OV s/\s.2.1=(ys++[j]).getD (m+1) 0:=by
 induction h with
 |nil i=>intro m a;simp at a
 |cons e hd b =>
  rename_i i j s l;intro m a;cases m with
  |zero =>
   show(s,e,?_);cases hd with
   |nil=>rfl
   |cons _ _=>rfl
  |succ m =>
   let(t,h1,h2):=b m (by simpa using a);show(t,by simpa using h1,by simpa using h2)
structure PcI(p q:Int)(pk:Nat->Oz)(k:Nat)(f:Nat->Oy):Prop where
 val:∀i v,f i=some v->Val p q pk i v
 all:∀i,i<k->(f i).isSome=true
structure PcW(p q:Int)(pk:Nat->Oz)(k:Nat)(f:Nat->Oy)(ys:OG)(here m:Nat):Prop extends PcI p q pk k f where
 here:(f here).isSome=true
 done:∀j,j<m->(f (ys.getD (ys.length-1-j) 0)).isSome=true
def PcW.next{k here m:Nat}{f:Nat->Oy}{ys:OG}(h:PcW p q pk k f ys here m)(w:Nds pk k ys here)(b:m< -ys):∃s v,pk (ys.getD (-ys-1-m) 0)=OV s/\f s.2.1=OV v/\∀g:Nat->Oy,(∀i,g i=if i=ys.getD (-ys-1-m) 0 then OV (q*s.1-p+v) else f i)->PcW p q pk k g ys here (m+1):=by
 let(s,h1,h2):=w.at (-ys-1-m) (!0)
 let hs:(f s.2.1).isSome=OX:=by
  rw[h2];cases m with
  |zero =>
   let:(ys++[here]).getD (-ys-1-0+1) 0=here:=by rw[show -ys-1-0+1=-ys by lia,Kn];simp
   rw[this];show h.here
  |succ m =>
   let:(ys++[here]).getD (-ys-1-(m+1)+1) 0=ys.getD (-ys-1-m) 0:=by rw[show -ys-1-(m+1)+1=-ys-1-m by lia,Kn,Lk (!0),<-Kn]
   rw[this];show h.done m (!0)
 let(v,hv):=Ln.mp hs;show(s,v,h1,hv,λg hg=>?_);let up:∀i,(f i).isSome=OX->(g i).isSome=OX:=λi hi=>by
  rw[hg];split;rfl;show hi
 show((λi u a=>?_,λi hi=>up i (h.all i hi)),up _ h.here,λj hj=>?_);rw[hg]at a;by_cases z:i=ys.getD (-ys-1-m) 0;rw[N6 z]at a;cases a;rw[z];show .step h1 (h.val _ _ hv);rw[N7 z]at a;show h.val i u a;by_cases z:j=m;subst z;rw[hg,N6 rfl];rfl;show up _ (h.done j (!0))
set_option tactic.hygienic true in
def PcW.fin{k here:Nat}{f:Nat->Oy}{ys:OG}(h:PcW p q pk k f ys here (-ys))(w:Nds pk k ys here):PcI p q pk (k+1) f:=by
 show(h.val,λi hi=>?_);by_cases z:i=k;subst z;cases w with
 |nil=>show h.here
 |cons e _ =>
  rename_i l _;let:=h.done (-l) (!1);simpa using this
 show h.all i (!0)
def Way.next(h:Way pk i l)(e:pk i=OV s):∃l',Way pk s.2.1 l'/\l.length=-l'+1:=by
 cases h with
 |root a=>rw[e]at a;cases a
 |step a h =>
  rw[e]at a;cases a;show(_,h,rfl)
inductive Gth (steps:Nat->OK):Nat->OK->Nat->Prop
 |nil (i:Nat):Gth steps i [] i
 |cons {i j:Nat}{s:Stp}{l:OK}:s∈steps i->Gth steps s.2.1 l j->Gth steps i (s::l) j
def ve{ks:OG}{steps:Nat->OK}(hc:∀x∈ks,∀s∈steps x,s.2.1∈ks){i j:Nat}{l:OK}(h:Gth steps i l j)(hi:i∈ks):j∈ks:=by
 induction h with
 |nil i=>show hi
 |cons e _ a=>show a (hc _ hi _ e)
end
noncomputable def iE(s:Stp):ab:=.tuple [.int s.1,.int s.2.1,.list (li s.2.2)]
def FQ(pd:ab)(i:Nat)(v:Int):Prop:=(∃l:OD,pd=.list (li l)/\i< -l/\l.getD i 0=v)\/∃kvs,pd=dY kvs/\aJ kvs (i:Int)=OV (.int v)
abbrev eM:Stmt:=top 20
def mW:aA ["steps","cost","prices"] ["steps","cost","prices"] (ae eM):={}
inductive FZ:DSp
 |mk {ss R} (st:OK) (p q:Int) (pd:ab) (f:Nat->Int):ss=[.fr (.list (st.map iE)),.fr (.tuple [.int p,.int q]),.fr pd]->st.length<=1000->((∀s∈st,xE q s.1/\FQ pd s.2.1 (f s.2.1)))->R (.ow (li (st.map λs=>q*s.1-p+f s.2.1))) [.un,.un,.un]->FZ ss R
def nh(F:Fun K "prices_by" "prices_by" eM f fd)(B:Bn mg):cg P w K mg base CX0 1 f fd ["steps","cost","prices"] (spD K FZ):=by
 show okD (k:=0) F mW (λss R h=>?_) (!2) (λcdv A outer s H E b=>(_,(ak (aR (bZ (NN:=_::_) (sc0:=ae eM) (N':=["step","cost","prices"]) (ix:=[OW,OV 1,OV 2]) (aE (qf 0)) (λY Y Y Y=>(al 0 (!4))) (λY Y Y Y=>(aY bq mI (aY kM mI (aY cT mIC (qx (qv 1) aj) (qx (qv 0) aj)) (qx (qv 1) aj)) (yj (Hl (K:=K) rfl) He (qv 2) (qx (qv 0) aj))))))),λss R h=>?_));let(st,p,q,pd,f,rfl,_):=h;rfl;let(st,p,q,pd,f,rfl,c,a,r):=h;lk;show b7 (λi=>.int (q*(st.getD i (0,0,[])).1-p+f (st.getD i (0,0,[])).2.1)) (by rw[Ki];lia) (λi hi Q hQ=>?_) ?_
 .rw[Ki]at hi;let e:(st.map iE)[i]'(by rw[Ki];show hi)=iE (st.getD i (0,0,[])):=by
   rw[KJ,Kn,Kk hi];rfl
  rw[e];let hs:=a (st.getD i (0,0,[])) (by rw[Kn,Kk hi];show KL hi);generalize st.getD i (0,0,[])=s at *;unfold iE;lk;let(hc,hs):=hs;show(hc,?_);rcases hs with⟨l,rfl,h1,h2⟩|⟨kvs,rfl,h2⟩
  show .inl (_,rfl,_,dO h1,_,rfl,h2▸hQ);show .inr (kvs,rfl,_,h2,_,rfl,hQ)
 .rw[Ki,jd,aQ st (0,0,[]) (λs:Stp=>q*s.1-p+f s.2.1)];lk;show r
abbrev jD:Stmt:=top 25
def tP:aA ["one","other"] ["one","other"] (ae jD):={}
inductive uU:DSp
 |mk {ss R} (a b c d:Int):ss=[.fr (.tuple [.int a,.int b]),.fr (.tuple [.int c,.int d])]->xE a d->xE c b->R (.fr (.bool (decide (a*d<c*b)))) [.un,.un]->uU ss R
def tY(F:Fun K "is_less" "is_less" jD f fd)(B:Bn mg):cg P w K mg base CX0 1 f fd ["one","other"] (spD K uU):=by show okD (k:=0) F tP (λss R h=>?_) (!2) (λcdv A outer s H E e=>(_,(ak (aR (Ej tV mB (aY cT mIC (qx (qv 0) aj) (qx (qv 1) aj)) (aY cT mIC (qx (qv 1) aj) (qx (qv 0) aj))))),λss R h=>?_));let(a,b,c,d,rfl,_):=h;rfl;let(a,b,c,d,rfl,h1,h2,q):=h;lk;show(h1,h2,q)
def fE:Oz->ab
 |none=>.none
 |some s=>iE s
def pkF(pl:Oe)(i:Nat):Oz:=pl.getD i OW
def pfK(kvs:Os)(i:Nat):Oy:=match aJ kvs (i:Int) with
 |some (.int v)=>OV v
 |_=>OW
def AU(kvs:Os):Prop:=∀k d,aJ kvs k=OV d->∃v,d=.int v
set_option tactic.hygienic true in
def pK:pfK kvs i=OV v↔aJ kvs (i:Int)=OV (.int v):=by unfold pfK;constructor;intro h;split at h;rename_i w e;cases h;show e;cases h;intro h;rw[h]
theorem AU.some(h:AU kvs)(i:Nat):(pfK kvs i).isSome=(aJ kvs (i:Int)).isSome:=by
 cases e:aJ kvs (i:Int) with
 |none =>
  unfold pfK;rw[e];rfl
 |some d =>
  let(v,rfl):=h _ _ e;rw[pK.mpr e];rfl
def lK(kvs:Os)(i:Nat)(v:Int)(j:Nat):pfK (c7 kvs (i:Int) (.int v)) j=if j=i then OV v else pfK kvs j:=by unfold pfK;rw[sC];by_cases z:j=i;rw[N6 z,N6 (by rw[z])];rw[N7 z,N7 (λe=>z (!0))]
def AU.set(h:AU kvs)(i v:Int):AU (c7 kvs i (.int v)):=λk d e=>by
 rw[sC]at e;split at e;cases e;show(v,rfl);show h k d e
abbrev nD(ys:OG):OM:=ys.map λy:Nat=>db (y:Int)
def m9{pl:Oe}(h:i< -pl):atI (pl.map fE) (i:Int)=OV (fE (pkF pl i)):=cA (by
 rw[KM,pkF,Kn,Kk h];rfl)
theorem Way.some(h:Way pk i l):∀x∈l,∃s,pk x=.some s:=by
 induction h with
 |root e=>intro x hx;cases hx
 |step e _ a =>
  intro x hx;rcases Kt.mp hx with rfl|hx;show(_,e);show a x hx
inductive Jk (pl:Oe) (p q:Int) (k:Nat):OL->Prop
 |mk (S:OO) (kvs:Os) (a b c d:Sl):KvI pl.length kvs->AU kvs->PcI p q (pkF pl) k (pfK kvs)->Jk pl p q k [.io (pl.map fE),.fr (.tuple [.int p,.int q]),.tr S (dY kvs),a,b,c,d]
inductive Jj (pl:Oe) (p q:Int) (S:OO) (kvs:Os) (k n:Nat) (d:Sl) (M:Nat):OL->Prop
 |mk (ys:OG) (here:Nat) (l:OG) (ls:OM):ls=nD ys->Nds (pkF pl) k ys here->here<pl.length->Way (pkF pl) here l->M=l.length->ys.length+l.length=n->Jj pl p q S kvs k n d M [.io (pl.map fE),.fr (.tuple [.int p,.int q]),.tr S (dY kvs),.fr (.int k),.ow ls,.fr (.int here),d]
inductive Ji (pl:Oe) (p q:Int) (S:OO) (k here:Nat) (ys:OG) (m:Nat):OL->Prop
 |mk (kvs:Os) (d:Sl):KvI pl.length kvs->AU kvs->PcW p q (pkF pl) k (pfK kvs) ys here m->Ji pl p q S k here ys m [.io (pl.map fE),.fr (.tuple [.int p,.int q]),.tr S (dY kvs),.fr (.int k),.fr (.list (nD ys)),.fr (.int here),d]
abbrev i7:Stmt:=top 21
def c9:aA ["picked","cost","prices","first","walk","here","number"] ["picked","cost"] (ae i7):={}
inductive ll:DSp
 |mk {ss R} (pl:Oe) (p q:Int):ss=[.io (pl.map fE),.fr (.tuple [.int p,.int q])]->pl.length<=1000->((∀i,dA (pkF pl) i))->(∀i s,pkF pl i=some s->xE q s.1/\s.2.1<pl.length)->(∀P:OD,P.length=pl.length->(∀i,i<pl.length->Val p q (pkF pl) i (P.getD i 0))->R (.ow (li P)) [.io (pl.map fE),.un])->ll ss R
def vU(F:Fun K "priced" "priced" i7 f fd)(B:Bn mg)(n:Cal P w K mg base "prices_by" 1 (spD K FZ)):cg P w K mg base CX0 2 f fd ["picked","cost"] (spD K ll):=by
 show okD (k:=1) F c9 (λss R h=>?_) (!2) (λcdv A outer s H E hr=>(_,(af (ax 2 c9.nd z8)
   (af (cS PassesOwn.never rfl (dW rfl B.range (aa (km B.len (qv 0)) ad)) (al 3 c9.nd) (af (ax 4 c9.nd (bD ad))
   (af (ax 5 c9.nd (qf 3))
   (af (cr PassesOwn.never (PW.pt (mY (aB gO lW (qv 5) (qv 2)) (jE (aB jO v7 (qx (qv 0) (qv 5)) gM)))) (af (cL (iR 4 (K:=K) rfl rfl (qf 5)))
   (ak (ax 5 c9.nd (qx (qx (qv 0) (qv 5)) aj)))))
   (af (GV 2 (K:=K) rfl rfl (qf 5) aj)
   (ak (cS PassesOwn.never rfl (D9 (K:=K) rfl rfl B.reversed (aa (qf 4) ad)) (al 6 c9.nd) (ak (vq 2 (K:=K) rfl rfl (qf 6) (Bu (qx (aH n (aa (bD (aa (qx (qv 0) (qv 6)) ad)) (aa (qf 1) (aa (qf 2) ad)))) aj)))))))))))
   (fC 2 (ak (aR (bZ (NN:=_::_) (sc0:=ae i7) (N':=["number","prices"]) (ix:=[OW,OV 2]) (dW rfl B.range (aa (km B.len (qv 0)) ad)) (λ_ _ _ _=>(al 0 (!4))) (λ_ _ _ _=>(yj (Do (K:=K) rfl) Dm (qv 1) (qv 0))))))))),λss R h=>?_))
 let(pl,p,q,rfl,_):=h;rfl;let(pl,p,q,rfl,hl,U,hs,r):=h;lk;intro S;lk;rw[Ki];show(!0,!0,dz (Jk pl p q) (.mk _ _ _ _ _ _ (!1,(λx hx=>nomatch hx)) (λk d e=>nomatch e) ((λi v e=>nomatch e),(λi hi=>absurd hi (LO _)))) (λE hN=>?_) ?_)
 .rintro k env hk ⟨S,kvs,a,b,c,d,kv,t,pc⟩;rw[aD,K2]at hk;rw[bG,M2];lk;let(V,W):=(U k).way;let I:∀{i:Nat}{l:OG},Way (pkF pl) i l->-l<=-pl:=λ{i l} w=>fS _ _ (w.nodup U) λx hx=>by
   let(s,e):=w.some x hx;show LI λz=>?_;rw[pkF,Kn,Le z]at e;cases e
  show(KG _,?_);lk;show gz (Jj pl p q S kvs k V.length d) (_,.mk [] k V _ rfl (.nil k) hk W rfl (!1)) λF hM=>?_;rintro _ env ⟨ys,here,l,_,rfl,u,L,Y,rfl,Z⟩;lk;let J:∀o:Oz,l7 (fE o)=o.isNone:=λo=>by cases o <;> rfl
  show(λ(m:((aJ kvs (here:Int)).isSome=OX\/pkF pl here=OW)->dNx _ _ [.io (pl.map fE),.fr (.tuple [.int p,.int q]),.tr S (dY kvs),.fr (.int k),.ow (nD ys),.fr (.int here),d])=>(kvs,rfl,cC (λh1=>(_,m9 L,cC (λh2=>?hB) (λh2=>m (.inr (by
   rw[J]at h2;cases e:pkF pl here with
   |none=>rfl
   |some s=>rw[e]at h2;show absurd rfl h2))))) (λh1=>m (.inl (by
   cases e:(aJ kvs (here:Int)).isSome with
   |true=>rfl
   |false=>show absurd e h1))))) λhm=>?hT
  case hB =>
   rw[J]at h2;let(s,es):=Ln.mp (show(pkF pl here).isSome=OX by cases e:pkF pl here with
    |none=>rw[e]at h2;cases h2
    |some s=>rfl)
   let(l',w1,w2):=Y.next es;let:=I W;show(by rw[Ki];show Ku (!0) ai,?_);lk;show(_,m9 L,?_);rw[es];show(_,rfl,_,rfl,(hM _).nx _ (-l',!0,.mk (ys++[here]) s.2.1 l' _ (!1) (u.snoc es) (hs _ _ es).2 w1 rfl (by simp;lia)))
  case hT =>
   lk;let kl:=kv.len;show(λ(m2:∀(g:Os),KvI (-pl) g->AU g->PcW p q (pkF pl) k (pfK g) ys here 0->dNx _ _ [.io (pl.map fE),.fr (.tuple [.int p,.int q]),.tr S (dY g),.fr (.int k),.ow (nD ys),.fr (.int here),d])=>((kvs,rfl),kvs,rfl,Ku (!0) ai,cC (λh=>m2 kvs kv t (pc,by rw[t.some];show h,λj hj=>!0)) (λh=>m2 _ (kv.set L _) (t.set _ _) ?hN))) λg M N D=>?hF
   case hN =>
    let e0:=hm.resolve_left h;let up:∀i,(pfK kvs i).isSome=OX->(pfK (c7 kvs (here:Int) (.int 0)) i).isSome=OX:=λi hi=>by
     rw[lK];split;rfl;show hi
    show((λi v e=>?_,λi hi=>up i (pc.all i hi)),by rw[lK,N6 rfl];rfl,λj hj=>!0);rw[lK]at e;split at e;rename_i z;cases e;rw[z];show .root e0;show pc.val i v e
   case hF =>
    lk;show dz (Ji pl p q S k here ys) (.mk g d M N D) (λG hL=>?hG) ?hE
    case hG =>
     rintro m env C ⟨kvs,d,kv,t,D⟩;rw[Ly,Ki]at C;let(s,v,e1,e2,O):=D.next u C;let er:(nD ys).reverse[m]'(by rw[Ly,Ki];show C)=.int ((ys.getD (-ys-1-m) 0:Nat):Int):=by rw[M6,KJ,Kn,Kk (!0)];simp
     rw[er];generalize ys.getD (-ys-1-m) 0=y at *;let X:y< -pl:=LI λz=>by
      rw[pkF,Kn,Le z]at e1;cases e1
     let kl:=kv.len;lk;show(_,m9 X,Kr (!2) ai,?_);rw[e1];show([s],p,q,dY kvs,λ_=>v,rfl,!1,λs' T=>?_,?_);rw[Kj.mp T];show((hs _ _ e1).1,.inr (kvs,rfl,pK.mp e2));lk;show((kvs,rfl),kvs,rfl,Ku (!0) ai,(hL _).nx _ (.mk _ _ (kv.set X _) (t.set _ _) (O _ λi=>lK _ _ _ _)))
    case hE =>
     rintro env ⟨kvs,d,kv,t,D⟩;rw[Ly,Ki]at D;show(hN _).nx _ (.mk _ _ _ _ _ _ kv t (D.fin u))
 .rintro env ⟨S,kvs,a,b,c,d,kv,t,pc⟩;rw[aD,K2]at pc;lk;rw[Ki,K2];show(!0,!0,b7 (λi=>.int ((pfK kvs i).getD 0)) (by rw[aD];lia) (λi hi Q hQ=>?_) ?_)
  .rw[aD]at hi;rw[bG,M2];lk;let(v,hv):=Ln.mp (pc.all i hi);rw[hv]at hQ;show(kvs,rfl,_,pK.mp hv,hQ)
  .rw[aD,jd];lk;show r _ (!1) λi hi=>?_;let(v,hv):=Ln.mp (pc.all i hi);let:=pc.val i v hv;rw[show((dm (-pl)).map λi=>(pfK kvs i).getD 0).getD i 0=v by rw[Kn];simp[hi,hv]];show this
abbrev stL(st:OK):ab:=.list (st.map iE)
def FW(sts:Om)(pl ag:Oe)(p q:Int)(P:OD)(n:Nat):Prop:=-ag=n/\∀i,i<n->pkF ag i=pkF pl i\/∃s∈sts.getD i [],pkF ag i=OV s/\q*s.1-p+P.getD s.2.1 0<P.getD i 0
inductive JE (sts:Om) (pl:Oe) (p q:Int) (P:OD) (k:Nat):OL->Prop
 |mk (ag:Oe) (a b c d:Sl) (ls:OM):ls=ag.map fE->FW sts pl ag p q P k->JE sts pl p q P k [.fr (.list (sts.map stL)),.io (pl.map fE),.fr (.tuple [.int p,.int q]),.fr (.list (li P)),.ow ls,a,b,c,d]
abbrev dQ:Stmt:=top 22
def bF:aA ["steps","picked","cost","prices","found","number","price","asked","least"] ["steps","picked","cost","prices"] (ae dQ):={}
inductive pj:DSp
 |mk {ss R} (sts:Om) (pl:Oe) (p q:Int) (P:OD):ss=[.fr (.list (sts.map stL)),.io (pl.map fE),.fr (.tuple [.int p,.int q]),.fr (.list (li P))]->pl.length<=1000->sts.length=pl.length->P.length=pl.length->((∀i,i<pl.length->sts.getD i []≠[]/\(sts.getD i []).length<=1000/\∀s∈sts.getD i [],xE q s.1/\s.2.1<pl.length))->(∀ag,FW sts pl ag p q P pl.length->R (.ow (ag.map fE)) [.un,.io (pl.map fE),.un,.un])->pj ss R
def jQ(F:Fun K "picked_again" "picked_again" dQ f fd)(B:Bn mg)(e:Cal P w K mg base "prices_by" 1 (spD K FZ)):cg P w K mg base CX0 2 f fd ["steps","picked","cost","prices"] (spD K pj):=by
 show okD (k:=1) F bF (λss R h=>?_) (!2) (λcdv A outer s H E I=>(_,(af (ax 4 bF.nd (bD ad))
   (af (cS PassesOwn.never rfl (jH OY (K:=K) rfl rfl B.enumerate (aa (qf 3) ad)) (dJ (K:=K) (n:=2) rfl rfl (aI (al 5 bF.nd) (aI (al 6 bF.nd) cp))) (af (ax 7 bF.nd (aH e (aa (qx (qv 0) (qv 5)) (aa (qf 2) (aa (qf 3) ad)))))
   (af (ax 8 bF.nd (rG (xj (K:=K) rfl rfl) Hb rfl B.min ml (aa (qv 7) ad)))
   (ak (cL (iR 4 (K:=K) rfl rfl (pF (aB tV mB (qv 8) (qv 6)) (qx (qx (qv 0) (qv 5)) (Bv (K:=K) rfl (qv 7) (qv 8))) (qx (qv 1) (qv 5)))))))))
   (ak (aR (qv 4))))),λss R h=>?_))
 let(sts,pl,p,q,P,rfl,_):=h;rfl;let(sts,pl,p,q,P,rfl,J,h1,h2,h3,r):=h;lk;show(KG _,?_);lk;show dz (JE sts pl p q P) (.mk [] _ _ _ _ _ rfl (rfl,λi hi=>absurd hi (LO _))) (λE hN=>?_) ?_
 .rintro k env hk ⟨ag,a,b,c,d,_,rfl,l⟩;rw[bA,Ki]at hk;rw[eB,dL];let t:k< -pl:=!0
  let(g1,g2,g3):=h3 k t;let u:atI (sts.map stL) (k:Int)=OV (stL (sts.getD k [])):=cA (by
   rw[KM,Kn,Kk (!0)];rfl)
  lk;show(_,u,sts.getD k [],p,q,.list (li P),λi=>P.getD i 0,rfl,g2,λs hs=>((g3 s hs).1,.inl (P,rfl,by let:=(g3 s hs).2;lia,rfl)),?_);generalize x:sts.getD k []=st at *;lk;show(by simpa using g1,λm D Y=>?_);lk;let v:(ag.map fE).length<sizeLine:=by rw[Ki,l.1];show Ku (!0) ai
  let more:∀o:Oz,(o=pkF pl k\/∃s∈st,o=OV s/\q*s.1-p+P.getD s.2.1 0<P.getD k 0)->FW sts pl (ag++[o]) p q P (k+1):=λo ho=>by
   show(by rw[KD,l.1];rfl,λi hi=>?_);by_cases z:i=k;subst z;rw[x,show pkF (ag++[o]) i=o by rw[pkF,Kn,<-l.1];simp];show ho;rw[show pkF (ag++[o]) i=pkF ag i by rw[pkF,pkF,Kn,Lk (by rw[l.1];lia),<-Kn]];show l.2 i (!0)
  show cC (λy=>(_,u,D,by rw[Ki];lia,λj hj g=>?_)) λG=>(_,m9 t,v,(hN _).nx _ (.mk (ag++[pkF pl k]) _ _ _ _ _ (!1) (more _ (.inl rfl))))
  rw[Ki]at hj;let C:st[j]?=OV st[j]:=Kk hj;show(_,rfl,_,cA (by rw[KM,C];rfl),v,(hN _).nx _ (.mk (ag++[OV st[j]]) _ _ _ _ _ (by rw[KC];rfl) (more _ (.inr (_,KL hj,rfl,?_)))));rw[Kn,KM,C]at g;let g:q*st[j].1-p+P.getD st[j].2.1 0=m:=g;rw[g];show y
 .rintro env ⟨ag,a,b,c,d,_,rfl,l⟩;rw[bA,Ki,h2]at l;lk;show r ag l
def snD(x:Nat×Nat):Int×ab:=((x.1:Int),.int (x.2:Int))
theorem wB:∀(seen:Op) (i:Nat),(aJ (seen.map snD) (i:Int)=OW/\i ∉ seen.map (·.1))\/∃v:Nat,aJ (seen.map snD) (i:Int)=OV (.int v)/\(i,v)∈seen
 |[],i=>.inl (rfl,!1)
 |x :: xs,i=>by
  rw[Kw,aq];by_cases z:x.1=i;show .inr (x.2,by rw[N6 (show(snD x).1=(i:Int) by rw[<-z];rfl)];rfl,by rw[<-z];simp);rw[N7 (show ¬(snD x).1=(i:Int) fromλe=>z (MQ.mp e))];rcases wB xs i with⟨h1,h2⟩|⟨v,h1,h2⟩
  show .inl (h1,by simp only[Kw,Kt,not_or];show(λe=>z e.symm,h2));show .inr (v,h1,Kv _ h2)
def Bj{seen:Op}{i v:Nat}(h:aJ (seen.map snD) (i:Int)=OW):c7 (seen.map snD) (i:Int) (.int (v:Int))=(seen++[(Pm i v)]).map snD:=by unfold c7;rw[h,N7 (!1),KC];rfl
def wx(o:Oz):l7 (fE o)=o.isNone:=by cases o <;> rfl
inductive Jo (pl:Oe) (k:Nat):OL->Prop
 |mk (S:OO) (seen:Op) (loops:Om) (cuts:OG) (a b c:Sl) (ls:OM):ls=loops.map stL->LpI pl.length (pkF pl) k seen loops cuts->loops.length<=k->Jo pl k [.io (pl.map fE),.tr S (dY (seen.map snD)),.ow ls,a,b,c]
inductive Jn (pl:Oe) (S:OO) (seen:Op) (loops:Om) (k:Nat) (c:Sl) (M:Nat):OL->Prop
 |mk (ys:OG) (here:Nat) (D:Os):D=(seen++ys.map λy=>(Pm y k)).map snD->LpW pl.length (pkF pl) k seen ys here->here<pl.length->M=pl.length-(seen.length+ys.length)->Jn pl S seen loops k c M [.io (pl.map fE),.tr S (dY D),.ow (loops.map stL),.fr (.int k),.fr (.int here),c]
inductive Jm (pl:Oe) (S:OO) (kv:Op) (loops:Om) (k here n M:Nat):OL->Prop
 |mk (l:OK) (s:Stp) (ls:OM):ls=(l++[s]).map iE->Pth (pkF pl) here (l++[s]) s.2.1->(l++[s]).length<=n->M=n-(l++[s]).length->Jm pl S kv loops k here n M [.io (pl.map fE),.tr S (dY (kv.map snD)),.ow (loops.map stL),.fr (.int k),.fr (.int here),.ow ls]
abbrev eN:Stmt:=top 23
def bB:aA ["picked","walks","loops","first","here","loop"] ["picked"] (ae eN):={}
inductive o8:DSp
 |mk {ss R} (pl:Oe):ss=[.io (pl.map fE)]->pl.length<=1000->(∀i s,pkF pl i=some s->s.2.1<pl.length)->(∀(seen:Op) (loops:Om) (cuts:OG),LpI pl.length (pkF pl) pl.length seen loops cuts->loops.length<=pl.length->R (.ow (loops.map stL)) [.io (pl.map fE)])->o8 ss R
def kA(F:Fun K "loops_among" "loops_among" eN f fd)(B:Bn mg):cg P w K mg base CX0 1 f fd ["picked"] (spD K o8):=by
 show okD (k:=0) F bB (λss R h=>?_) (!2) (λcdv A outer s H E hr=>(_,(af (ax 1 bB.nd z8)
   (af (ax 2 bB.nd (bD ad))
   (af (cS PassesOwn.never rfl (dW rfl B.range (aa (km B.len (qv 0)) ad)) (al 3 bB.nd) (af (ax 4 bB.nd (qf 3))
   (af (cr PassesOwn.never (PW.pt (mY (aB gO lW (qv 4) (qv 1)) (jE (aB jO v7 (qx (qv 0) (qv 4)) gM)))) (af (vq 1 (K:=K) rfl rfl (qf 4) (qf 3))
   (ak (ax 4 bB.nd (qx (qx (qv 0) (qv 4)) aj)))))
   (ak (eV (PW.pt (mY (aB EI JU (qv 4) (qv 1)) (jE (aB fg nC (yj (Do (K:=K) rfl) Dm (qv 1) (qv 4)) (qv 3))))) (af (ax 5 bB.nd (bD (aa (qx (qv 0) (qv 4)) ad)))
   (af (cr PassesOwn.never (aB yy F2 (qx (qx (qv 5) (z6 gE Ak aj)) aj) (qv 4)) (ak (cL (iR 5 (K:=K) rfl rfl (qx (qv 0) (qx (qx (qv 5) (z6 gE Ak aj)) aj))))))
   (ak (cL (iR 2 (K:=K) rfl rfl (qf 5)))))) aT)))))
   (ak (aR (qv 2)))))),λss R h=>?_))
 let(pl,rfl,_):=h;rfl;let(pl,rfl,hl,hs,r):=h;lk;intro S;lk;show(KG _,?_);lk;rw[Ki];show(!0,!0,dz (Jo pl) (.mk _ [] [] [] _ _ _ _ rfl (!1,(λx hx=>nomatch hx),(λx hx=>nomatch hx),(λi hi=>absurd hi (LO _)),rfl,(λx hx=>nomatch hx)) (KG _)) (λE hN=>?_) ?_)
 .rintro k env hk ⟨S,seen,loops,cuts,a,b,c,_,rfl,j,L⟩;rw[aD,K2]at hk;rw[bG,M2];lk;let q:∀x∈seen,x.1< -pl:=λx hx=>(j.lt x hx).1;let M:∀{i:Nat}{s:Stp},pkF pl i=OV s->i< -pl:=λ{i s} e=>LI λz=>by
   rw[pkF,Kn,Le z]at e;cases e
  show gz (Jn pl S seen loops k c) (_,.mk [] k _ (!1) (.nil k,by simpa using j.nd,(λy o=>nomatch o)) hk rfl) λF hM=>?_;rintro _ env ⟨ys,here,_,rfl,t,J,rfl⟩;let few:=t.few q;let N:=wB (seen++ys.map λy=>(y,k)) here;generalize d:(seen++ys.map λy=>(y,k))=kv at *;lk;show(λ(m:(here∈kv.map (·.1)\/pkF pl here=OW)->dNx _ _ [.io (pl.map fE),.tr S (dY (kv.map snD)),.ow (loops.map stL),.fr (.int k),.fr (.int here),c])=>(kv.map snD,rfl,cC (λh1=>(_,m9 J,cC (λh2=>?hB) (λh2=>m (.inr (by
   rw[wx]at h2;cases e:pkF pl here with
   |none=>rfl
   |some s=>rw[e]at h2;show absurd rfl h2))))) (λh1=>m (.inl (by
   rcases N with⟨g1,_⟩|⟨v,_,g2⟩
   rw[g1]at h1;show absurd rfl h1;show Ko.mpr (_,g2,rfl)))))) λZ=>?hT
  case hB =>
   rw[wx]at h2;let(s,es):=Ln.mp (show(pkF pl here).isSome=OX by cases e:pkF pl here with
    |none=>rw[e]at h2;cases h2
    |some s=>rfl)
   let(g1,g2):=N.resolve_right (λhz=>by let(v,g,_):=hz;rw[g]at h1;cases h1);let u:=t.go es J (by rw[d];show g2);let n:=u.few q;rw[KD]at n;let:-kv=-seen+-ys:=by rw[<-d];simp
   show((_,rfl),_,rfl,Ku (show(kv.map snD).length<1000000 by rw[Ki];lia) ai,?_);lk;show(_,m9 J,?_);rw[es,Bj g1];show(_,rfl,_,rfl,(hM _).nx _ (-pl-(-seen+(ys++[here]).length),?_,.mk (ys++[here]) s.2.1 _ ?_ u (hs _ _ es) rfl));simp at n ⊢;lia;rw[<-d];simp
  case hT =>
   lk;let p:∀{lo:Om}{O:OG},LpI (-pl) (pkF pl) k seen lo O->dA (kn (pkF pl) O) here->(ys=[]->pkF pl k=OW\/k∈seen.map (·.1))->LpI (-pl) (pkF pl) (k+1) kv lo O:=λj h1 h2=>d▸j.next t h1 h2;let V:ys=[]->here=k:=λe=>by
    let:=t.way;rw[e]at this;cases this;rfl
   rcases N with⟨g1,g2⟩|⟨v,g1,g2⟩
   let W:=Z.resolve_left g2;show(kv.map snD,rfl,cC (λh=>by rw[g1]at h;cases h) (λ_=>(hN _).nx _ (.mk _ kv loops cuts _ _ _ _ rfl (p j (dA.cut cuts (.root W)) (λe=>.inl (V e▸W))) (!0))))
   .show(kv.map snD,rfl,cC (λ_=>(kv.map snD,rfl,_,g1,_,rfl,cC (λev=>?hA) (λev=>?hC))) (λh=>absurd (by rw[g1];rfl) h))
    case hC =>
     let C:(here,v)∈seen:=by
      rw[<-d]at g2;rcases Km.mp g2 with z|z;show z
      .cbv;let(y,_,e):=Ko.mp z;cases e
       w_up;show absurd rfl ev
     show(hN _).nx _ (.mk _ kv loops cuts _ _ _ _ rfl (p j (j.ends _ C) (λe=>.inr (V e▸Ko.mpr (_,C,rfl)))) (!0))
    case hA =>
     let o:here∈ys:=by
      rw[<-d]at g2;rcases Km.mp g2 with z|z;let:=(j.lt _ z).2;lia
      .cbv;let(y,o,e):=Ko.mp z;cases e
       w_up;show o
     let(Q,X,Y,n3):=t.way.from o;obtain⟨s,es⟩:∃s,pkF pl here=OV s:=by
      cases X with
      |nil=>show absurd rfl Y
      |cons e _=>show(_,e)
     show(_,m9 J,Kr (!2) ai,?_);rw[es];lk;show gz (Jm pl S kv loops k here (-Q)) (_,.mk [] s _ rfl (.cons es (.nil _)) (Mr.mpr Y) rfl) λG hL=>?_;rintro _ env ⟨l,s,_,rfl,pth,T,rfl⟩;let D:atI ((l++[s]).map iE) (-1)=OV (iE s):=by rw[KC];show mD _ _
     lk;let a3:-Q<=-pl:=!0
     show(_,D,_,rfl,_,rfl,_,rfl,cC (λne=>?hD) (λne=>?hE))
     case hD =>
      let((s',U),lt):=X.loop pth T (λz=>ne (by rw[z]));let at':=m9 (M U);rw[U]at at';show(_,D,_,rfl,_,rfl,_,rfl,_,at',Ku (show((l++[s]).map iE).length<1000000 by rw[Ki];lia) ai,(hL _).nx _ (-Q-((l++[s])++[s']).length,(by rw[KD (bs:=[s'])];simp only[K5];lia),.mk (l++[s]) s' _ (by rw[KC (l₂:=[s'])];rfl) (pth.snoc U) (by rw[KD (bs:=[s'])];show lt) rfl))
     case hE =>
      let ne:s.2.1=here:=MQ.mp (Decidable.not_not.mp ne);lk;let I:((l++[s]).getLastD (0,0,[])).2.1=here:=(pth.last (!1)).trans ne;let lm:=j.more (l:=l++[s]) (i:=here) (!1) (!0) (ne▸pth);show(Ku (show(loops.map stL).length<1000000 by rw[Ki];lia) ai,(hN _).nx _ (.mk _ kv (loops++[l++[s]]) _ _ _ _ _ (by rw[KC (l₂:=[l++[s]])];rfl) (p lm (.root ?_) (λe=>by rw[e]at o;cases o)) (by rw[KD];simp only[K5];lia)));rw[I];show N6 (!1)
 .rintro env ⟨S,seen,loops,cuts,a,b,c,_,rfl,j,L⟩;rw[aD,K2]at j L;lk;show r seen loops cuts j L
def wE(hs:0<s):0<(cf s s':Int)/\(∃a,s=(cf s s':Int)*a)/\∃b,s'=(cf s s':Int)*b:=by
 show(?_,?_,?_);let:cf s s'≠0:=λz=>by
  let:=(Int.gcd_eq_zero_iff.mp z).1;lia
 lia;show Int.gcd_dvd_left s s';show NC s s'
def ze(hx:0<=x)(c:0<=y):cf y (x % y)=cf x y:=by let(a,rfl):=MV hx;let(b,rfl):=MV c;show rp b (a % b)=rp a b;rw[Nat.gcd_comm b,<-Nat.gcd_rec,Nat.gcd_comm]
def Ct(d:1<=b):0<(cf a b:Int)/\(cf a b:Int)<=b:=by let c:=(wE (s:=b) (s':=a) (!0)).1;rw[Int.gcd_comm]at c;show(c,Int.le_of_dvd (!0) (NC a b))
abbrev ck:Stmt:=top 6
def bL:aA ["one","other","rest"] ["one","other"] (ae ck):={}
inductive Be:DSp
 |mk {ss R} (a b:Int):ss=[.fr (.int a),.fr (.int b)]->0<=a->0<=b->R (.fr (.int (cf a b))) [.un,.un]->Be ss R
inductive IvG (a b:Int) (m:Nat):OL->Prop
 |mk (x y:Int) (r:Sl):0<=x->0<=y->m=y.toNat->cf x y=cf a b->IvG a b m [.fr (.int x),.fr (.int y),r]
def gg(F:Fun K "greatest_divisor" "greatest_divisor" ck f fd)(B:Bn mg):cg P w K mg base CX0 1 f fd ["one","other"] (spD K Be):=by
 show okD (k:=0) F bL (λss R h=>?_) (!2) (λcdv A outer s H E j=>(_,(af (cr PassesOwn.never (aB yy F2 (qv 1) aj) (af (ax 2 bL.nd (aY aP mIC (qv 0) (qv 1)))
   (af (ax 0 bL.nd (qf 1))
   (ak (ax 1 bL.nd (qf 2))))))
   (ak (aR (qv 0)))),λss R h=>?_))
 let(a,b,rfl,_):=h;rfl;let(a,b,rfl,g,i,q):=h;lk;show gz (IvG a b) (_,.mk a b _ g i rfl rfl) λN hN=>?_;rintro _ env ⟨x,y,r,hx,e,rfl,hg⟩;lk;show cC (λc=>?_) (λc=>?_)
 .let c:y≠0:=by simpa using c
  let h1:=LB x c;let h2:=Lj x (show 0<y by lia);show(!0,?_);lk;let d:=(ze hx e).trans hg;generalize x % y=z at *;show(z.toNat,!0,.mk y z _ e h1 rfl d)
 .let c:y=0:=by simpa using c
  subst c;lk;rw[<-hg,Int.gcd_zero_right,Int.natAbs_of_nonneg hx]at q;show q
abbrev dR:Stmt:=top 7
def ft:aA ["above","below","divisor"] ["above","below"] (ae dR):={}
inductive lj:DSp
 |mk {ss R} (a b:Int):ss=[.fr (.int a),.fr (.int b)]->0<=a->1<=b->b<=1000->R (.fr (.tuple [.int (a / (cf a b:Int)),.int (b / (cf a b:Int))])) [.un,.un]->lj ss R
def jR(F:Fun K "lowest_terms" "lowest_terms" dR f fd)(B:Bn mg)(c:Cal P w K mg base "greatest_divisor" 1 (spD K Be)):cg P w K mg base CX0 2 f fd ["above","below"] (spD K lj):=by
 show okD (k:=1) F ft (λss R h=>?_) (!2) (λcdv A outer s H E l=>(_,(af (ax 2 ft.nd (aH c (aa (qf 0) (aa (qf 1) ad))))
   (ak (aR (bV (aa (aY jb mIC (qv 0) (qv 2)) (aa (aY jb mIC (qv 1) (qv 2)) ad)))))),λss R h=>?_))
 let(a,b,rfl,_):=h;rfl;let(a,b,rfl,g,i,j,q):=h;walk_at"dd";show(a,b,rfl,g,!0,?_);walk_at"dd";show nx ?_;walk_at"dd";let(d,m):=Ct (a:=a) i;let e:Bg (cf a b:Int):=by show(cf a b:Int).natAbs<2 ^ 8000;show Ls (show(cf a b:Int).natAbs<=2 ^ 10 by lia) (Nat.pow_lt_pow_right (!2) (!2))
 show((d,e),(d,e),!2,q)
abbrev fP:Stmt:=top 13
def pq:aA ["row","costs"] ["row","costs"] (ae fP):={}
noncomputable def rc(cs r:OD):Int:=(r.map λc=>cs.getD c.toNat 0).sum
inductive fq:DSp
 |mk {ss R} (r cs:OD):ss=[.fr (.list (li r)),.fr (.list (li cs))]->r.length<=1000->(∀x∈r,0<=x/\x<cs.length)->R (.fr (.int (rc cs r))) [.un,.un]->fq ss R
def pN(F:Fun K "row_cost" "row_cost" fP f fd)(B:Bn mg):cg P w K mg base CX0 1 f fd ["row","costs"] (spD K fq):=by
 show okD (k:=0) F pq (λss R h=>?_) (!2) (λcdv A outer s H E b=>(_,(ak (aR (rG (gX (K:=K) rfl rfl) F1 rfl B.sum me (aa (bZ (NN:=_::_) (sc0:=ae fP) (N':=["clock","costs"]) (ix:=[OW,OV 1]) (aE (qf 0)) (λY Y Y Y=>(al 0 (!4))) (λY Y Y Y=>(qx (qv 1) (qv 0)))) ad)))),λss R h=>?_));let(r,cs,rfl,_):=h;rfl;let(r,cs,rfl,h1,h2,q):=h;walk_at"dd";show b7 (λi=>.int (cs.getD (r.getD i 0).toNat 0)) (by rw[Ki];lia) (λi hi Q hQ=>?_) ?_
 .rw[dL];let d:=h2 _ (aU (l:=r) (k:=i) (by simpa using hi));generalize r.getD i 0=c at *;obtain⟨a,rfl⟩:∃a:Nat,c=(a:Int):=(c.toNat,!0)
  walk_at"dd";show(_,dO (!0),hQ)
 rw[Ki,aQ r 0 (λc=>db (cs.getD c.toNat 0)),show r.map (λc=>db (cs.getD c.toNat 0))=li (r.map λc=>cs.getD c.toNat 0) from(KQ ..).symm];walk_at"dd";show q
abbrev gJ:Stmt:=top 14
def tQ:aA ["plan","costs"] ["plan","costs"] (ae gJ):={}
def pc(cs:OD)(rs:Ol):Int:=(rs.map (rc cs)).sum
inductive lB:DSp
 |mk {ss R} (ah ag:Ol) (cs:OD):ss=[.fr (.tuple [.list (lr ah),.list (lr ag)]),.fr (.list (li cs))]->1<=ag.length->ag.length<=1000->(∀r∈ag,r.length<=1000/\∀x∈r,0<=x/\x<cs.length)->0<=pc cs ag->R (.fr (.tuple [.int (pc cs ag / (cf (pc cs ag) ag.length:Int)),.int (ag.length / (cf (pc cs ag) ag.length:Int))])) [.un,.un]->lB ss R
def tZ(F:Fun K "cost_of" "cost_of" gJ f fd)(B:Bn mg)(a:Cal P w K mg base "lowest_terms" 2 (spD K lj))(b:Cal P w K mg base "row_cost" 1 (spD K fq)):cg P w K mg base CX0 3 f fd ["plan","costs"] (spD K lB):=by
 show okD (k:=2) F tQ (λss R h=>?_) (!2) (λcdv A outer s H E d=>(_,(ak (aR (aH a (aa (rG (gX (K:=K) rfl rfl) F1 rfl B.sum me (aa (bZ (NN:=_::_) (sc0:=ae gJ) (N':=["row","costs"]) (ix:=[OW,OV 1]) (aE (qx (qv 0) aj)) (λY Y Y Y=>(al 0 (!4))) (λY Y Y Y=>(aH b (aa (qf 0) (aa (qf 1) ad))))) ad)) (aa (km B.len (qx (qv 0) aj)) ad))))),λss R h=>?_));let(ah,ag,cs,rfl,_):=h;rfl;let(ah,ag,cs,rfl,h1,h2,h3,h4,q):=h;walk_at"dd";show b7 (λi=>.int (rc cs (ag.getD i []))) (by rw[Ki];lia) (λi hi Q hQ=>?_) ?_
 .rw[iK];let c:=h3 _ (dq (l:=ag) (k:=i) (by simpa using hi));walk_at"dd";show(_,cs,rfl,c.1,c.2,_,rfl,hQ)
 rw[Ki,aQ ag [] (λr=>db (rc cs r)),show ag.map (λr=>db (rc cs r))=li (ag.map (rc cs)) from(KQ ..).symm];walk_at"dd";rw[Ki];show(_,_,rfl,h4,!0,!0,_,rfl,q)
def Dn(a b:Int):ab:=.tuple [.int (a / (cf a b:Int)),.int (b / (cf a b:Int))]
abbrev eO:Stmt:=top 24
def mX:aA ["loop"] ["loop"] (ae eO):={}
inductive hJ:DSp
 |mk {ss R} (l:OK):ss=[.fr (stL l)]->1<=l.length->l.length<=1000->0<=fY l->R (.fr (Dn (fY l) l.length)) [.un]->hJ ss R
def nj(F:Fun K "loop_cost" "loop_cost" eO f fd)(B:Bn mg)(a:Cal P w K mg base "lowest_terms" 2 (spD K lj)):cg P w K mg base CX0 3 f fd ["loop"] (spD K hJ):=by
 show okD (k:=2) F mX (λss R h=>?_) (!2) (λcdv A outer s H E b=>(_,(ak (aR (aH a (aa (rG (gX (K:=K) rfl rfl) F1 rfl B.sum me (aa (bZ (NN:=_::_) (sc0:=ae eO) (N':=["step"]) (ix:=[OW]) (aE (qf 0)) (λY Y Y Y=>(al 0 (!4))) (λY Y Y Y=>(qx (qv 0) aj))) ad)) (aa (km B.len (qv 0)) ad))))),λss R h=>?_));let(l,rfl,_):=h;rfl;let(l,rfl,h1,h2,h3,r):=h;unfold stL;lk;show b7 (λi=>.int (l.getD i (0,0,[])).1) (by rw[Ki];lia) (λi hi Q hQ=>?_) ?_
 .rw[Ki]at hi;let e:(l.map iE)[i]'(by rw[Ki];show hi)=iE (l.getD i (0,0,[])):=by
   rw[KJ,Kn,Kk hi];rfl
  rw[e];unfold iE;lk;show hQ
 .rw[Ki,jd,aQ l (0,0,[]) (λs:Stp=>s.1)];lk;rw[Ki];show(_,_,rfl,h3,!0,!0,_,rfl,r)
def CG(x y:Oz):eu (fE x) (fE y)=decide (x=y):=by
 cases x with
 |none=>cases y <;> rfl
 |some a =>
  cases y with
  |none=>rfl
  |some b =>
   show ef [.int a.1,.int (a.2.1:Int),.list (li a.2.2)] [.int b.1,.int (b.2.1:Int),.list (li b.2.2)]=_;simp only[ef,mh,Bool.and_true];rw[show eu (.list (li a.2.2)) (.list (li b.2.2))=decide (a.2.2=b.2.2) from Fw _ _];let(a1,a2,c):=a;let(b1,d,e):=b;simp only[ML,m7];by_cases h1:a1=b1 <;> by_cases h2:a2=d <;> by_cases h3:c=e <;> simp[h1,h2,h3]
   all_goals (intro z;show absurd (!0) h2)
theorem iA:∀a b:Oe,ef (a.map fE) (b.map fE)=decide (a=b)
 |[],[]=>by simp[ef]
 |[],_::_=>by simp[ef]
 |_::_,[]=>by simp[ef]
 |x::a,y::b=>by
  rw[Kw,Kw,ef,iA a b,CG];by_cases h:x=y <;> by_cases h':a=b <;> simp[h,h']
def Sh.opt(n:Nat)(o:Oz):Sh (n+3) (fE o):=by
 cases o with
 |none=>show Sh.none _
 |some s =>
  show Sh.tuple λx hx=>?_;simp only[Kt,Ld,or_false]at hx;rcases hx with rfl|rfl|rfl;show Sh.int _ _;show Sh.int _ _;show Sh.ints _ _
def u3(pl:Oe):shp (.list (pl.map fE)):=(Sh.list (n:=3) λx hx=>by
 let(o,_,rfl):=Ko.mp hx;show Sh.opt 0 o).shp (!2)
def BJ(hc:c< -pl)(i:Nat):pkF (pl.set c OW) i=if i=c then OW else pkF pl i:=by unfold pkF;rw[Kn,Kn,List.getElem?_set];by_cases z:c=i;subst z;simp[hc];rw[N7 z,N7 λe=>z e.symm]
def BK(c:-a=-b)(h:∀i,i< -a->pkF a i=pkF b i):a=b:=by show Mo c λi h1 h2=>?_;let:=h i h1;rw[pkF,pkF,Kn,Kn,Kk h1,Kk h2]at this;show this
def Cz:Nat->Nat
 | 0=>1
 |n+1=>(n+1)*Cz n
theorem sF:∀n,0<Cz n
 | 0=>Nat.one_pos
 |n+1=>Nat.mul_pos (Nat.succ_pos _) (sF n)
theorem sG(h1:1<=k):∀n,k<=n->k∣Cz n
 | 0,h=>!0
 |n+1,h=>by
  by_cases z:k=n+1;rw[z];show Nx _ _;show MO (sG h1 n (!0)) (NH _ _)
abbrev lwP(a b:Nat):Nat:=a / rp a b
abbrev lwQ(a b:Nat):Nat:=b / rp a b
def lX(a b:Nat):Dn (a:Int) (b:Int)=.tuple [.int (lwP a b:Nat),.int (lwQ a b:Nat)]:=by unfold Dn;rw[show cf (a:Int) (b:Int)=rp a b from rfl,<-NJ,<-NJ]
def EQ{a b:Nat}:a=rp a b*lwP a b/\b=rp a b*lwQ a b:=((Ng (Nat.gcd_dvd_left a b)).symm,(Ng (Nv a b)).symm)
def pZ(c:1<=b):1<=lwQ a b:=L8 λz=>by
 let:=(EQ (a:=a) (b:=b)).2;rw[z,Nat.mul_zero]at this;lia
structure xA(sts:Om)(l:OK):Prop where
 ne : l≠[]
 few:l.length<=sts.length
 mem:∀s∈l,∃i,s∈sts.getD i []
 last:(l.getLastD (0,0,[])).2.1<sts.length
def xF(sts:Om)(p0 q0:Nat)(best:Oi)(p q:Nat):Prop:=(best=OW/\p=p0/\q=q0)\/∃l,best=OV l/\xA sts l/\p=lwP (fY l).toNat (-l)/\q=lwQ (fY l).toNat (-l)
def Gp:Oi->ab
 |none=>.none
 |some l=>stL l
structure JF(D R p q:Nat):Prop where
 q1 : 1<=q
 q2 : q<=1000
 dvd:q∣D
 rank:d8 D p q<=R
structure ChI(sts:Om)(D R:Nat)(pl:Oe)(p q:Nat):Prop extends JF D R p q where
 len:pl.length=sts.length
 mem:∀i s,pkF pl i=some s->s∈sts.getD i []
 ends:∀i,dA (pkF pl) i
structure StI(sts:Om)(C:Nat):Prop where
 few:sts.length<=1000
 at':∀i,i<sts.length->sts.getD i []≠[]/\(sts.getD i []).length<=1000
 stp:∀i s,s∈sts.getD i []->s.2.1<sts.length/\0<=s.1/\s.1<=C
def rY{sts:Om}(h:s∈sts.getD i []):i< -sts:=LI λz=>by
 rw[Kn,Le z]at h;cases h
def ChI.low{sts:Om}{D R C:Nat}{pl:Oe}{p q:Nat}(st:StI sts C)(h:ChI sts D R pl p q){P:Nat->Int}(hv:∀i,Val p q (pkF pl) i (P i))(hD:0<D):0<=d6 (λi=>P i+p*-sts) (-sts)/\(d6 (λi=>P i+p*-sts) (-sts)).toNat<=Db D R (-sts) C :=
 yJ hD h.dvd h.rank λi Y=>A4 (!0) (!0) (!0) h.ends (λi s e=>(rY (h.mem i s e),(st.stp _ _ (h.mem i s e)).2)) (hv i)
def ChI.less{sts:Om}{D R C:Nat}{pl pl':Oe}{p q p' q':Nat}(st:StI sts C)(hD:0<D){P:Nat->Int}(hv:∀i,Val p q (pkF pl) i (P i))(h':ChI sts D R pl' p' q')(c:d8 D p' q'<d8 D p q\/(p'=p/\q'=q/\iW p q (pkF pl) (pkF pl') P/\∃i,i< -sts/\pkF pl' i≠pkF pl i)):∃b,(∀i,Val p' q' (pkF pl') i (b i))/\lY D (Db D R (-sts) C) (-sts) p' q' b<lY D (Db D R (-sts) C) (-sts) p q P:=by
 let a:∀i,Val p' q' (pkF pl') i (((h'.ends i).val (p:=p') (q:=q')).choose):=λi=>((h'.ends i).val (p:=p') (q:=q')).choose_spec;show(_,a,?_);let(d,b1):=h'.low st a hD;rcases c with z|⟨rfl,rfl,as,i,hi,ne⟩
 show B9 z b1;show yH (λj Y=>as.down (a j)) (i,hi,as.lt (a i) ne) d
def FW.asked{pl ag:Oe}{P:OD}(h:FW sts pl ag p q P (-pl))(hP:-P=-pl)(hv:∀i,i< -pl->Val p q (pkF pl) i (P.getD i 0)):iW p q (pkF pl) (pkF ag) (λi=>P.getD i 0):=by
 let out:∀{l:Oe}{i:Nat},-l<=i->pkF l i=OW:=λ{l i} z=>by rw[pkF,Kn,Le z];rfl
 show(λi=>?_,λi e=>?_,λi s e=>?_);by_cases z:i< -pl;show hv i z;rw[show P.getD i 0=0 by rw[Kn,Le (!0)];rfl];show .root (out (!0));by_cases z:i< -pl;rcases h.2 i z with e1|⟨s,_,e1,_⟩
 rw[<-e1];show e;rw[e]at e1;cases e1;show out (!0);by_cases z:i< -pl;rcases h.2 i z with e1|⟨s',_,e1,e2⟩
 show .inl (by rw[<-e1];show e);rw[e]at e1;cases e1;show .inr e2;rw[out (by rw[h.1];lia)]at e;cases e
def oX(h:∀s∈l,0<=s.1):0<=fY l:=by
 induction l with
 |nil=>show L6 _
 |cons a l b =>
  rw[mR];let:=h a (!1);let:=b λs hs=>h s (Kv _ hs);lia
def Pth.mem(h:Pth pk i l j):∀s∈l,∃k,pk k=OV s:=by
 induction h with
 |nil i=>intro s hs;cases hs
 |cons e _ a =>
  intro s hs;rcases Kt.mp hs with rfl|hs;show(_,e);show a s hs
inductive JC (sts:Om) (D p0 q0 C M:Nat):OL->Prop
 |mk (best:Oi) (pl:Oe) (p q:Nat) (P:Nat->Int) (a b c d:Sl):ChI sts D (d8 D p0 q0) pl p q->xF sts p0 q0 best p q->(∀i,Val p q (pkF pl) i (P i))->M=lY D (Db D (d8 D p0 q0) sts.length C) sts.length p q P->JC sts D p0 q0 C M [.fr (.list (sts.map stL)),.fr (.tuple [.int p,.int q]),.fr (Gp best),.ow (pl.map fE),a,b,c,d]
inductive JB (sts:Om) (D p0 q0 p q:Nat) (Pl:OD) (ag:Oe) (loops:Om) (cuts:OG) (j:Nat):OL->Prop
 |mk (best:Oi) (pl':Oe) (p' q':Nat) (a b:Sl):pl'.length=sts.length->(∀i,pkF pl' i=kn (pkF ag) (cuts.take j) i)->JF D (d8 D p0 q0) p' q'->xF sts p0 q0 best p' q'->d8 D p' q'<=d8 D p q->(j=0->p'=p/\q'=q)->(1<=j->d8 D p' q'<d8 D p q)->JB sts D p0 q0 p q Pl ag loops cuts j [.fr (.list (sts.map stL)),.fr (.tuple [.int p',.int q']),.fr (Gp best),.ow (pl'.map fE),.fr (.list (li Pl)),a,.fr (.list (loops.map stL)),b]
abbrev fQ:Stmt:=top 26
def bC:aA ["steps","cost","best","picked","prices","again","loops","loop"] ["steps","cost"] (ae fQ):={}
inductive pi:DSp
 |mk {ss R} (sts:Om) (C p0 q0:Nat):ss=[.fr (.list (sts.map stL)),.fr (.tuple [.int p0,.int q0])]->StI sts C->1<=q0->q0<=1000->(∀(best:Oi) (p q:Nat) (P:OD),xF sts p0 q0 best p q->P.length=sts.length->R (.fr (.tuple [Gp best,.list (li P)])) [.un,.un])->pi ss R
def pP(F:Fun K "cheapest" "cheapest" fQ f fd)(B:Bn mg)(G:Cal P w K mg base "priced" 2 (spD K ll))(n:Cal P w K mg base "picked_again" 2 (spD K pj))(o:Cal P w K mg base "loops_among" 1 (spD K o8))(m:Cal P w K mg base "loop_cost" 3 (spD K hJ))(v:Cal P w K mg base "is_less" 1 (spD K uU)):cg P w K mg base CX0 4 f fd ["steps","cost"] (spD K pi):=by
 show okD (k:=3) F bC (λss R h=>?_) (!2) (λcdv A outer s H E hr=>(_,(af (ax 2 bC.nd gM)
   (af (bR 3 bC.nd (NN:=_::_) (sc0:=ae fQ) (N':=["number"]) (ix:=[OW]) (aE (qf 0)) (λ_ _ _ _=>(al 0 (!4))) (λ_ _ _ _=>gM))
   (ak (cr PassesOwn.never (rF vv) (af (ax 4 bC.nd (bN 0 G (aa (qv 3) (aa (qf 1) ad))))
   (af (ax 5 bC.nd (bN 1 n (aa (qf 0) (aa (qv 3) (aa (qf 1) (aa (qf 4) ad))))))
   (af (eV (aB (F9 (K:=K) rfl hr.units) mEq (qv 5) (qv 3)) (ak (aR (bV (aa (qf 2) (aa (qf 4) ad))))) aT)
   (af (ax 3 bC.nd (GX 5))
   (af (ax 6 bC.nd (bN 0 o (aa (qv 3) ad)))
   (ak (cS PassesOwn.never rfl (aE (qf 6)) (al 7 bC.nd) (af (vp 3 rfl (qx (qx (qv 7) (z6 gE Ak aj)) aj) gM)
   (ak (eV (rF (aH v (aa (aH m (aa (qf 7) ad)) (aa (qf 1) ad)))) (af (ax 2 bC.nd (qf 7))
   (ak (ax 1 bC.nd (aH m (aa (qf 7) ad))))) aT)))))))))))))),λss R h=>?_))
 let(sts,C,p0,q0,rfl,_):=h;rfl;let(sts,C,p0,q0,rfl,st,T,a5,r):=h;lk;show b7 (λi=>.none) (by rw[Ki];let:=st.few;lia) (λi hi Q hQ=>?_) ?_
 .lk;show hQ
 let t:∀i,pkF ((dm (-sts)).map λ_=>(OW:Oz)) i=OW:=λi=>by
  rw[pkF,Kn,KM];cases (dm (-sts))[i]? <;> rfl
 rw[Ki,show(dm (-sts)).map (λ_=>NR)=(((dm (-sts)).map λ_=>(OW:Oz)).map fE) by rw[KQ];rfl];lk;let hD:0<q0*Cz (-sts):=Nat.mul_pos T (sF _);let dv:∀{k},1<=k->k<=-sts->k∣q0*Cz (-sts):=λh1 h2=>MO (sG h1 _ h2) (NH _ _);let a6:q0∣q0*Cz (-sts):=Nx _ _;generalize q0*Cz (-sts)=D at *;show gz (JC sts D p0 q0 C) (_,.mk OW _ p0 q0 (λ_=>0) _ _ _ _ ((T,a5,a6,Kz _),!1,(λi s e=>by rw[t]at e;cases e),λi=>.root (t i)) (.inl (rfl,rfl,rfl)) (λi=>.root (t i)) rfl) λE hN=>?_;clear t;rintro _ env ⟨best,pl,p,q,P,a,b,c,d,u,bo,hv,rfl⟩;let few:=st.few;lk;let cq:∀x:Int,xE q x:=λx=>ff (!0) (by let:=u.q2;lia);show(pl,p,q,rfl,by rw[u.len];lia,u.ends,λi s e=>(cq _,by rw[u.len];show(st.stp _ _ (u.mem i s e)).1),λPl M U=>?_);lk;show(sts,pl,p,q,Pl,rfl,by rw[u.len];lia,u.len.symm,M,λi hi=>((st.at' i (by rw[<-u.len];show hi)).1,(st.at' i (by rw[<-u.len];show hi)).2,λs hs=>(cq _,by rw[u.len];show(st.stp _ _ hs).1)),λag V=>?_);let as:=V.asked M U;obtain rfl:P=λi=>Pl.getD i 0:=funext λi=>(hv i).same (as.val i);lk;let N:-ag=-sts:=V.1.trans u.len;let I:∀i s,pkF ag i=OV s->s∈sts.getD i []:=λi s e=>by
  let hi:i< -pl:=LI λz=>by
   rw[pkF,Kn,Le (by rw[V.1];show z)]at e;cases e
  rcases V.2 i hi with e1|⟨s',a7,e1,_⟩
  show u.mem i s (e1▸e);rw[e]at e1;cases e1;show a7
 show(u3 _,u3 _,cC (λeq=>(Kr (!2) ai,?hR)) (λne=>?hN))
 case hR =>
  let eq:ag=pl:=of_decide_eq_true ((iA ag pl).symm.trans eq);subst eq;show(hN _).rt _ _ ?_
  walk_at"d2";show r best p q Pl bo (M.trans u.len)
 case hN =>
  let ne:ag≠pl:=λe=>ne (by rw[e];show(iA pl pl).trans (decide_eq_true rfl));lk;show(ag,rfl,!0,λi s e=>by rw[N];show(st.stp _ _ (I i s e)).1,λseen loops cuts W lk=>?_);rw[N]at W lk;lk;show dz (JB sts D p0 q0 p q Pl ag loops cuts) (.mk best ag p q _ _ N (λi=>(N7 (!1)).symm) (u.q1,u.q2,u.dvd,u.rank) bo (Kz _) (λ_=>(rfl,rfl)) λh=>absurd h (!0)) (λF hM=>?hG) ?hE
  case hG =>
   rintro j env hj ⟨best,pl',p',q',a,b,O,t,cs,bo,rl,r0,r1⟩;rw[Ki]at hj;let el:(loops.map stL)[j]'(by rw[Ki];show hj)=stL loops[j]:=KJ ..;rw[el]
   cbv;let(l1,l2,i,l3):=W.loop loops[j] (KL hj);let X:cuts.take (j+1)=cuts.take j++[i]:=by rw[K3,show cuts[j]?=OV i by rw[W.cut,KM,Kk hj,Nl,l3.last l1]];rfl
   clear el;generalize loops[j]=l at *;let hi:i< -sts:=by
    cases l3 with
    |nil=>show absurd rfl l1
    |cons e _=>show rY (I _ _ e)
   let b0:xA sts l:=(l1,l2,λs hs=>by
    let(k,e):=l3.mem s hs;show(k,I k s e),by rw[l3.last l1];show hi)
   let s0:0<=fY l:=oX λs hs=>by
    let(k,e):=l3.mem s hs;show(st.stp _ _ (I k s e)).2.1
   let kB:1<=-l:=Mr.mpr l1;let less:q*fY l<p*-l:=as.loop u.ends l3 l1;let S:∃s,atI (l.map iE) (-1)=OV (iE s)/\s.2.1=i:=by
    rcases Lo l with z|⟨l0,s,z⟩
    show absurd z l1;rw[Lp]at z;let:=l3.last l1;rw[z]at this ⊢;rw[KC];show(s,mD _ _,by simpa using this)
   let(s,S,b2):=S
   w_up;let J:Dn (fY l) (-l)=.tuple [.int (lwP (fY l).toNat (-l):Nat),.int (lwQ (fY l).toNat (-l):Nat)]:=by let:=lX (fY l).toNat (-l);rw[Ms s0]at this;show this
   let qn:=pZ (a:=(fY l).toNat) kB;let qm:lwQ (fY l).toNat (-l)<=-l:=p7 _ _;let qd:lwQ (fY l).toNat (-l)∣D:=MO (Nat.div_dvd_of_dvd (Nv _ _)) (dv kB l2);let b3:lwP (fY l).toNat (-l)*q<p*lwQ (fY l).toNat (-l):=by
    cbv;let(e1,e2):=EQ (a:=(fY l).toNat) (b:=-l);let less:q*(fY l).toNat<p*-l:=by
     let:((q*(fY l).toNat:Nat):Int)<((p*-l:Nat):Int):=by rw[NO,NO,Ms s0];show less
     show Int.ofNat_lt.mp this
    generalize lwP (fY l).toNat (-l)=x at *;generalize lwQ (fY l).toNat (-l)=y at *;generalize rp (fY l).toNat (-l)=g at *
    w_up;rw[e1]at less;rw[e2]at less;show Nat.lt_of_mul_lt_mul_left (a:=g) ?_;rw[show g*(x*q)=q*(g*x) by rw[Mu x q,<-LJ,Mu g q,LJ],show g*(p*y)=p*(g*y) by rw[<-LJ,Mu g p,LJ]];show less
   lk;show(_,S,_,rfl,_,rfl,_,_,_,rfl,rfl,rfl,i,?hX,_,rfl,?hY)
   case hX =>
    rw[b2];show wu (by rw[Ki];lia)
   case hY =>
    rw[show((pl'.map fE).set i NR)=(pl'.set i OW).map fE from(N5 (f:=fE) (l:=pl') (i:=i) (a:=OW)).symm];let L:∀k,pkF (pl'.set i OW) k=kn (pkF ag) (cuts.take j++[i]) k:=λk=>by
     rw[BJ (!0),t k];unfold kn;by_cases z:k=i <;> simp[z]
    let Y:(pl'.set i OW).length=-sts:=by rw[A2];show O
    generalize pl'.set i OW=pl2 at *;lk;show(l,rfl,kB,!0,s0,?_);rw[J];lk;let b6:=cs.q2;show(_,_,_,_,rfl,sW (by omega +splitDisjunctions) (by omega +splitDisjunctions),sW (by omega +splitDisjunctions) (by omega +splitDisjunctions),?_);lk;show cC (λZ=>?hT) (λZ=>?hF)
    case hT =>
     lk;show(l,rfl,kB,!0,s0,?_);rw[J];let Z:lwP (fY l).toNat (-l)*q'<p'*lwQ (fY l).toNat (-l):=by exact_mod_cast Z
     let rk:=yf hD cs.dvd qd Z;lk;show .mk (OV l) pl2 _ _ _ _ Y (X▸L) (qn,!0,qd,by let:=cs.rank;lia) (.inr (l,rfl,b0,rfl,rfl)) (!0) (λz=>absurd z (NG j)) λ_=>!0
    case hF =>
     show(hM _).nx _ (.mk best pl2 p' q' _ _ Y (X▸L) cs bo rl (λz=>absurd z (NG j)) λ_=>?_);by_cases z:j=0
     .let(rfl,rfl):=r0 z;show absurd (by exact_mod_cast b3) Z
     show r1 (!0)
  case hE =>
   rintro env ⟨best,pl',p',q',a,b,O,t,cs,bo,rl,r0,r1⟩;rw[Ki]at t r0 r1;let b4:-cuts=-loops:=by rw[W.cut,Ki]
   let en:=W.fin λi s e=>rY (I i s e);rw[<-b4,La]at t;let a3:pkF pl'=kn (pkF ag) cuts:=funext t;let a4:ChI sts D (d8 D p0 q0) pl' p' q':=(cs,O,λi s e=>I i s (by
    rw[t i]at e;unfold kn at e;split at e;cases e;show e),λi=>by rw[a3];show en i)
   let(P',b5,lt):=ChI.less st hD (P:=λi=>Pl.getD i 0) as.val a4 (pl:=pl) (by
    by_cases z:-loops=0;right;let(rfl,rfl):=r0 z;let ec:cuts=[]:=MP.mp (!0);let e2:pkF pl'=pkF ag:=a3.trans (by rw[ec];funext i;show N7 (!1));rw[e2];show(rfl,rfl,as,Classical.byContradiction λhn=>ne (BK V.1 λi hi=>Decidable.byContradiction λhh=>hn (i,!0,hh)));show .inl (r1 (!0)))
   show(hN _).nx _ (_,lt,.mk best pl' p' q' P' _ _ _ _ a4 bo b5 rfl)
def lF{κ β:Type} [DecidableEq κ]{kvs:List (κ×β)}{k:κ}{v:β}(h:aJ kvs k=OW):c7 kvs k v=kvs++[(k,v)]:=by unfold c7;rw[h,N7 (!1)]
def eX{κ β:Type} [DecidableEq κ]{kvs:List (κ×β)}{k:κ}:k∈kvs.map (·.1)↔(aJ kvs k).isSome=OX:=by
 induction kvs with
 |nil=>simp[aJ]
 |cons p kvs a =>
  rw[aq,Kw,Kt,a];by_cases z:p.1=k;simp[z];rw[N7 z];show(λh=>h.resolve_left λe=>z e.symm,.inr)
abbrev Cm:=List (Nat×Option (Nat×OD))
noncomputable def cmV:Option (Nat×OD)->ab
 |none=>.none
 |some x=>.tuple [.int (x.1:Int),.list (li x.2)]
def cmD(x:Nat×Option (Nat×OD)):Int×ab:=((x.1:Int),cmV x.2)
def qg(cm:Cm)(i:Nat):aJ (cm.map cmD) (i:Int)=(aJ cm i).map cmV:=by
 induction cm with
 |nil=>rfl
 |cons x cm a =>
  rw[Kw,aq,aq,a];by_cases z:x.1=i;rw[N6 z,N6 (show(cmD x).1=(i:Int) by rw[<-z];rfl)];rfl;rw[N7 z,N7 (show ¬(cmD x).1=(i:Int) fromλe=>z (MQ.mp e))]
inductive Bk (sts:Om) (cm:Cm):Nat->Nat->Prop
 |root {i:Nat}:aJ cm i=some none->Bk sts cm i 0
 |step {i h m:Nat}{r:OD}:aJ cm i=some (some (h,r))->(∃j s,s∈sts.getD j []/\s.2.2=r)->Bk sts cm h m->Bk sts cm i (m+1)
structure CmI(sts:Om)(cm:Cm):Prop where
 nd : (cm.map (·.1)).Nodup
 lt : ∀x∈cm.map (·.1),x<sts.length
 bk : ∀x∈cm.map (·.1),∃m,m<cm.length/\Bk sts cm x m
def Bk.up(h:Bk sts cm i m)(y:Nat×Option (Nat×OD)):Bk sts (cm++[y]) i m:=by
 let g:∀{i v},aJ cm i=OV v->aJ (cm++[y]) i=OV v:=λe=>by rw[l8,e]
 induction h with
 |root e=>show .root (g e)
 |step e hs _ a=>show .step (g e) hs a
def CmI.put(c:CmI sts cm)(hk:k ∉ cm.map (·.1))(g:h∈cm.map (·.1))(i:k< -sts)(l:∃j s,s∈sts.getD j []/\s.2.2=r):CmI sts (cm++[(Pm k (OV (Pm h r)))]):=by
 let mem:∀x,x∈(cm++[(Pm k (OV (Pm h r)))]).map (·.1)->x∈cm.map (·.1)\/x=k:=λx hx=>by simpa using hx
 show⟨?_,λx hx=>?_,λx hx=>?_⟩;rw[KC];show Ky.mpr ⟨c.nd,!1,λa n b f z=>hk (by simp at f;rw[<-f,<-z];show n)⟩;rcases mem x hx with z|rfl;show c.lt x z;show i;rw[KD];rcases mem x hx with z|rfl;let(m,d,b):=c.bk x z;show⟨m,Mh d,b.up _⟩;let(m,d,b):=c.bk h g;show⟨m+1,Nat.succ_lt_succ d,.step ?_ l (b.up _)⟩;let:aJ cm x=OW:=by
  cases e:aJ cm x with
  |none=>rfl
  |some v=>show absurd (eX.mpr (by rw[e];rfl)) hk
 rw[l8,this];simp[aJ]
def CmI.len(c:CmI sts cm):-cm<=-sts:=by let:=fS _ _ c.nd c.lt;rwa [Ki]at this
inductive IX (sts:Om) (f t M:Nat):OL->Prop
 |mk (S:OO) (cm:Cm) (dn wt:OG) (a b c:Sl):CmI sts cm->cm.map (·.1)=dn++wt->f∈cm.map (·.1)->(∀x∈dn,∀s∈sts.getD x [],s.2.1∈cm.map (·.1))->M=sts.length-dn.length->IX sts f t M [.fr (.list (sts.map stL)),.fr (.int f),.fr (.int t),.tr S (dY (cm.map cmD)),.ow (nD wt),a,b,c]
inductive IW (sts:Om) (f t h:Nat) (dn:OG) (sh:OK) (m:Nat):OL->Prop
 |mk (S:OO) (cm:Cm) (wt:OG) (c d:Sl) (D:Os) (ws:OM):D=cm.map cmD->ws=nD wt->CmI sts cm->cm.map (·.1)=(dn++[h])++wt->f∈cm.map (·.1)->(∀x∈dn,∀s∈sts.getD x [],s.2.1∈cm.map (·.1))->(∀s∈sh.take m,s.2.1∈cm.map (·.1))->IW sts f t h dn sh m [.fr (.list (sts.map stL)),.fr (.int f),.fr (.int t),.tr S (dY D),.ow ws,.fr (.int h),c,d]
inductive IV (sts:Om) (f t:Nat) (S:OO) (cm:Cm) (wt:OG) (b:Sl) (M:Nat):OL->Prop
 |mk (rs:Ol) (here:Nat) (ws:OM):ws=lr rs->Bk sts cm here M->rs.length+M<=sts.length->(∀r∈rs,∃j s,s∈sts.getD j []/\s.2.2=r)->IV sts f t S cm wt b M [.fr (.list (sts.map stL)),.fr (.int f),.fr (.int t),.tr S (dY (cm.map cmD)),.ow (nD wt),.fr (.int here),b,.ow ws]
abbrev eL:Stmt:=top 27
def bj:aA ["steps","first","last","came","waiting","here","step","rows"] ["steps","first","last"] (ae eL):={}
inductive Bc:DSp
 |mk {ss R} (sts:Om) (C f t:Nat):ss=[.fr (.list (sts.map stL)),.fr (.int f),.fr (.int t)]->StI sts C->f<sts.length->((∃l,Gth (λi=>sts.getD i []) f l t))->(∀rs:Ol,rs.length<=sts.length->(∀r∈rs,∃j s,s∈sts.getD j []/\s.2.2=r)->R (.ow (lr rs)) [.un,.un,.un])->Bc ss R
set_option tactic.hygienic true in
def kx(F:Fun K "way_between" "way_between" eL f fd)(B:Bn mg):cg P w K mg base CX0 1 f fd ["steps","first","last"] (spD K Bc):=by
 show okD (k:=0) F bj (λss R h=>?_) (!2) (λcdv A outer s H E u=>⟨_,(af (ax 3 bj.nd (By (qf 1) gM))
   (af (ax 4 bj.nd (bD (aa (qf 1) ad)))
   (af (cr PassesOwn.never (aB gO lW (qv 2) (qv 3)) (af (ax 5 bj.nd (Ee 4 (K:=K) rfl rfl))
   (ak (cS PassesOwn.never rfl (aE (qx (qv 0) (qv 5))) (al 6 bj.nd) (ak (eV (aB gO lW (qx (qv 6) aj) (qv 3)) (af (vq 3 (K:=K) rfl rfl (qx (qv 6) aj) (bV (aa (qf 5) (aa (qx (qv 6) aj) ad))))
   (ak (cL (iR 4 (K:=K) rfl rfl (qx (qv 6) aj))))) aT))))))
   (af (ax 7 bj.nd (bD ad))
   (af (ax 5 bj.nd (qf 2))
   (af (cr PassesOwn.never (aB jO v7 (yj (Do (K:=K) rfl) Dm (qv 3) (qv 5)) gM) (af (cL (iR 7 (K:=K) rfl rfl (qx (yj (Do (K:=K) rfl) Dm (qv 3) (qv 5)) aj)))
   (ak (ax 5 bj.nd (qx (yj (Do (K:=K) rfl) Dm (qv 3) (qv 5)) aj)))))
   (af (cL (GW 7 (K:=K) rfl rfl))
   (ak (aR (qv 7)))))))))),λss R h=>?_⟩)
 let(sts,C,f,t,rfl,_):=h;rfl;let(sts,C,f,t,rfl,st,T,(lw,U),r):=h;let few:=st.few;lk;intro S;lk;show⟨Kr (!2) ai,?_⟩;lk;show gz (IX sts f t) ⟨_,.mk S [(Pm f OW)] [] [f] _ _ _ ⟨!1,by simpa using T,λx hx=>⟨0,!1,.root ?_⟩⟩ rfl (!1) (λx hx=>nomatch hx) rfl⟩ λE hN=>?_;obtain rfl:x=f:=by simpa using hx
 simp[aJ];rintro _ env ⟨S,cm,dn,wt,a,b,c,g,l,i,j,rfl⟩;let p:=qg cm t;lk;show⟨_,rfl,cC (λh1=>?hB) (λh1=>?hT)⟩
 case hB =>
  rw[p,Mv]at h1;let ht:t ∉ cm.map (·.1):=λz=>by
   rw[eX.mp z]at h1;cases h1
  cases wt with
  |nil =>
   rw[K1]at l;show absurd (ve (ks:=cm.map (·.1)) (λx hx s hs=>j x (l▸hx) s hs) U i) ht
  |cons h w =>
   show⟨_,_,rfl,?_⟩;let o:h∈cm.map (·.1):=by rw[l];simp
   let y:=g.lt h o;let(_,g2):=st.at' h y;let L:atI (sts.map stL) (h:Int)=OV (stL (sts.getD h [])):=cA (by
    rw[KM,Kn,Kk y];rfl)
   let N:=st.stp h;lk;show⟨_,L,?_⟩;generalize D:sts.getD h []=sh at *;lk;show dz (IW sts f t h dn sh) (.mk S cm w _ _ _ _ rfl rfl g (by rw[l];simp) i j (λs hs=>nomatch hs)) (λF hM=>?hG) ?hE
   case hG =>
    rintro m env I ⟨S,cm,wt,c,d,_,_,rfl,rfl,g,l,i,j,n⟩;rw[Ki]at I;let V:(sh.map iE)[m]'(by rw[Ki];show I)=iE sh[m]:=KJ ..;rw[V];let G:sh[m]∈sh:=KL I;let tk:sh.take (m+1)=sh.take m++[sh[m]]:=by rw[K3,Kk I];rfl
    generalize sh[m]=s at *;let p:=qg cm s.2.1;let o:h∈cm.map (·.1):=by rw[l];simp
    let cl:=g.len;lk;show⟨_,rfl,_,rfl,_,rfl,_,rfl,cC (λh2=>?hP) (λh2=>?hQ)⟩
    case hQ =>
     show(hM _).nx _ (.mk _ cm wt _ _ _ _ rfl rfl g l i j λx hx=>?_);rw[tk]at hx;rcases Km.mp hx with z|z;show n x z;rw[Kj.mp z];show eX.mpr ?_;rw[p,Mv]at h2;cases e:(aJ cm s.2.1).isSome with
     |true=>rfl
     |false=>show absurd e h2
    case hP =>
     rw[p,Mv]at h2;let hs:s.2.1 ∉ cm.map (·.1):=λz=>by
      rw[eX.mp z]at h2;cases h2
     let W:aJ (cm.map cmD) (s.2.1:Int)=OW:=by
      rw[p];cases e:aJ cm s.2.1 with
      |none=>rfl
      |some v=>rw[e]at h2;cases h2
     show⟨_,rfl,_,rfl,Kr (!2) ai,⟨_,rfl⟩,_,rfl,_,rfl,_,rfl,_,rfl,Ku (show(cm.map cmD).length<1000000 by rw[Ki];lia) ai,?_⟩;rw[lF W];lk;let e2:=congrArg eH l;rw[Ki,KD]at e2;let J:(cm++[(Pm s.2.1 (OV (Pm h s.2.2)))]).map (·.1)=cm.map (·.1)++[s.2.1]:=by rw[KC];rfl
     show⟨_,rfl,_,rfl,Ku (show(nD wt).length<1000000 by rw[Ki];lia) ai,(hM _).nx _ (.mk _ (cm++[(Pm s.2.1 (OV (Pm h s.2.2)))]) (wt++[s.2.1]) _ _ _ _ (by rw[KC];rfl) (by rw[nD,nD,KC];rfl) (g.put hs o (N s G).1 ⟨h,s,by rw[D];show G,rfl⟩) (by rw[J,l,KU (dn++[h])]) (by rw[J];show Kp _ i) (by rw[J];exactλx hx s' O=>Kp _ (j x hx s' O)) λx hx=>?_)⟩;rw[J];rw[tk]at hx;rcases Km.mp hx with z|z;show Kp _ (n x z);rw[Kj.mp z];simp
   case hE =>
    rintro env ⟨S,cm,wt,c,d,_,_,rfl,rfl,g,l,i,j,n⟩;rw[Ki,La]at n;let:=g.len;let e2:=congrArg eH l;rw[Ki,KD,KD]at e2;show(hN _).nx _ ⟨-sts-(dn++[h]).length,by rw[KD];simp at e2 ⊢;lia,.mk S cm (dn++[h]) wt _ _ _ g l i (λx hx s hs=>?_) rfl⟩;rcases Km.mp hx with z|z;show j x z s hs;rw[Kj.mp z,D]at hs;show n s hs
 case hT =>
  lk;show⟨KG _,?_⟩;lk;let ht:t∈cm.map (·.1):=eX.mpr (by
   rw[p,Mv]at h1;cases e:(aJ cm t).isSome with
   |true=>rfl
   |false=>show absurd e h1)
  let(X,Y,Z):=g.bk t ht;let cl:=g.len;show gz (IV sts f t S cm wt b) ⟨X,.mk [] t _ rfl Z (by simp;lia) (λr u=>nomatch u)⟩ λF hM=>?_;rintro M env ⟨rs,here,_,rfl,bk,hl,u⟩;let q:=qg cm here;lk;cases bk with
  |root e =>
   rw[e]at q;show⟨_,rfl,_,q,cC (λh=>by cases h) (λ_=>?_)⟩;lk;rw[show(lr rs).reverse=lr rs.reverse from(List.map_reverse ..).symm];show r rs.reverse (by rw[Ly];lia) λx hx=>u x (List.mem_reverse.mp hx)
  |step e hs bk =>
   rename_i hp m Q;rw[e]at q;show⟨_,rfl,_,q,cC (λ_=>⟨_,rfl,_,q,_,rfl,_,rfl,Ku (show(lr rs).length<1000000 by rw[Ki];lia) ai,?_⟩) (λh=>absurd rfl h)⟩;lk;show⟨_,rfl,_,q,_,rfl,_,rfl,(hM _).nx _ ⟨m,!0,.mk (rs++[Q]) hp _ (by rw[lr,lr,KC];rfl) bk (by rw[KD];simp only[K5];lia) λx hx=>?_⟩⟩;rcases Km.mp hx with z|z;show u x z;rw[Kj.mp z];show hs
abbrev dc:Stmt:=top 28
def iF:aA ["steps","first","loop","rows"] ["steps","first","loop"] (ae dc):={}
inductive o9:DSp
 |mk {ss R} (sts:Om) (C f:Nat) (l:OK):ss=[.fr (.list (sts.map stL)),.fr (.int f),.fr (stL l)]->StI sts C->f<sts.length->xA sts l->((∃m,Gth (λi=>sts.getD i []) f m (l.getLastD (0,0,[])).2.1))->(∀i s,s∈sts.getD i []->s.2.2.length<=1000)->(∀rs:Ol,R (.fr (.tuple [.list (lr rs),.list (lr (l.map (·.2.2)))])) [.un,.un,.un])->o9 ss R
def ni(F:Fun K "loop_plan" "loop_plan" dc f fd)(B:Bn mg)(a:Cal P w K mg base "way_between" 1 (spD K Bc)):cg P w K mg base CX0 2 f fd ["steps","first","loop"] (spD K o9):=by
 show okD (k:=1) F iF (λss R h=>?_) (!2) (λcdv A outer s H E o=>(_,(ce (ax 3 iF.nd (aH a (aa (qf 0) (aa (qf 1) (aa (qx (qx (qv 2) (z6 gE Ak aj)) aj) ad)))))
   (ak (aR (bV (aa (bZ (NN:=_::_) (sc0:=ae dc) (N':=["row"]) (ix:=[OW]) (aE (qf 3)) (λY Y Y Y=>(al 0 (!4))) (λY Y Y Y=>(lH (K:=K) rfl rfl B.list (aa (qv 0) ad)))) (aa (bZ (NN:=_::_) (sc0:=ae dc) (N':=["step"]) (ix:=[OW]) (aE (qf 2)) (λY Y Y Y=>(al 0 (!4))) (λY Y Y Y=>(lH (K:=K) rfl rfl B.list (aa (qx (qv 0) aj) ad)))) ad)))))),λss R h=>?_))
 let(sts,C,f,l,rfl,_):=h;rfl;let(sts,C,f,l,rfl,st,d,lo,g,j,r):=h;let few:=st.few;let lf:=lo.few;obtain⟨s,b,c⟩:∃s,atI (l.map iE) (-1)=OV (iE s)/\s.2.1=(l.getLastD (0,0,[])).2.1:=by
  rcases Lo l with z|⟨p,s,z⟩
  show absurd z lo.ne;rw[Lp]at z;rw[z,KC];show(s,mD _ _,!1)
 lk;show(_,b,_,rfl,_,rfl,sts,C,f,s.2.1,rfl,st,d,by rw[c];show g,λrs m n=>?_);lk;show b7 (λi=>.list (li (rs.getD i []))) (by rw[Ki];lia) (λi hi Q hQ=>?_) ?_
 .rw[iK];lk;show hQ
 rw[Ki,aQ rs [] (λr=>dt (li r))];lk;show b7 (λi=>.list (li (l.getD i (0,0,[])).2.2)) (by rw[Ki];lia) (λi hi Q hQ=>?_) ?_
 .rw[Ki]at hi;let e:(l.map iE)[i]'(by rw[Ki];show hi)=iE (l.getD i (0,0,[])):=by
   rw[KJ,Kn,Kk hi];rfl
  rw[e];unfold iE;lk;show hQ
 rw[Ki,aQ l (0,0,[]) (λs:Stp=>dt (li s.2.2))];lk;show(Kr (!2) ai,?_);let:=r rs;rw[show lr (l.map (·.2.2))=l.map (λs:Stp=>dt (li s.2.2)) from KQ ..]at this;show this
abbrev fw:Stmt:=top 16
def cW:aA ["ways","leading","standing","way"] ["ways"] (ae fw):={}
def lQ(F:Fun K "leading_to" "leading_to" fw f fd)(B:Bn mg):cg P w K mg base CX0 1 f fd ["ways"] (spD K uV):=by
 show F.ok (k:=0) cW (λvs H Q E h=>?_) λcdv A outer s H vs Q E b h=>(A8 K,lJ (z9 (i:=1) cW.nd rfl cb vH) (lJ (vy PassesOwn.never rfl (Ad (bJ (i:=0) rfl cb)) (pJ (i:=2) cW.nd rfl cb) (lI (vy PassesOwn.never rfl (vD (pL (IF (hu2 b)) (bJ (i:=0) rfl cb) (bJ (i:=2) rfl cb) (λY Y=>rfl))) (pJ (i:=3) cW.nd rfl cb) (lI (pG (ED ei n2 n0 jS (Ae ol tu ti (t9 (hu2 b)) (bJ (i:=1) rfl cb) (b8 (pL (iM rfl) (bJ (i:=3) rfl cb) kL (λY Y=>rfl)) (b8 (vG d9) d9))) (b8 (bJ (i:=2) rfl cb) d9))))))) (lI (Aa (bJ (i:=1) rfl cb)))),?_)
 let(M,ss,R,a,_,(W,rfl,_),_):=h;show a;let e:=yK h;let(M,ss,R,a,_,(W,rfl,_),_):=h;let(v,rfl):=kB a;show e
section
variable{α:Type}[DecidableEq α][BEq α][LawfulBEq α]
def BX(succ:α->List α)(lost:List α)(s:α):Nat:=(succ s).countP λt=>decide (t ∉ lost)
def oA(l:List α)(lost:List α)(x:α)(hx:x ∉ lost):l.countP (λt=>decide (t ∉ lost))=l.countP (λt=>decide (t ∉ lost++[x]))+l.count x:=by
 induction l with
 |nil=>rfl
 |cons a l b =>
  rw[NA,NA,DL,b];by_cases z:a=x;subst z;simp[hx];lia;by_cases w:a∈lost;simp[w,z];simp[w,z];lia
structure LoI(ks:List α)(succ:α->List α)(opens:α->Int)(wait lost:List α):Prop where
 nd : (lost++wait).Nodup
 sub:∀s∈lost++wait,s∈ks
 opn:∀s∈ks,opens s=BX succ lost s
 all:∀s∈ks,s∈lost++wait↔opens s=0
structure LoW(ks:List α)(succ:α->List α)(opens:α->Int)(wait lost:List α)(x:α)(todo:List α):Prop where
 nd : ((lost++[x])++wait).Nodup
 sub:∀s∈(lost++[x])++wait,s∈ks
 opn:∀s∈ks,opens s=BX succ (lost++[x]) s+todo.count s
 all:∀s∈ks,s∈(lost++[x])++wait↔opens s=0
 todo:∀s∈todo,s∈ks
variable{ks wait lost todo:List α}{succ:α->List α}{opens:α->Int}{x y:α}
def LoI.start(nd:ks.Nodup):LoI ks succ (λs=>((succ s).length:Int)) (ks.filter λs=>(succ s).isEmpty) []:=by show((show(ks.filter _).Nodup from List.Pairwise.filter _ nd),λs hs=>by simp at hs;show hs.1,λs hs=>?_,λs hs=>?_);unfold BX;rw[List.countP_eq_length.mpr λa Y=>!1];simp[hs]
def LoI.pop(h:LoI ks succ opens (wait++[x]) lost)(lead:List α)(a:∀s∈ks,lead.count s=(succ s).count x)(hk:∀s∈lead,s∈ks):LoW ks succ opens wait lost x lead:=by
 let pm:((lost++[x])++wait).Perm (lost++(wait++[x])):=by rw[KU];show eh _ Li
 let hx:x ∉ lost:=λz=>by
  let:=Ky.mp h.nd;show this.2.2 x z x (!1) rfl
 show(pm.nodup_iff.mpr h.nd,λs hs=>h.sub s (pm.mem_iff.mp hs),λs hs=>?_,λs hs=>?_,hk);rw[h.opn s hs,a s hs];unfold BX;rw[oA (succ s) lost x hx];simp;rw[pm.mem_iff];show h.all s hs
def LoW.fin(h:LoW ks succ opens wait lost x []):LoI ks succ opens wait (lost++[x]):=(h.nd,h.sub,λs hs=>by rw[h.opn s hs];simp,h.all)
def LoW.pos(h:LoW ks succ opens wait lost x (y::todo)):0<opens y:=by let a:=h.todo y (!1);let:=h.opn y a;rw[M7]at this;lia
def LoW.step(h:LoW ks succ opens wait lost x (y::todo))(o':α->Int)(ho:∀s,o' s=if s=y then opens y-1 else opens s):LoW ks succ o' (if o' y=0 then wait++[y] else wait) lost x todo:=by
 let g:=h.todo y (!1);let k:=h.pos;let l:o' y=opens y-1:=by rw[ho,N6 rfl]
 let f:y ∉ (lost++[x])++wait:=λz=>by let:=(h.all y g).mp z;lia
 let c:∀s∈ks,o' s=BX succ (lost++[x]) s+todo.count s:=λs hs=>by
  let:=h.opn s hs;rw[ho];by_cases z:s=y;subst z;rw[M7]at this;rw[N6 rfl];lia;rw[N7 z,this,List.count_cons_of_ne (λe=>z e.symm)]
 let d:∀s∈todo,s∈ks:=λs hs=>h.todo s (by simp[hs]);by_cases z:o' y=0;rw[N6 z];let e:(lost++[x])++(wait++[y])=((lost++[x])++wait)++[y]:=!1
 show(?_,λs hs=>?_,c,λs hs=>?_,d);rw[e];show Ky.mpr (h.nd,!1,λa j b i w=>f (by rw[Kj]at i;rw[<-i,<-w];show j));rw[e]at hs;rcases Km.mp hs with w|w;show h.sub s w;rw[Kj.mp w];show g;rw[e,Km,Kj,h.all s hs,ho];by_cases w:s=y;subst w;rw[N6 rfl];show(λY=>!0,λY=>.inr rfl);rw[N7 w];simp[w];rw[N7 z];show(h.nd,h.sub,c,λs hs=>?_,d);rw[h.all s hs,ho];by_cases w:s=y;subst w;rw[N6 rfl];lia;rw[N7 w]
def LoI.fin(h:LoI ks succ opens [] lost){s:α}(hs:s∈ks)(a:s ∉ lost):∃t∈succ s,t ∉ lost:=by
 let h1:opens s≠0:=λz=>a (by simpa using(h.all s hs).mpr z);rw[h.opn s hs]at h1;let:0<BX succ lost s:=!0
 let(t,ht,b):=List.countP_pos_iff.mp this;show(t,ht,of_decide_eq_true b)
def Off(succ:α->List α)(l:List α):Prop:=∀A:α->Prop,(∀s,A s->∃t∈succ s,A t)->∀s∈l,¬A s
def Off.add(h:Off succ (lost++wait))(a:∀t∈succ y,t∈lost):Off succ (lost++(wait++[y])):=λA hA s hs z=>by
 rw[<-KU,Km,Kj]at hs;rcases hs with w|rfl;show h A hA s w z;let(t,ht,at'):=hA s z;show h A hA t (Kp _ (a t ht)) at'
def rO(h:BX succ lost y=0):∀t∈succ y,t∈lost:=λt ht=>by
 let:=List.countP_eq_zero.mp h t ht;simpa using this
end
def cD(W:Wd)(x:ar):OQ:=((aJ W x).getD []).map (·.2)
def mG(ld:Ldl)(y:ar):OQ:=(aJ ld y).getD []
def y9(ld:Ldl)(y x a:ar):mG (k4 ld y x) a=if a=y then mG ld y++[x] else mG ld a:=by
 induction ld with
 |nil =>
  unfold k4 mG;rw[aq];by_cases z:a=y;subst z;simp[aJ];let b:¬y=a:=λe=>z e.symm;simp[z,b,aJ]
 |cons p ld c =>
  unfold k4;by_cases w:p.1=y;rw[N6 w];unfold mG;rw[aq,aq,aq];by_cases z:a=y;subst z;simp[w];let b:¬p.1=a:=λe=>z (by rw[<-e,w]);simp[z,b];rw[N7 w];unfold mG at c ⊢;rw[aq,aq,aq];by_cases v:p.1=a;let z:¬a=y:=λe=>w (by rw[v,e]);simp[v,z];rw[N7 v,N7 v,c,N7 w]
def zA(x z y:ar)(qs:List (ab×ar))(ld:Ldl):(mG (uz ld x qs) y).count z=(mG ld y).count z+if z=x then (qs.map (·.2)).count y else 0:=by
 induction qs generalizing ld with
 |nil=>simp[uz]
 |cons q qs c =>
  show(mG (uz (k4 ld q.2 x) x qs) y).count z=_;rw[c,y9,Kw,DL];by_cases a:y=q.2 <;> by_cases b:z=x
  subst a b;simp;lia;subst a;let d:¬x=z:=λe=>b e.symm;simp[b,DL,d];subst b;let f:¬q.2=y:=λe=>a e.symm;simp[a,f];simp[a,b]
theorem sV(z y:ar):∀(W:Wd) (ld:Ldl),(W.map λp=>p.1).Nodup->(mG (W.foldl (λld p=>uz ld p.1 p.2) ld) y).count z=(mG ld y).count z+(cD W z).count y
 |[],ld,_=>by simp[cD,aJ]
 |p :: W,ld,nd=>by
  rw[Kw]at nd;let(a,b):=KY.mp nd;rw[B2,sV z y W _ b,zA];unfold cD;rw[aq];by_cases h:p.1=z;let hn:aJ W z=OW:=by
   cases e:aJ W z with
   |none=>rfl
   |some v=>show absurd (eX.mpr (by rw[e];rfl)) (h▸a)
  rw[N6 h,N6 h.symm,hn];simp;rw[N7 h,N7 λe=>h e.symm];lia
def ud(nd:(W.map λp=>p.1).Nodup)(z y:ar):(mG (dD W) y).count z=(cD W z).count y:=by let:=sV z y W [] nd;unfold dD;simpa[mG,aJ] using this
def zd(ld:Ldl)(y:ar):(aJ (qa ld) y).getD (.list [])=.list ((mG ld y).map λk=>aN k):=by
 induction ld with
 |nil=>rfl
 |cons p ld a =>
  unfold mG at a ⊢;show(aJ ((p.1,_)::qa ld) y).getD _=_;rw[aq,aq];by_cases z:p.1=y;simp[z];rw[N7 z,N7 z];show a
def Cs(W:Wd)(x:ar):aJ (wdK W) x=(aJ W x).map λqs=>.list (qs.map xH):=by
 induction W with
 |nil=>rfl
 |cons p W a =>
  show aJ ((p.1,_)::wdK W) x=_;rw[aq,aq];by_cases z:p.1=x;simp[z];rw[N7 z,N7 z];show a
def opK(ks:OQ)(o:ar->Int):Ou:=ks.map λk=>(k,.int (o k))
def jP(ks:OQ)(o:ar->Int)(y:ar):aJ (opK ks o) y=if y∈ks then OV (.int (o y)) else OW:=by
 induction ks with
 |nil=>rfl
 |cons k ks a =>
  show aJ ((k,_)::opK ks o) y=_;rw[aq];by_cases z:k=y;subst z;simp;rw[N7 z,a];let b:¬y=k:=λe=>z e.symm;simp[b]
def B1(h:y∈ks)(v:Int):c7 (opK ks o) y (.int v)=opK ks λs=>if s=y then v else o s:=by unfold c7;rw[jP,N6 h,N6 (by rfl),opK,opK,KQ];show ry λk Y=>?_;by_cases z:k=y;subst z;simp;simp[z]
def vR(h:y ∉ ks):c7 (opK ks o) y (.int (o y))=opK (ks++[y]) o:=by rw[lF (by rw[jP,N7 h]),opK,opK,KC];rfl
def loK(l:OQ):Ou:=l.map λk=>(k,.bool OX)
def p8(l:OQ)(y:ar):(aJ (loK l) y).isSome=decide (y∈l):=by
 induction l with
 |nil=>rfl
 |cons k l a =>
  show(aJ ((k,_)::loK l) y).isSome=_;rw[aq];by_cases z:k=y;subst z;simp;rw[N7 z,a];let b:¬y=k:=λe=>z e.symm;simp[b]
def B6(h:y ∉ l):c7 (loK l) y (.bool OX)=loK (l++[y]):=by
 let:aJ (loK l) y=OW:=by
  let:=p8 l y;rw[decide_eq_false h]at this;cases e:aJ (loK l) y with
  |none=>rfl
  |some v=>rw[e]at this;cases this
 rw[lF this,loK,loK,KC];rfl
structure FS(W:Wd)(lost:OQ):Prop where
 sub:∀x∈lost,x∈W.map λp=>p.1
 fin:∀x∈W.map λp=>p.1,x ∉ lost->∃y∈cD W x,y ∉ lost
 shut:∀x∈lost,∀y∈cD W x,y∈lost
 off:Off (cD W) lost
structure WdI(W:Wd):Prop where
 nd : (W.map λp=>p.1).Nodup
 few:W.length<=2000
 rows:∀p∈W,p.2.length<=100
 cl : ∀p∈W,∀q∈p.2,q.2∈W.map λp=>p.1
inductive Jf (W:Wd) (ks:OQ) (i:Nat):OL->Prop
 |mk (S:OO) (a b c d:Sl) (D:Ou):D=opK (ks.take i) (λs=>((cD W s).length:Int))->Jf W ks i [.fr (br (wdK W)),.fr (br (qa (dD W))),.tr S (br D),a,b,c,d]
inductive Je (W:Wd) (ks:OQ) (M:Nat):OL->Prop
 |mk (S S2:OO) (o:ar->Int) (wait lost:OQ) (c d:Sl):LoI ks (cD W) o wait lost->Off (cD W) (lost++wait)->M=ks.length-lost.length->Je W ks M [.fr (br (wdK W)),.fr (br (qa (dD W))),.tr S (br (opK ks o)),c,.ow (wait.map λk=>aN k),.tr S2 (br (loK lost)),d]
inductive Jd (W:Wd) (ks:OQ) (S2:OO) (lost:OQ) (x:ar) (lead:OQ) (m:Nat):OL->Prop
 |mk (S:OO) (o:ar->Int) (wait:OQ) (d:Sl) (ls:OM):ls=wait.map (λk=>aN k)->LoW ks (cD W) o wait lost x (lead.drop m)->Off (cD W) ((lost++[x])++wait)->Jd W ks S2 lost x lead m [.fr (br (wdK W)),.fr (br (qa (dD W))),.tr S (br (opK ks o)),.fr (aN x),.ow ls,.tr S2 (br (loK (lost++[x]))),d]
abbrev dF:Stmt:=top 17
def bv:aA ["ways","leading","open_ways","standing","waiting","lost","other"] ["ways"] (ae dF):={}
inductive uS:DSp
 |mk {ss R} (W:Wd):ss=[.fr (br (wdK W))]->WdI W->(∀lost,FS W lost->R (.fr (br (loK lost))) [.un])->uS ss R
def lO(F:Fun K "lost_among" "lost_among" dF f fd)(B:Bn mg)(l:Cal P w K mg base "leading_to" 1 (spD K uV)):cg P w K mg base CX0 2 f fd ["ways"] (spD K uS):=by
 show okD (k:=1) F bv (λss R h=>?_) (!2) (λcdv A outer s H E U=>(_,(af (ax 1 bv.nd (aH l (aa (qf 0) ad)))
   (af (ax 2 bv.nd gN)
   (af (cS PassesOwn.never rfl (kJ (qf 0)) (al 3 bv.nd) (ak (fD 2 (K:=K) rfl (hu2 U) rfl (qf 3) (km B.len (qxK (qv 0) (qv 3))))))
   (af (bR 4 bv.nd (NN:=_::_) (sc0:=ae dF) (N':=["standing","ways"]) (ix:=[OW,OV 0]) (kJ (qf 0)) (λ_ _ _ _=>(al 0 (!4))) (λ_ _ _ _=>(qf 0)) (ht:=(λ_ _ _ _=>(eU (vk (i9 (K:=K) rfl (qxK (qv 1) (qv 0))))))))
   (af (ax 5 bv.nd gN)
   (af (cr PassesOwn.never (i9 (K:=K) rfl (qv 4)) (af (ax 3 bv.nd (tR 4 (K:=K) rfl rfl))
   (af (fD 5 (K:=K) rfl (hu2 U) rfl (qf 3) vv)
   (ak (cS PassesOwn.never rfl (aE (Eh (K:=K) rfl (hu2 U) (qv 1) (qf 3) (bD ad))) (al 6 bv.nd) (af (Ek 2 (K:=K) rfl (hu2 U) rfl Fh (qf 6) aj)
   (ak (eV (aB fg nC (qxK (qv 2) (qv 6)) aj) (ak (cL (iR 4 (K:=K) rfl rfl (qf 6)))) aT))))))))
   (fC 5 (ak (aR (qv 5)))))))))),λss R h=>?_))
 let(W,rfl,_):=h;rfl;let(W,rfl,I,r):=h;let few:=I.few;let J:∀n:Nat,n<1000000->n<sizeLine:=λn h=>Ku h ai;let T:∀p∈W,aJ (wdK W) p.1=OV (.list (p.2.map xH)):=λp N=>by rw[Cs,iy I.nd N];rfl
 lk;show(W,rfl,I.nd,I.few,I.rows,?_);lk;intro S;lk;let ek:(wdK W).map (λp=>aN p.1)=(W.map λp=>p.1).map (λk=>aN k):=by simp[wdK]
 show(wdK W,rfl,?_);rw[ek];let kin:∀k∈W.map (λp=>p.1),∃qs,aJ W k=OV qs/\aJ (wdK W) k=OV (.list (qs.map xH))/\qs.length<=100:=λk hk=>by
  let(p,N,rfl):=Ko.mp hk;show(p.2,iy I.nd N,T p N,I.rows p N)
 let nd:=I.nd;let b2:(W.map λp=>p.1).length<=2000:=by rw[Ki];show few
 let D:∀{k qs},aJ W k=OV qs->cD W k=qs.map (·.2):=λe=>by unfold cD;rw[e];rfl
 let cl:∀k∈W.map (λp=>p.1),∀y∈cD W k,y∈W.map λp=>p.1:=λk hk y V=>by
  let(p,N,rfl):=Ko.mp hk;rw[D (iy I.nd N)]at V;let(q,hq,rfl):=Ko.mp V;show I.cl p N q hq
 let lc:=λz y=>ud nd z y;clear ek T;generalize L:(W.map λp=>p.1)=ks at *;show dz (Jf W ks) (.mk S _ _ _ _ _ rfl) (λE hN=>?h1) ?h2
 case h1 =>
  rintro i env hi ⟨S,a,b,c,d,_,rfl⟩;rw[Ki]at hi;rw[KJ];let Y:ks[i]∈ks:=KL hi;let Z:ks[i] ∉ ks.take i:=λz=>by
   let(j,hj,e):=K7 z;rw[Mk]at e;rw[K8]at hj;let:=(L5 nd).mp e;lia
  let a3:ks.take (i+1)=ks.take i++[ks[i]]:=by rw[K3,Kk hi];rfl
  generalize ks[i]=k at *;let(qs,g1,g2,g3):=kin k Y;let X:(qs.map xH).length=(cD W k).length:=by rw[D g1,Ki,Ki]
  lk;show(_,rfl,k,rfl,rfl,_,g2,_,rfl,(_,rfl),_,rfl,k,rfl,rfl,J _ ?_,(hN _).nx _ (.mk _ _ _ _ _ _ ?_));rw[opK,Ki,K8];lia;rw[X,a3];show vR (o:=λs=>((cD W s).length:Int)) Z
 case h2 =>
  rintro env ⟨S,a,b,c,d,_,rfl⟩;rw[Ki,La];lk;show(wdK W,rfl,?_);rw[show(wdK W).map (λp=>aN p.1)=ks.map (λk=>aN k) by rw[<-L];simp[wdK]];show cy (λj=>(cD W (ks.getD j (0,[]))).isEmpty) (λj=>aN (ks.getD j (0,[]))) (by rw[Ki];lia) (λj hj Q Q' h1 h2=>?h3) ?h4
  case h3 =>
   rw[Ki]at hj;rw[KJ];let ej:ks.getD j (0,[])=ks[j]:=by simp[Kn,hj]
   let a4:ks[j]∈ks:=KL hj;rw[ej]at h1 h2;clear ej;generalize ks[j]=k at *;let(qs,g1,g2,g3):=kin k a4;let X:(cD W k).isEmpty=(qs.map xH).isEmpty:=by rw[D g1];cases qs <;> rfl
   lk;show(_,rfl,k,rfl,rfl,_,g2,_,rfl,cC (λz=>h1 ?_) (λz=>h2 ?_));rw[X];cases e:(qs.map xH).isEmpty with
   |true=>rfl
   |false=>rw[e]at z;cases z
   rw[X];cases e:(qs.map xH).isEmpty with
   |true=>rw[e]at z;show absurd rfl z
   |false=>rfl
  case h4 =>
   rw[Ki,bM ks (0,[]) (λk=>(cD W k).isEmpty) (λk=>aN k)];lk;intro S2;lk;show gz (Je W ks) (_,.mk S S2 (λs=>((cD W s).length:Int)) (ks.filter λk=>(cD W k).isEmpty) [] _ _ (LoI.start nd) (λA hA s hs z=>?hO) rfl) λF hM=>?hW
   case hO =>
    let(t,ht,_):=hA s z;let hs:s∈ks/\cD W s=[]:=by simpa using hs
    rw[hs.2]at ht;cases ht
   case hW =>
    rintro _ env ⟨S,S2,o,wait,lost,c,d,lo,off,rfl⟩;lk;rcases Lo wait with rfl|⟨wait,x,rfl⟩
    .show cC (λz=>by simp at z) (λ_=>?_);lk;let zero:∀s∈lost,o s=0:=λs hs=>(lo.all s (lo.sub s (by simpa using hs))).mp (by simpa using hs);show r lost (λs hs=>?_,λs hs hn=>?_,λs hs y V=>?_,by simpa using off);rw[L];show lo.sub s (by simpa using hs);rw[L]at hs;show lo.fin hs hn;let a5:=lo.sub s (by simpa using hs);let:=lo.opn s a5;rw[zero s hs]at this;show rO (!0) y V
    .rw[Lp]at lo off ⊢;show cC (λ_=>?_) (λz=>absurd (!1) z);show(aN x,!1,?_);rw[show((wait++[x]).map λk=>aN k).dropLast=wait.map λk=>aN k by simp];let O:∀s∈mG (dD W) x,s∈ks:=λs hs=>by
      let h1:=List.count_pos_iff.mpr hs;rw[lc]at h1;let h2:(aJ W s).isSome=OX:=by
       cases e:aJ W s with
       |none=>simp[cD,e]at h1
       |some v=>rfl
      rw[<-L];show eX.mpr h2
     let u:=lo.pop (mG (dD W) x) (λs _=>lc s x) O;let g:Off (cD W) ((lost++[x])++wait):=λA hA s hs=>off A hA s (by simp at hs ⊢;show hs.elim .inl λh=>.inr (Or.symm h));let a6:x ∉ lost:=λz=>by
      let:=(Ky.mp (Ky.mp u.nd).1).2.2;show this x z x (!1) rfl
     let C:=cM u.nd u.sub;let b3:x∈ks:=u.sub x (!1);rw[KD,KD,K5]at C;let a7:(loK lost).length<sizeLine:=J _ (by rw[loK,Ki];lia);let gl:=zd (dD W) x;generalize mG (dD W) x=lead at *;clear lo off;lk;show((_,rfl),_,rfl,x,rfl,rfl,a7,?_);rw[B6 a6];lk;show((_,rfl),KG _,_,rfl,x,rfl,rfl,_,gl,?_);show dz (Jd W ks S2 lost x lead) (.mk S o wait _ _ rfl u g) (λG hL=>?hG) ?hE
     case hG =>
      clear u g C;rintro m env hm ⟨S,o,wait,d,_,rfl,u,g⟩;rw[Ki]at hm;rw[KJ];rw[Lb hm]at u;let M:lead[m]∈ks:=O _ (KL hm);generalize lead[m]=y at *;let C:=cM u.nd u.sub;rw[KD,KD,K5]at C;let st:=u.step (λs=>if s=y then o y-1 else o s) λs=>rfl;let b0:aJ (opK ks o) y=OV (.int (o y)):=by rw[jP,N6 M]
      let hok:(opK ks o).length<sizeLine:=J _ (by rw[opK,Ki];lia);let eo:(λs=>if s=y then o y-1 else o s) y=o y-1:=N6 rfl;rw[show(if y=y then o y-1 else o y)=o y-1 from N6 rfl]at st;lk;show((_,rfl),_,rfl,y,rfl,rfl,_,b0,rfl,rfl,rfl,hok,?_);rw[B1 M];generalize (λs=>if s=y then o y-1 else o s)=o' at *;rw[<-eo]at st;lk;show(_,rfl,y,rfl,rfl,_,by rw[jP,N6 M],_,rfl,cC (λz=>?hz) (λz=>?hn))
      case hz =>
       rw[N6 z]at st;show(J _ (by rw[Ki];lia),(hL _).nx _ (.mk _ o' (wait++[y]) _ _ (by rw[KC];rfl) st ?_));let:=st.opn y M;rw[z]at this;show g.add (rO (!0))
      case hn =>
       rw[N7 z]at st;show(hL _).nx _ (.mk _ o' wait _ _ rfl st g)
     case hE =>
      rintro env ⟨S,o,wait,d,_,rfl,u,g⟩;rw[Ki,List.drop_length]at u;let lf:=u.fin;let C:=cM lf.nd lf.sub;rw[KD,KD,K5]at C;show(hM _).nx _ (-ks-(lost++[x]).length,by rw[KD,K5];lia,.mk S S2 o wait (lost++[x]) _ _ lf g rfl)
abbrev Lw:=N8
abbrev kyw(L:Lw):OH:=L.map (·.1)
def wyS(s o:OD)(x:Std)(r:OD):ab:=.tuple [.list (li r),stS (bQ s o x r)]
def lwK(s o:OD)(L:Lw):Ou:=L.map λp=>(kOf p.1,.list (p.2.map (wyS s o p.1)))
def lwW(s o:OD)(L:Lw):Wd:=L.map λp=>(kOf p.1,p.2.map λr=>(dt (li r),kOf (bQ s o p.1 r)))
def toL(s o:OD)(L:Lw):Lds:=L.map λp=>(p.1,p.2.map (bQ s o p.1))
def ER(s o:OD)(L:Lw):wdK (lwW s o L)=lwK s o L:=by unfold wdK lwW lwK;rw[KQ];show ry λp Y=>?_;simp only[Function.comp,KQ];rfl
def eF(s o:OD)(L:Lw):kys (toL s o L)=kyw L:=by simp[kys,kyw,toL]
def v9(s o:OD)(L:Lw)(x:Std):aJ (lwK s o L) (kOf x)=(L.find? λp=>decide (p.1=x)).map λp=>.list (p.2.map (wyS s o p.1)):=by
 induction L with
 |nil=>rfl
 |cons p L a =>
  show aJ ((kOf p.1,_)::lwK s o L) _=_;rw[aq,a,Lc];by_cases h:p.1=x;rw[N6 (by rw[h])];simp[h];rw[N7 λz=>h (jW z)];simp[h]
def f7(s o:OD)(L:Lw)(x:Std):(aJ (lwK s o L) (kOf x)).isSome=decide (x∈kyw L):=by
 rw[v9]
 induction L with
 |nil=>rfl
 |cons p L a =>
  rw[Lc];by_cases h:p.1=x;simp[h];let h':¬x=p.1:=λz=>h z.symm;simp only[h,decide_false,a];simp[h']
def gR(nd:(kyw L).Nodup)(a:p∈L):aJ (lwK s o L) (kOf p.1)=OV (.list (p.2.map (wyS s o p.1))):=by
 rw[v9]
 induction L with
 |nil=>cases a
 |cons q L b =>
  let(c,d):=KY.mp nd;rw[Lc];rcases Kt.mp a with e|e;subst e;simp;let:¬q.1=p.1:=λz=>c (Ko.mpr (p,e,z.symm));simp only[this,decide_false];show b d e
def jT(h:x ∉ kyw L):c7 (lwK s o L) (kOf x) (.list (v.map (wyS s o x)))=lwK s o (L++[(x,v)]):=by unfold c7;rw[N7 (by rw[f7];simpa using h)];simp[lwK]
def dX(s o:OD)(L:Lw):(lwK s o L).length=-L:=Ki ..
inductive FP (s o:OD) (x0:Std):Std->Prop
 |refl:FP s o x0 x0
 |step {y z:Std}:FP s o x0 y->z∈A9 s o y->FP s o x0 z
structure FlW(s o:OD)(x0:Std)(L:Lw)(pile:OH):Prop where
 fil:Fil s o x0 (toL s o L) pile
 rows:∀p∈L,p.2.Perm (gq s.length (o.getD p.1.1 0) p.1.2)
 few:∀p∈L,p.2.length<64
 rch:∀x,x∈pile\/x∈kyw L->FP s o x0 x
section
theorem FlW.init(h:IsS s o x0):FlW s o x0 [] [x0]:=(Fil.init h,!1,!1,λx hx=>by
 rcases hx with z|z;rw[Kj.mp z];show .refl;cases z)
theorem FlW.nd(h:FlW s o x0 L pile):(kyw L).Nodup:=by rw[<-eF s o];show h.fil.nd
theorem FlW.skip(h:FlW s o x0 L (pile++[x]))(hx:x∈kyw L):FlW s o x0 L pile:=(h.fil.skip (by rw[eF];show hx),h.rows,h.few,λy a=>h.rch y (a.imp (λz=>by simp[z]) id))
theorem FlW.add(hs:∀c∈s,1<=c)(h:FlW s o x0 L (pile++[x]))(hx:x ∉ kyw L)(hv:v.Perm (gq (-s) (o.getD x.1 0) x.2))(b:-v<64):FlW s o x0 (L++[(x,v)]) (pile++v.map (bQ s o x)):=by
 let e:toL s o (L++[(x,v)])=toL s o L++[(x,v.map (bQ s o x))]:=by simp[toL]
 let d:=h.rch x (.inl (!1));show(by rw[e];show h.fil.add hs (by rw[eF];show hx) (hv.map _) (by rw[Ki];show b),λp a=>?_,λp a=>?_,λy f=>?_);rcases Km.mp a with z|z;show h.rows p z;rw[Kj.mp z];show hv;rcases Km.mp a with z|z;show h.few p z;rw[Kj.mp z];show b;rcases f with z|z;rcases Km.mp z with z|z;show h.rch y (.inl (by simp[z]));let(r,g,rfl):=Ko.mp z;show .step d (Ko.mpr (r,hv.mem_iff.mp g,rfl));simp only[kyw,KC,Kw,LQ,Km,Kj]at z;rcases z with z|z;show h.rch y (.inr z);rw[z];show d
def FlW.len(h:FlW s o x0 L pile):-L<=(fX s o).length:=by let:=h.fil.few;simpa[toL] using this
end
inductive JD (s o:OD) (m:Nat):OL->Prop
 |mk (L:Lw) (pile:OH) (S:OO) (c:Sl) (ps:OM):ps=pile.map stS->FlW s o (0,s) L pile->m=((fX s o).length-L.length)*64+pile.length->JD s o m [.fr (.tuple [.list (li s),.list (li o)]),.tr S (br (lwK s o L)),.ow ps,c]
abbrev d7:Stmt:=top 15
def eK:aA ["town","ways","waiting","standing"] ["town"] (ae d7):={}
inductive uZ:DSp
 |mk {ss R} (s o:OD):ss=[.fr (.tuple [.list (li s),.list (li o)])]->TbL s o->(fX s o).length<=2000->(∀L:Lw,FlW s o (0,s) L []->R (.fr (br (lwK s o L))) [.un])->uZ ss R
def pQ(F:Fun K "all_ways" "all_ways" d7 f fd)(B:Bn mg)(j:Cal P w K mg base "begun" 1 (spD K jw))(a:Cal P w K mg base "choices" 6 (spD K gH))(b:Cal P w K mg base "behind" 1 (spD K i5)):cg P w K mg base CX0 7 f fd ["town"] (spD K uZ):=by
 show okD (k:=6) F eK (λss R h=>?_) (!2) (λcdv A outer s H E G=>⟨_,(af (ax 1 eK.nd gN)
   (af (ax 2 eK.nd (bD (aa (aH j (aa (qf 0) ad)) ad)))
   (af (cr PassesOwn.never (i9 (K:=K) rfl (qv 2)) (af (ax 3 eK.nd (tR 2 (K:=K) rfl rfl))
   (ak (eV (aB (gn (K:=K) rfl (hu2 G)) gj (qv 3) (qv 1)) (af (fD 1 (K:=K) rfl (hu2 G) rfl (qf 3) (bZ (NN:=_::_) (sc0:=ae d7) (N':=["row","town","standing"]) (ix:=[OW,OV 0,OV 3]) (aE (aH a (aa (qf 0) (aa (qf 3) ad)))) (λY Y Y Y=>(al 0 (!4))) (λY Y Y Y=>(bV (aa (qf 0) (aa (aH b (aa (qf 1) (aa (qf 2) (aa (qf 0) ad)))) ad))))))
   (ak (cL (GZ 2 (K:=K) rfl rfl (aa (bZ (NN:=_::_) (sc0:=ae d7) (N':=["way"]) (ix:=[OW]) (aE (qxK (qv 1) (qv 3))) (λY Y Y Y=>(al 0 (!4))) (λY Y Y Y=>(qx (qv 0) aj))) ad))))) aT))))
   (fC 1 (ak (aR (qv 1))))))),λss R h=>?_⟩)
 let(s,o,rfl,_):=h;rfl;let(s,o,rfl,(t1,t2,I,M,N,_),T,q):=h;let v:∀n:Nat,n<1000000->n<sizeLine:=λn h=>Ku h ai;let i0:IsS s o (Pm 0 s):=⟨t2,rfl,λc hc=>⟨I _ (aU hc),L6 _⟩⟩
 let C:∀d,d< -o->0<=o.getD d 0/\(-s<=4\/o.getD d 0<=3):=λd hd=>⟨M _ (aU hd),N.imp id λh=>h _ (aU hd)⟩
 lk;intro O;lk;show⟨s,o,rfl,?_⟩;lk;show⟨Kr (!2) ai,?_⟩;lk;show gz (JD s o) ⟨_,.mk [] [(Pm 0 s)] O .un _ rfl (FlW.init i0) rfl⟩ λE hN=>?_;rintro _ env ⟨L,pile,S,c,_,rfl,l,rfl⟩;let J:=l.len;let m:=l.fil.pl;rw[show(toL s o L).length=-L from Ki ..]at m;lk;rcases Lo pile with rfl|⟨P,x,rfl⟩
 .show cC (λz=>by simp at z) (λY=>?_);lk;show q L l
 rw[Lp]at l m ⊢;show cC (λY=>?_) (λz=>absurd (!1) z);let g:IsS s o x:=l.fil.pis x (!1);show⟨stS x,!1,?_⟩;lk;show⟨kOf x,rfl,rfl,lwK s o L,rfl,cC (λh=>?_) (λh=>?_)⟩
 .rw[f7]at h;let hx:x ∉ kyw L:=by simpa using h
  show⟨s,o,x.2,x.1,rfl,t1,(C _ g.1).1,(C _ g.1).2,⟨g.1,g.2.1⟩,λrr y=>?_⟩;let D:-rr<64:=by rw[y.length_eq];show iz t1 (C _ g.1).2
  lk;let hP:-P<900000:=by simp at m;lia
  show b7 (λi=>wyS s o x (rr.getD i [])) (by rw[Ki];lia) (λi hi Q hQ=>?_) ?_
  .rw[Ki]at hi;rw[iK];lk;show⟨s,o,x.2,_,x.1,rfl,t2,g.2.1,!0,?_⟩;lk;show⟨Kr (!2) ai,hQ⟩
  rw[Ki,aQ rr [] (λr=>wyS s o x r)];lk;let t:=l.add I hx y D;let u:=t.len;show⟨⟨_,rfl⟩,lwK s o L,rfl,kOf x,rfl,rfl,v _ (by rw[dX];lia),?_⟩;rw[jT hx];lk;let hg:=gR (s:=s) (o:=o) t.nd (p:=(Pm x rr)) (!1);show⟨lwK s o (L++[(Pm x rr)]),rfl,kOf x,rfl,rfl,_,hg,_,rfl,?_⟩;show b7 (λi=>stS (bQ s o x (rr.getD i []))) (by rw[Ki];show -rr<=_;lia) (λi hi Q hQ=>?_) ?_
  .rw[Ki]at hi;let e:(eC (wyS s o (Pm x rr).1) (Pm x rr).2)[i]'(by rw[Ki];show hi)=wyS s o x (rr.getD i []):=by
    rw[KJ,Kn,Kk hi];rfl
   rw[e];unfold wyS;lk;show hQ
  rw[Ki,show(Pm x rr).2=rr from rfl,aQ rr [] (λr=>stS (bQ s o x r)),show rr.map (λr=>stS (bQ s o x r))=(rr.map (bQ s o x)).map stS by rw[KQ];rfl];lk;show⟨?_,(hN _).nx _ ⟨((fX s o).length-(-L+1))*64+(-P+-rr),?_,.mk (L++[(Pm x rr)]) (P++rr.map (bQ s o x)) _ _ _ (!1) t (!1)⟩⟩;simp;show LP (v _ (!0));simp at u ⊢;lia
 rw[f7]at h;let hx:x∈kyw L:=by simpa using h
 show(hN _).nx _ ⟨_,!1,.mk L P _ _ _ (!1) (l.skip hx) rfl⟩
def yW(s o:OD)(lost:OQ)(p:Std×Ol):Ol:=p.2.filter λr=>decide (kOf (bQ s o p.1 r) ∉ lost)
def gm(s o:OD)(lost:OQ)(L:Lw):Lw:=(L.filter λp=>decide (kOf p.1 ∉ lost)).map λp=>(p.1,yW s o lost p)
inductive xK (s o:OD) (L:Lw) (x0:Std):Std->Prop
 |refl:xK s o L x0 x0
 |step {p:Std×Ol}{r:OD}:p∈L->xK s o L x0 p.1->r∈p.2->xK s o L x0 (bQ s o p.1 r)
structure cJ(s o:OD)(L:Lw):Prop where
 nd : (kyw L).Nodup
 len:L.length<=(fX s o).length
 few:∀p∈L,p.2.length<64
 ne : ∀p∈L,p.2≠[]
 is : ∀p∈L,IsS s o p.1
 row:∀p∈L,∀r∈p.2,r∈gq s.length (o.getD p.1.1 0) p.1.2/\bQ s o p.1 r∈kyw L
 full:∀p∈L,∀r∈gq s.length (o.getD p.1.1 0) p.1.2,fj s o (bQ s o p.1 r)->r∈p.2
 beg:fj s o (0,s)->(0,s)∈kyw L
 rch:∀x∈kyw L,xK s o L (0,s) x
section
def gT(x:Std):x∈kyw (gm s o lost L)↔x∈kyw L/\kOf x ∉ lost:=by unfold gm kyw;rw[KQ];constructor;intro h;let(p,a,rfl):=Ko.mp h;let(h1,h2):=cc.mp a;show(Ko.mpr (p,h1,rfl),of_decide_eq_true h2);rintro⟨h1,h2⟩;let(p,a,rfl):=Ko.mp h1;show Ko.mpr (p,cc.mpr (a,decide_eq_true h2),rfl)
def jc(s o:OD)(L:Lw):(lwW s o L).map (λp=>p.1)=(kyw L).map kOf:=by simp[lwW,kyw]
def jV{l:OH}:kOf x∈l.map kOf↔x∈l:=by
 constructor;intro h;let(y,a,e):=Ko.mp h;rw[<-jW e];show a
 exactλh=>Ko.mpr (x,h,rfl)
def dh{l:OH}(h:l.Nodup):(l.map kOf).Nodup:=List.pairwise_map.mpr (h.imp λne e=>ne (jW e))
def oY(nd:(kyw L).Nodup)(a:p∈L):cD (lwW s o L) (kOf p.1)=p.2.map λr=>kOf (bQ s o p.1 r):=by unfold cD;rw[show aJ (lwW s o L) (kOf p.1)=OV (p.2.map λr=>(dt (li r),kOf (bQ s o p.1 r))) from iy (by rw[jc];show dh nd) (Ko.mpr (p,a,rfl))];show((p.2.map _).map _)=_;rw[KQ];rfl
def FlW.closed(h:FlW s o (0,s) L [])(a:p∈L)(b:r∈p.2):bQ s o p.1 r∈kyw L:=by let:=h.fil.cl (p.1,p.2.map (bQ s o p.1)) (Ko.mpr (p,a,rfl)) _ (Ko.mpr (r,b,rfl));rcases this with z|z;cases z;rwa [eF]at z
def FlW.start(h:FlW s o (0,s) L []):(0,s)∈kyw L:=by rcases h.fil.st with z|z;cases z;rwa [eF]at z
def FlW.wdi(h:FlW s o (0,s) L [])(c:-L<=2000):WdI (lwW s o L):=by show(by rw[jc];show dh h.nd,by rw[lwW,Ki];show c,λq a=>?_,λq a w hw=>?_);let(p,b,rfl):=Ko.mp a;let:=h.few p b;show(p.2.map _).length<=100;rw[Ki];lia;let(p,b,rfl):=Ko.mp a;let(r,d,rfl):=Ko.mp hw;rw[jc];show jV.mpr (h.closed b d)
set_option tactic.hygienic true in
def FlW.kept(h:FlW s o (0,s) L [])(lo:FS (lwW s o L) lost):cJ s o (gm s o lost L):=by
 let mem:∀q∈gm s o lost L,∃p∈L,kOf p.1 ∉ lost/\q=(p.1,yW s o lost p):=λq c=>by
  let(p,a,rfl):=Ko.mp c;let(h1,h2):=cc.mp a;show(p,h1,of_decide_eq_true h2,rfl)
 let can:∀y∈kyw L,fj s o y->kOf y ∉ lost:=λy f hc i=>by
  show lo.off (λk=>∃y,k=kOf y/\y∈kyw L/\fj s o y) (λk hk=>?_) (kOf y) i (y,rfl,f,hc)
  cbv;let(y,rfl,f,hc):=hk;let(p,a,rfl):=Ko.mp f;let(z,hz,n):=hc.step;let(r,d,rfl):=Ko.mp hz
  w_up;let b:=(h.rows p a).mem_iff.mpr d;show(kOf (bQ s o p.1 r),?_,_,rfl,h.closed a b,n);rw[oY h.nd a];show Ko.mpr (r,b,rfl)
 let sh:∀p∈L,∀r∈p.2,kOf (bQ s o p.1 r) ∉ lost->kOf p.1 ∉ lost:=λp a r d hn i=>hn (lo.shut _ i _ (by
  rw[oY h.nd a];show Ko.mpr (r,d,rfl)))
 show(?_,?_,λq c=>?_,λq c=>?_,λq c=>?_,λq c r d=>?_,λq c r d hc=>?_,λhc=>?_,λx hx=>?_);let e:kyw (gm s o lost L)=kyw (L.filter λp=>decide (kOf p.1 ∉ lost)):=by simp[kyw,gm]
 rw[e];show h.nd.sublist (rE.map _);unfold gm;rw[Ki];show Kr (KZ _ _) h.len;let(p,a,_,rfl):=mem q c;show Ls (KZ _ _) (h.few p a)
 .cbv;let(p,a,hn,rfl):=mem q c;let(y,f,t):=lo.fin (kOf p.1) (by rw[jc];show jV.mpr (Ko.mpr (p,a,rfl))) hn;rw[oY h.nd a]at f;let(r,d,rfl):=Ko.mp f
  w_up;show List.ne_nil_of_mem (cc.mpr (d,decide_eq_true t))
 let(p,a,_,rfl):=mem q c;show h.fil.is (p.1,p.2.map (bQ s o p.1)) (Ko.mpr (p,a,rfl));let(p,a,_,rfl):=mem q c;let(h1,h2):=cc.mp d;show((h.rows p a).mem_iff.mp h1,(gT _).mpr (h.closed (p:=p) a h1,of_decide_eq_true h2));let(p,a,_,rfl):=mem q c;let h1:=(h.rows p a).mem_iff.mpr d;show cc.mpr (h1,decide_eq_true (can _ (h.closed a h1) hc));show(gT _).mpr (h.start,can _ h.start hc)
 .let(j,l):=(gT _).mp hx;let key:∀x,FP s o (0,s) x->x∈kyw L/\(kOf x ∉ lost->xK s o (gm s o lost L) (0,s) x):=λx hx=>by
   induction hx with
   |refl=>show(h.start,λY=>.refl)
   |step _ hz m =>
    cbv;let(p,a,e):=Ko.mp m.1;subst e;let(r,d,rfl):=Ko.mp hz
    w_up;let b:=(h.rows p a).mem_iff.mpr d;show(h.closed a b,λhn=>?_);let g:=sh p a r b hn;show .step (p:=(p.1,yW s o lost p)) (Ko.mpr (p,cc.mpr (a,decide_eq_true g),rfl)) (m.2 g) (cc.mpr (b,decide_eq_true hn))
  show(key x (h.rch x (.inr j))).2 l
def ug(L:Lw)(hi:i< -L):gm s o lost (L.take (i+1))=if kOf L[i].1 ∉ lost then gm s o lost (L.take i)++[(L[i].1,yW s o lost L[i])] else gm s o lost (L.take i):=by unfold gm;rw[K3,Kk hi,Lr,KC];by_cases h:kOf L[i].1 ∉ lost <;> simp[h]
def wn(nd:(kyw L).Nodup)(hi:i< -L):L[i].1 ∉ kyw (gm s o lost (L.take i)):=by
 intro h
 cbv;let(h1,_):=(gT _).mp h;let(q,a,e):=Ko.mp h1;let(j,hj,e2):=K7 a
 w_up;rw[Mk]at e2;rw[K8]at hj;let h1:(kyw L)[j]'(by simp;lia)=(kyw L)[i]'(by simp;lia):=by simp[e2,e]
 let:=(L5 nd).mp h1;lia
end
inductive Jt (s o:OD) (L:Lw) (lost:OQ) (i:Nat):OL->Prop
 |mk (S:OO) (e:Sl) (D:Ou):D=lwK s o (gm s o lost (L.take i))->Jt s o L lost i [.fr (.tuple [.list (li s),.list (li o)]),.fr (br (lwK s o L)),.fr (br (loK lost)),.tr S (br D),e]
abbrev eP:Stmt:=top 18
def cK:aA ["town","ways","lost","kept","standing"] ["town"] (ae eP):={}
inductive lA:DSp
 |mk {ss R} (s o:OD):ss=[.fr (.tuple [.list (li s),.list (li o)])]->TbL s o->(fX s o).length<=2000->(∀L:Lw,cJ s o L->R (.fr (br (lwK s o L))) [.un])->lA ss R
def nk(F:Fun K "kept_ways" "kept_ways" eP f fd)(B:Bn mg)(b:Cal P w K mg base "all_ways" 7 (spD K uZ))(a:Cal P w K mg base "lost_among" 2 (spD K uS)):cg P w K mg base CX0 8 f fd ["town"] (spD K lA):=by
 show okD (k:=7) F cK (λss R h=>?_) (!2) (λcdv A outer s H E l=>(_,(af (ax 1 cK.nd (aH b (aa (qf 0) ad)))
   (af (ax 2 cK.nd (aH a (aa (qf 1) ad)))
   (af (ax 3 cK.nd gN)
   (af (cS PassesOwn.never rfl (kJ (qf 1)) (al 4 cK.nd) (ak (eV (aB (gn (K:=K) rfl (hu2 l)) gj (qv 4) (qv 2)) (ak (fD 3 (K:=K) rfl (hu2 l) rfl (qf 4) (bZ (NN:=_::_) (sc0:=ae eP) (N':=["way","lost"]) (ix:=[OW,OV 2]) (aE (qxK (qv 1) (qv 4))) (λY Y Y Y=>(al 0 (!4))) (λY Y Y Y=>(qf 0)) (ht:=(λY Y Y Y=>(eU (aB (gn (K:=K) rfl (hu2 l)) gj (qx (qv 0) aj) (qv 1)))))))) aT)))
   (fC 3 (ak (aR (qv 3)))))))),λss R h=>?_))
 let(s,o,rfl,_):=h;rfl;let(s,o,rfl,tb,x,q):=h;let m:∀n:Nat,n<1000000->n<sizeLine:=λn h=>Ku h ai;lk;show(s,o,rfl,tb,x,λL c=>?_);let y:=c.len;lk;show(lwW s o L,by rw[ER],c.wdi (!0),λlost lo=>?_);lk;intro S1;lk;show(lwK s o L,rfl,?_);let C:(lwK s o L).map (λp=>aN p.1)=(kyw L).map stS:=by simp[lwK,kOf]
 rw[C];show dz (Jt s o L lost) (.mk S1 _ _ rfl) (λE hN=>?_) ?_
 .rintro i env hi ⟨S,e,_,rfl⟩;rw[Ki,Ki]at hi;let v:L[i]∈L:=KL hi;rw[KJ,KJ];let d:=ug (s:=s) (o:=o) (lost:=lost) L hi;let t:=wn (s:=s) (o:=o) (lost:=lost) c.nd hi;let u:=gR (s:=s) (o:=o) c.nd v;let D:=c.few _ v;generalize L[i]=p at *;lk;show(kOf p.1,rfl,rfl,loK lost,rfl,?_);rw[p8];by_cases hn:kOf p.1∈lost;rw[N7 (by simp[hn])];show(hN _).nx _ (.mk _ _ _ (by rw[d,N7 (λz=>z hn)]))
  .rw[N6 (by simp[hn])];show(_,rfl,kOf p.1,rfl,rfl,_,u,_,rfl,?_);show cy (λj=>decide (kOf (bQ s o p.1 (p.2.getD j [])) ∉ lost)) (λj=>wyS s o p.1 (p.2.getD j [])) (by rw[Ki];lia) (λj hj Q G h1 h2=>?_) ?_
   .rw[Ki]at hj;let e:(p.2.map (wyS s o p.1))[j]'(by rw[Ki];show hj)=wyS s o p.1 (p.2.getD j []):=by
     rw[KJ,Kn,Kk hj];rfl
    rw[e];generalize p.2.getD j []=r at *;unfold wyS at h1 ⊢;lk;show(kOf (bQ s o p.1 r),rfl,rfl,loK lost,rfl,?_);rw[p8];by_cases g:kOf (bQ s o p.1 r)∈lost;rw[N7 (by simp[g])];show h2 (by simp[g]);rw[N6 (by simp[g])];show h1 (by simp[g])
   rw[Ki,bM p.2 [] (λr=>decide (kOf (bQ s o p.1 r) ∉ lost)) (λr=>wyS s o p.1 r)];lk;show((_,rfl),_,rfl,kOf p.1,rfl,rfl,m _ ?_,(hN _).nx _ (.mk _ _ _ ?_));rw[dX];let h1:=KZ (λp=>decide (kOf p.1 ∉ lost)) (L.take i);rw[K8]at h1;unfold gm;rw[Ki];lia;rw[d,N6 hn];show jT t
 .rintro env ⟨S,e,_,rfl⟩;rw[Ki,Ki,La];lk;show q _ (c.kept lo)
noncomputable def pC(L:Lw)(x:Std):Ol:=((L.find? λp=>decide (p.1=x)).map (·.2)).getD []
def lG(nd:(kyw L).Nodup)(a:p∈L):pC L p.1=p.2:=by
 unfold pC
 induction L with
 |nil=>cases a
 |cons q L b =>
  let(c,d):=KY.mp nd;rw[Lc];rcases Kt.mp a with e|e;subst e;simp;let:¬q.1=p.1:=λz=>c (Ko.mpr (p,e,z.symm));simp only[this,decide_false];show b d e
def nmS(xs:OH)(y:Std):Nat:=(xs.map kOf).idxOf (kOf y)
def rS(h:y∈xs):nmS xs y< -xs:=by let:=List.idxOf_lt_length_of_mem (jV.mpr h);rwa [Ki]at this
def EN(h:y∈xs):xs[nmS xs y]'(rS h)=y:=by let h1:(xs.map kOf)[nmS xs y]'(by rw[Ki];show rS h)=kOf y:=List.getElem_idxOf _;rw[KJ]at h1;show jW h1
def uv(s o cs:OD)(xs:OH)(x:Std)(r:OD):Stp:=(rc cs r,nmS xs (bQ s o x r),r)
def oZ(s o cs:OD)(L:Lw)(xs:OH):Om:=xs.map λx=>(pC L x).map (uv s o cs xs x)
inductive Jc (s o cs:OD) (L:Lw) (xs:OH) (i:Nat):OL->Prop
 |mk (S:OO) (a b:Sl) (D:Ou):D=opK ((xs.map kOf).take i) (λk=>(((xs.map kOf).idxOf k:Nat):Int))->Jc s o cs L xs i [.fr (br (lwK s o L)),.fr (.list (xs.map stS)),.fr (.list (li cs)),.tr S (br D),a,b]
abbrev fO:Stmt:=top 19
def eJ:aA ["ways","standings","costs","numbers","number","standing"] ["ways","standings","costs"] (ae fO):={}
inductive o7:DSp
 |mk {ss R} (s o cs:OD) (L:Lw) (xs:OH):ss=[.fr (br (lwK s o L)),.fr (.list (xs.map stS)),.fr (.list (li cs))]->cJ s o L->xs.Perm (kyw L)->L.length<=100->s.length<=6->cs.length=s.length->R (.ow ((oZ s o cs L xs).map stL)) [.un,.un,.un]->o7 ss R
def pM(F:Fun K "steps_of" "steps_of" fO f fd)(B:Bn mg)(c:Cal P w K mg base "row_cost" 1 (spD K fq)):cg P w K mg base CX0 2 f fd ["ways","standings","costs"] (spD K o7):=by
 show okD (k:=1) F eJ (λss R h=>?_) (!2) (λcdv A outer s H E N=>(_,(af (ax 3 eJ.nd gN)
   (af (cS PassesOwn.never rfl (jH OY (K:=K) rfl rfl B.enumerate (aa (qf 1) ad)) (dJ (K:=K) (n:=2) rfl rfl (aI (al 4 eJ.nd) (aI (al 5 eJ.nd) cp))) (ak (fD 3 (K:=K) rfl (hu2 N) rfl (qf 5) (qf 4))))
   (fC 3 (ak (aR (bZ (NN:=_::_) (sc0:=ae fO) (N':=["one","ways","costs","numbers"]) (ix:=[OW,OV 0,OV 2,OV 3]) (aE (qf 1)) (λ_ _ _ _=>(al 0 (!4))) (λ_ _ _ _=>(vt (N':=["way","costs","numbers"]) (ix:=[OW,OV 2,OV 3]) rfl (HX (!3)) (aE (qxK (qv 1) (qv 0))) (λ_ _ _ _=>(al 0 (!4))) (λ_ _ _ _=>jG) (λ_ _ _ _=>(bV (aa (aH c (aa (qx (qv 0) aj) (aa (qf 1) ad))) (aa (qxK (qv 2) (qx (qv 0) aj)) (aa (qx (qv 0) aj) ad))))))))))))),λss R h=>?_))
 let(s,o,cs,L,xs,rfl,_):=h;rfl;let(s,o,cs,L,xs,rfl,g,pm,O,t1,v,q):=h;let y:∀n:Nat,n<1000000->n<sizeLine:=λn h=>Ku h ai;let T:-xs<=100:=by rw[pm.length_eq,Ki];show O
 let C:xs.Nodup:=pm.nodup_iff.mpr g.nd;let l:(xs.map kOf).Nodup:=dh C;lk;intro S;lk;show dz (Jc s o cs L xs) (.mk S _ _ _ rfl) (λE hN=>?h1) ?h2
 case h1 =>
  rintro i env hi ⟨S,a,b,_,rfl⟩;rw[bA,Ki]at hi;rw[eB,KJ];let d:i<(xs.map kOf).length:=by rw[Ki];show hi
  let D:kOf xs[i] ∉ (xs.map kOf).take i:=λz=>by
   let(j,hj,e):=K7 z;rw[Mk]at e;rw[K8]at hj;let:=(L5 (i:=j) (j:=i) (h₀:=by lia) (h₁:=d) l).mp (by rw[e,KJ]);lia
  let G:(xs.map kOf).take (i+1)=(xs.map kOf).take i++[kOf xs[i]]:=by rw[K3,Kk d,KJ];rfl
  let I:(xs.map kOf).idxOf (kOf xs[i])=i:=by let:=l.idxOf_getElem i d;rwa [KJ]at this
  generalize xs[i]=x at *;lk;show((_,rfl),_,rfl,kOf x,rfl,rfl,y _ ?_,(hN _).nx _ (.mk _ _ _ _ ?_));rw[opK,Ki,K8,Ki];lia;let:=vR (o:=λk=>(((xs.map kOf).idxOf k:Nat):Int)) D;rw[I]at this;rw[G];show this
 case h2 =>
  rintro env ⟨S,a,b,_,rfl⟩;rw[bA,Ki,show -xs=(xs.map kOf).length from(Ki ..).symm,La];lk;let m:∀x,x∈xs↔x∈kyw L:=λx=>pm.mem_iff;show b7 (λi=>stL ((pC L (xs.getD i (0,[]))).map (uv s o cs xs (xs.getD i (0,[]))))) (by rw[Ki];lia) (λi hi Q hQ=>?h3) ?h4
  case h3 =>
   rw[Ki]at hi;rw[KJ];let U:xs.getD i (0,[])=xs[i]:=by rw[Kn,Kk hi];rfl
   rw[U]at hQ;let hx:=(m xs[i]).mp (KL hi);generalize xs[i]=x at *;let(p,u,rfl):=Ko.mp hx;rw[lG g.nd u]at hQ;let J:=gR (s:=s) (o:=o) g.nd u;let V:=g.few p u;let t:=g.row p u;lk;show(_,rfl,kOf p.1,rfl,rfl,_,J,_,rfl,?_);show b7 (λj=>iE (uv s o cs xs p.1 (p.2.getD j []))) (by rw[Ki];lia) (λj hj Q hQ=>?h5) ?h6
   case h5 =>
    rw[Ki]at hj;let e:(p.2.map (wyS s o p.1))[j]'(by rw[Ki];show hj)=wyS s o p.1 (p.2.getD j []):=by rw[KJ,Kn,Kk hj];rfl
    rw[e];let(W,X):=t (p.2.getD j []) (dq hj);let Y:=bU (-s) _ (cc.mp W).1;generalize p.2.getD j []=r at *;let Z:(xs.map kOf).idxOf (kOf (bQ s o p.1 r))=nmS xs (bQ s o p.1 r):=rfl;let M:kOf (bQ s o p.1 r)∈xs.map kOf:=jV.mpr ((m _).mpr X);unfold wyS;lk;show(r,cs,rfl,!0,by rw[v];show Y.2.2,?_);lk;show(_,rfl,kOf (bQ s o p.1 r),rfl,rfl,_,by rw[jP,N6 M],?_);show(Kr (!2) ai,hQ)
   case h6 =>
    rw[Ki,aQ p.2 [] (λr=>iE (uv s o cs xs p.1 r)),show p.2.map (λr=>iE (uv s o cs xs p.1 r))=(p.2.map (uv s o cs xs p.1)).map iE by rw[KQ];rfl];lk;show hQ
  case h4 =>
   rw[Ki,aQ xs (0,[]) (λx=>stL ((pC L x).map (uv s o cs xs x)))];lk;rw[oZ,KQ]at q;show q
noncomputable def prD(kvs:Ot):OM:=kvs.map λp=>.tuple [aN p.1,.int p.2]
def rf(k:ar):Sh 2 (aN k):=Sh.tuple (n:=1) λy a=>by
 simp only[Kt,List.mem_nil_iff,or_false,Ld]at a;rcases a with rfl|rfl;show Sh.int _ _;show Sh.tuple (n:=0) λz hz=>by
  let(i,_,rfl):=Ko.mp hz;show Sh.int _ _
def jx(kvs:Ot):shp (.list (prD kvs)):=(Sh.list (n:=3) (λd hd=>by
 let(r,_,rfl):=Ko.mp hd;show Sh.two (rf _) (Sh.int _ _))).shp (!2)
def Gth.app(h:Gth steps i l j)(h':Gth steps j m k):Gth steps i (l++m) k:=by
 induction h with
 |nil i=>show h'
 |cons e _ a=>show .cons e (a h')
theorem vf(h:∀c∈cs,0<=c/\c<=100000000000000000000):∀r:OD,0<=rc cs r/\rc cs r<=100000000000000000000*-r
 |[]=>by simp[rc]
 |x :: r=>by
  let a:=vf h r;let:0<=cs.getD x.toNat 0/\cs.getD x.toNat 0<=100000000000000000000:=by by_cases z:x.toNat< -cs;show h _ (aU z);rw[Kn,Le (!0)];simp
  let e:rc cs (x::r)=cs.getD x.toNat 0+rc cs r:=by simp[rc]
  rw[e,K4];lia
theorem rM(h:∀c∈cs,0<=c/\c<=100000000000000000000):∀B:Ol,(∀r∈B,-r<=1000)->0<=pc cs B/\pc cs B<=100000000000000000000000*-B
 |[],_=>by simp[pc]
 |r::B,a=>by
  let b:=rM h B λr h=>a r (Kv _ h);let:=vf h r;let:=a r Ks;let e:pc cs (r::B)=rc cs r+pc cs B:=by simp[pc]
  rw[e,K4];lia
section
def Ba(b:cJ s o L)(pm:xs.Perm (kyw L))(a:p∈L):(oZ s o cs L xs).getD (nmS xs p.1) []=p.2.map (uv s o cs xs p.1):=by let hx:p.1∈xs:=pm.mem_iff.mpr (Ko.mpr (p,a,rfl));unfold oZ;rw[Kn,KM,Kk (rS hx),EN hx];show(pC L p.1).map _=_;rw[lG b.nd a]
def uL(b:cJ s o L)(pm:xs.Perm (kyw L))(hi:i< -xs):∃p∈L,(oZ s o cs L xs).getD i []=p.2.map (uv s o cs xs p.1):=by let(p,a,e):=Ko.mp (pm.mem_iff.mp (KL hi));show(p,a,?_);unfold oZ;rw[Kn,KM,Kk hi,<-e];show(pC L p.1).map _=_;rw[lG b.nd a]
def gG:(oZ s o cs L xs).length=-xs:=Ki ..
def qS(a:cJ s o L)(pm:xs.Perm (kyw L))(h:t∈(oZ s o cs L xs).getD i []):∃p∈L,∃r∈p.2,t=uv s o cs xs p.1 r:=by let hi:=rY h;rw[gG]at hi;let(p,b,e):=uL (cs:=cs) a pm hi;rw[e]at h;let(r,c,rfl):=Ko.mp h;show(p,b,r,c,rfl)
def xW(b:cJ s o L)(pm:xs.Perm (kyw L))(f:-L<=100)(h6:-s<=6)(hc:∀c∈cs,0<=c/\c<=100000000000000000000):StI (oZ s o cs L xs) 600000000000000000000/\∀i t,t∈(oZ s o cs L xs).getD i []->t.2.2.length<=6/\(∀x∈t.2.2,0<=x/\x< -s)/\t.1=rc cs t.2.2:=by
 let hx:-xs=-L:=by rw[pm.length_eq,Ki]
 let row:∀p∈L,∀r∈p.2,-r<=6/\∀x∈r,0<=x/\x< -s:=λp a r d=>by
  let:=bU (-s) r (cc.mp (b.row p a r d).1).1;show(!0,this.2.2)
 show((by rw[gG];lia,λi hi=>?_,λi t ht=>?_),λi t ht=>?_);rw[gG]at hi;let(p,a,e):=uL (cs:=cs) b pm hi;rw[e];show(λz=>b.ne p a (Na.mp z),by rw[Ki];let:=b.few p a;lia);let(p,a,r,d,rfl):=qS b pm ht;let h1:=vf hc r;let h2:=(row p a r d).1;rw[gG];show(rS (pm.mem_iff.mpr (b.row p a r d).2),h1.1,?_);show rc cs r<=((600000000000000000000:Nat):Int)
 lia;let(p,a,r,d,rfl):=qS b pm ht;show((row p a r d).1,(row p a r d).2,rfl)
def xX(a:cJ s o L)(pm:xs.Perm (kyw L))(h:xK s o L (0,s) x):∃m,Gth (λi=>(oZ s o cs L xs).getD i []) (nmS xs (0,s)) m (nmS xs x):=by
 induction h with
 |refl=>show([],.nil _)
 |@step p r b _ c d =>
  let(m,g):=d;show(m++[uv s o cs xs p.1 r],g.app (.cons (s:=uv s o cs xs p.1 r) ?_ (.nil _)));show _∈(oZ s o cs L xs).getD (nmS xs p.1) [];rw[Ba a pm b];show Ko.mpr (r,c,rfl)
end
inductive AW (s o cs:OD) (L:Lw) (xs:OH) (sts:Om) (best:Oi) (P:OD):OL->Prop
 |mk (A B:Ol):1<=B.length->B.length<=1000->(∀r∈B,r.length<=1000/\∀x∈r,0<=x/\x<cs.length)->AW s o cs L xs sts best P [.fr (.tuple [.list (li s),.list (li o)]),.fr (.list (li cs)),.fr (.tuple [.list (lr A),.list (lr B)]),.fr (br (lwK s o L)),.fr (.list (xs.map stS)),.fr (.list (sts.map stL)),.fr (.tuple [Gp best,.list (li P)])]
abbrev fv:Stmt:=top 29
def bK:aA ["town","costs","plan","ways","standings","steps","found"] ["town","costs"] (ae fv):={}
inductive Dj (n:Nat):ab->Prop
 |no:Dj n .none
 |mk (p q:Nat) (d:ab) (kvs:Ot):1<=q->q<=1000->p<=10 ^ 30->kvs.length<=n->Dj n (.tuple [.tuple [.int p,.int q],d,.list (prD kvs)])
inductive lq:DSp
 |mk {ss R} (s o cs:OD):ss=[.fr (.tuple [.list (li s),.list (li o)]),.fr (.list (li cs))]->TbL s o->(fX s o).length<=60->cs.length=s.length->(∀c∈cs,0<=c/\c<=100000000000000000000)->(∀d,Dj (fX s o).length d->R (.fr d) [.un,.un])->lq ss R
def lP(F:Fun K "least_cost" "least_cost" fv f fd)(B:Bn mg)(y:Cal P w K mg base "plan_of" 10 (spD K ln))(c:Cal P w K mg base "kept_ways" 8 (spD K lA))(n:Cal P w K mg base "steps_of" 2 (spD K o7))(b:Cal P w K mg base "cost_of" 3 (spD K lB))(u:Cal P w K mg base "cheapest" 4 (spD K pi))(D:Cal P w K mg base "begun" 1 (spD K jw))(d:Cal P w K mg base "loop_plan" 2 (spD K o9)):cg P w K mg base CX0 11 f fd ["town","costs"] (spD K lq):=by
 show okD (k:=10) F bK (λss R h=>?_) (!2) (λcdv A outer s H E C=>(_,(af (ax 2 bK.nd (aH y (aa (qf 0) ad)))
   (af (eV (aB Ag IC (qv 2) gM) (ak (aR gM)) aT)
   (af (ax 3 bK.nd (aH c (aa (qf 0) ad)))
   (af (ax 4 bK.nd (vo (K:=K) rfl rfl (iG C) rfl B.sorted (aa (qv 3) ad)))
   (af (ax 5 bK.nd (aH n (aa (qf 3) (aa (qf 4) (aa (qf 1) ad)))))
   (af (ax 6 bK.nd (aH u (aa (qf 5) (aa (aH b (aa (qf 2) (aa (qf 1) ad))) ad))))
   (jF (eV (aB jO v7 (qx (qv 6) aj) gM) (ak (ax 2 bK.nd (aH d (aa (qf 5) (aa (yk (K:=K) rfl (iG C) (qv 4) (aH D (aa (qf 0) ad))) (aa (qx (qv 6) aj) ad)))))) aT)
   (ak (aR (bV (aa (aH b (aa (qf 2) (aa (qf 1) ad))) (aa (qf 2) (aa (Bt (K:=K) rfl rfl rfl B.list rfl B.zip (aa (qv 4) (aa (qx (qv 6) aj) ad))) ad))))))))))))),λss R h=>?_))
 let(s,o,cs,rfl,_):=h;rfl;let(s,o,cs,rfl,tb,t6,J,hc,q):=h;let(t1,t2,t3,t4,t5,_):=id tb;lk;show(s,o,rfl,tb,?_,λhg A B hB O U=>?_)
 .lk;show q _ .no
 lk;show(s,o,rfl,tb,!0,λL M=>?_);let a4:=M.len;lk;show((lwK s o L).map (·.1),.inr (lwK s o L,rfl,rfl),by rw[Ki,dX];lia,λks pk _=>?_);obtain⟨xs,pm,rfl⟩:∃xs:OH,xs.Perm (kyw L)/\ks=xs.map kOf:=df pk (kyw L) (by simp[lwK,kyw]);rw[show(xs.map kOf).map (λk=>aN k)=xs.map stS by rw[KQ];rfl];lk;show(s,o,cs,L,xs,rfl,M,pm,!0,t1,J,?_)
 cbv;let(Q,G):=xW (cs:=cs) M pm (!0) t1 hc;let rch:=λ{x:Std}=>xX (cs:=cs) M pm (x:=x);let I:(oZ s o cs L xs).length=-xs:=gG;let V:(0,s)∈xs:=pm.mem_iff.mpr (M.beg hg);let a5:-xs=-L:=by rw[pm.length_eq,Ki]
 let S:(xs.map kOf).Nodup:=dh (pm.nodup_iff.mpr M.nd);let W:∀i,i< -xs->∃m,Gth (λi=>(oZ s o cs L xs).getD i []) (nmS xs (0,s)) m i:=λi hi=>by
  let(m,g):=rch (M.rch xs[i] (pm.mem_iff.mp (KL hi)));let e:nmS xs xs[i]=i:=by let:=S.idxOf_getElem i (by rw[Ki];show hi);rwa [KJ]at this
  rw[e]at g;show(m,g)
 generalize oZ s o cs L xs=sts at *;let row:∀r∈B,-r<=1000/\∀x∈r,0<=x/\x< -cs:=λr C=>by
  let(h,l,hf):=U r C;let:=bU (-s) r (cc.mp hf).1;show(!0,λx hx=>by rw[J];show this.2.2 x hx)
 obtain⟨a,X⟩:∃a:Nat,pc cs B=a:=((pc cs B).toNat,(Ms (rM hc B λr C=>(row r C).1).1).symm)
 w_up;lk;show(A,B,cs,rfl,hB,!0,row,(rM hc B λr C=>(row r C).1).1,?_);let v:=lX a (-B);unfold Dn at v;rw[X,v];lk;let Y:=pZ (a:=a) hB;let a6:lwQ a (-B)<=-B:=p7 _ _;show(sts,600000000000000000000,_,_,rfl,Q,Y,!0,λbest p q' P bo hP=>?_);lk;show(AW s o cs L xs sts best P,?h1,?h2)
 case h1 =>
  rcases bo with⟨rfl,_⟩|⟨l,rfl,lo,_⟩
  .lk;show cC (λz=>by cases z) (λ_=>.mk A B hB (!0) row)
  .lk;show cC (λ_=>?_) (λz=>absurd rfl z);show(xs.map kOf,by rw[KQ];rfl,s,o,rfl,?_);lk;show(kOf (0,s),rfl,rfl,by rw[KQ];rfl,jV.mpr V,by rw[Ki];lia,λj hj=>?_);let N:j< -xs:=by
    let:=(Kx.mp hj).1;rwa [Ki]at this
   let ej:nmS xs (0,s)=j:=by rw[Kk (by rw[Ki];show N)]at hj;injection hj with hj;let:=S.idxOf_getElem j (by rw[Ki];show N);rw[hj]at this;show this
   let Z:∀t∈l,t.2.2.length<=6/\(∀x∈t.2.2,0<=x/\x< -s)/\t.1=rc cs t.2.2:=λt ht=>by
    let(i,hi):=lo.mem t ht;show G i t hi
   let T:=lo.last;let a3:=lo.few;rw[I]at T a3;show(sts,600000000000000000000,j,l,rfl,Q,by rw[I];show N,lo,ej▸W _ T,λi t ht=>by let:=(G i t ht).1;lia,λrs=>?_);lk;show .mk rs (l.map (·.2.2)) (by rw[Ki];show Mr.mpr lo.ne) (by rw[Ki];lia) λr C=>?_;let(t,ht,rfl):=Ko.mp C;let:=Z t ht;show(!0,λx hx=>by rw[J];show this.2.1 x hx)
 case h2 =>
  rintro env ⟨A,B,hB,O,row⟩;let(h0,h9):=rM hc B λr C=>(row r C).1;obtain⟨a,X⟩:∃a:Nat,pc cs B=a:=((pc cs B).toNat,(Ms h0).symm)
  let v:=lX a (-B);unfold Dn at v;lk;show(A,B,cs,rfl,hB,O,row,h0,?_);let g1:=pZ (a:=a) hB;let g2:lwQ a (-B)<=-B:=p7 _ _;let g3:lwP a (-B)<=a:=p7 _ _;rw[X]at h9 ⊢;rw[v];lk;rw[show((xs.map stS).zip (li P)).map (λp=>gr [p.1,p.2])=prD ((xs.map kOf).zip P) by
   rw[prD,N4,List.zip_map_left,KQ,KQ];rfl]
  show(Kr (!2) ai,q _ (.mk _ _ _ _ g1 (!0) (!0) (by rw[LN,Ki];lia)))
section
def cJ.can(h:cJ s o L)(hx:x∈kyw L):fj s o x:=by
 show((·∈kyw L),hx,λy b=>?_)
 cbv;let(p,a,rfl):=Ko.mp b;let(r,c):=List.exists_mem_of_ne_nil _ (h.ne p a);let(h1,h2):=h.row p a r c
 w_up;show(_,Ko.mpr (r,h1,rfl),h2)
def cJ.rows(h:cJ s o L)(h':cJ s o F)(a:p∈L)(b:q∈F)(e:p.1=q.1)(d:r∈p.2):r∈q.2:=by let(h1,h2):=h.row p a r d;let c:=h.can h2;rw[e]at h1 c;show h'.full q b r h1 c
def cJ.sub(h:cJ s o L)(h':cJ s o F)(hx:x∈kyw L):x∈kyw F:=by
 let z:=h.rch x hx
 induction z with
 |refl=>show h'.beg (h.can hx)
 |@step p r a _ c d =>
  let(q,b,e):=Ko.mp (d (Ko.mpr (p,a,rfl)));let e:q.1=p.1:=e;let:=(h'.row q b r (h.rows h' a b e.symm c)).2;rwa [e]at this
def cJ.perm(h:cJ s o L)(h':cJ s o F):(kyw L).Perm (kyw F) :=
 (MB h.nd h'.nd).mpr λY=>(h.sub h',h'.sub h)
end
def PrR(s o cs:OD)(a b:Int)(kvs:Ot)(x:Std)(r:OD):Prop:=a+(aJ kvs (kOf x)).getD 0<=b*rc cs r+(aJ kvs (kOf (bQ s o x r))).getD 0
def PrH(s o cs:OD)(a b:Int)(kvs:Ot)(L:Lw):Prop:=(kvs.map λp=>p.1).Perm ((kyw L).map kOf)/\∀p∈L,∀r∈p.2,PrR s o cs a b kvs p.1 r
def PrH.to(z:PrH s o cs a b kvs L)(h:cJ s o L)(h':cJ s o F):PrH s o cs a b kvs F:=by show(z.1.trans ((h.perm h').map _),λq c r f=>?_);let(p,d,e):=Ko.mp (h'.sub h (Ko.mpr (q,c,rfl)));let e:p.1=q.1:=e;let:=z.2 p d r (h'.rows h c d e.symm f);rwa [e]at this
def PrH.iff(h:cJ s o L)(h':cJ s o F):PrH s o cs a b kvs L↔PrH s o cs a b kvs F :=
 (λz=>z.to h h',λz=>z.to h' h)
def qZ(l:OQ):shp (.list (l.map λk=>aN k)):=(Sh.list (n:=2) (λx hx=>by let(y,_,rfl):=Ko.mp hx;show rf y)).shp (!2)
theorem sH:∀a b:OQ,ef (a.map λk=>aN k) (b.map λk=>aN k)=decide (a=b)
 |[],[]=>rfl
 |[],_::_=>rfl
 |_::_,[]=>rfl
 |x::a,y::b=>by
  rw[Kw,Kw,ef,sH a b,show eu (aN x) (aN y)=decide (x=y) from wL x y];by_cases h:x=y <;> by_cases h':a=b <;> simp[h,h']
noncomputable def prK(kvs:Ot):Ou:=kvs.map λp=>(p.1,.int p.2)
def BG(kvs:Ot)(k:ar):aJ (prK kvs) k=(aJ kvs k).map db:=by
 induction kvs with
 |nil=>rfl
 |cons p kvs a =>
  show aJ ((p.1,db p.2)::prK kvs) k=_;rw[aq,aq,a];split <;> rfl
def rL(h:k∈kvs.map λp=>p.1):aJ (prK kvs) k=OV (.int ((aJ kvs k).getD 0)):=by
 rw[BG]
 induction kvs with
 |nil=>cases h
 |cons p kvs a =>
  rw[aq];by_cases e:p.1=k;rw[N6 e];rfl;rw[N7 e];show a ((Kt.mp h).resolve_left λz=>e z.symm)
inductive Jy (s o cs:OD) (a b:Int) (kvs:Ot) (L:Lw) (i:Nat):OL->Prop
 |mk (x y:Sl):(∀p∈L.take i,∀r∈p.2,PrR s o cs a b kvs p.1 r)->Jy s o cs a b kvs L i [.fr (.tuple [.list (li s),.list (li o)]),.fr (.list (li cs)),.fr (.tuple [.int a,.int b]),.fr (.list (prD kvs)),.fr (br (lwK s o L)),.fr (br (prK kvs)),x,y]
inductive Jx (s o cs:OD) (a b:Int) (kvs:Ot) (L:Lw) (p:Std×Ol) (j:Nat):OL->Prop
 |mk (y:Sl):(∀r∈p.2.take j,PrR s o cs a b kvs p.1 r)->Jx s o cs a b kvs L p j [.fr (.tuple [.list (li s),.list (li o)]),.fr (.list (li cs)),.fr (.tuple [.int a,.int b]),.fr (.list (prD kvs)),.fr (br (lwK s o L)),.fr (br (prK kvs)),.fr (stS p.1),y]
abbrev cY:Stmt:=top 30
def b9:aA ["town","costs","fraction","prices","ways","price_at","standing","way"] ["town","costs","fraction","prices"] (ae cY):={}
inductive GI:DSp
 |mk {ss R} (s o cs:OD) (a b:Int) (kvs:Ot):ss=[.fr (.tuple [.list (li s),.list (li o)]),.fr (.list (li cs)),.fr (.tuple [.int a,.int b]),.fr (.list (prD kvs))]->TbL s o->(fX s o).length<=2000->cs.length=s.length->(-100000<b/\b<100000)->((kvs=[]\/kvs.length<64/\(fX s o).length<64))->(∀(L:Lw) (t:Bool),cJ s o L->(t=true↔PrH s o cs a b kvs L)->R (.fr (.bool t)) [.un,.un,.un,.un])->GI ss R
def kz(F:Fun K "prices_hold" "prices_hold" cY f fd)(B:Bn mg)(c:Cal P w K mg base "kept_ways" 8 (spD K lA))(d:Cal P w K mg base "row_cost" 1 (spD K fq)):cg P w K mg base CX0 9 f fd ["town","costs","fraction","prices"] (spD K GI):=by
 show okD (k:=8) F b9 (λss R h=>?_) (!2) (λcdv A outer s H E g=>(_,(af (ax 4 b9.nd (aH c (aa (qf 0) ad)))
   (af (eV (aB (Fd (K:=K) rfl g.units) mNe (vo (K:=K) rfl rfl (iG g) rfl B.sorted (aa (bZ (NN:=_::_) (sc0:=ae cY) (N':=["entry"]) (ix:=[OW]) (aE (qf 3)) (λ_ _ _ _=>(al 0 (!4))) (λ_ _ _ _=>(qx (qv 0) aj))) ad)) (vo (K:=K) rfl rfl (iG g) rfl B.sorted (aa (qv 4) ad))) (ak (aR vv)) aT)
   (af (ax 5 b9.nd (Bx (K:=K) rfl rfl (iG g) rfl B.dict (aa (qv 3) ad)))
   (af (cS PassesOwn.never rfl (kJ (qf 4)) (al 6 b9.nd) (ak (cS PassesOwn.never rfl (aE (qxK (qv 4) (qv 6))) (al 7 b9.nd) (ak (eV (aB tV mB (aY bq mI (aY cT mIC (qx (qv 2) aj) (aH d (aa (qx (qv 7) aj) (aa (qf 1) ad)))) (qxK (qv 5) (qx (qv 7) aj))) (aY bq mI (qx (qv 2) aj) (qxK (qv 5) (qv 6)))) (ak (aR vv)) aT)))))
   (ak (aR vv)))))),λss R h=>?_))
 let(s,o,cs,a,b,kvs,rfl,_):=h;rfl;let(s,o,cs,a,b,kvs,rfl,tb,V,M,hb,hk,q):=h;lk;show(s,o,rfl,tb,V,λL n=>?_);let q:=λt=>q L t n;let hF:=n.len;let t1:=tb.1;lk;show b7 (λi=>aN (kvs.getD i ((0,[]),0)).1) (by rw[prD,Ki];rcases hk with rfl|hk;show KG _;lia) (λi hi Q hQ=>?_) ?_
 .let e:(prD kvs)[i]=.tuple [aN (kvs.getD i ((0,[]),0)).1,.int (kvs.getD i ((0,[]),0)).2]:=by
   rw[prD,Ki]at hi;simp only[prD,KJ];rw[Kn,Kk hi];rfl
  rw[e];lk;show hQ
 let G:(lwK s o L).map (λp=>p.1)=(kyw L).map kOf:=by simp[lwK]
 rw[show(prD kvs).length=-kvs from Ki ..,aQ kvs ((0,[]),0) (λp=>aN p.1),show kvs.map (λp=>aN p.1)=(kvs.map λp=>p.1).map λk=>aN k by rw[KQ];rfl];lk;show(kvs.map λp=>p.1,.inl rfl,by rw[Ki];rcases hk with rfl|hk;show(by decide:0<1000000);lia,λu I s1=>?_);show((kyw L).map kOf,.inr (lwK s o L,rfl,G.symm),by rw[Ki,Ki];lia,λk2 p2 s2=>(qZ u,qZ k2,?_));rw[show eu (.list (u.map λk=>aN k)) (.list (k2.map λk=>aN k))=decide (u=k2) from sH u k2];show cC (λN=>q OY ((λz=>nomatch z),λz=>absurd ?_ (of_decide_eq_false N))) (λm=>?_);rcases hk with rfl|hk;rw[I.eq_nil,(p2.trans z.1.symm).eq_nil];show(s1 (by rw[Ki];lia)).eq (s2 (by rw[Ki,Ki];lia)) (I.trans (z.1.trans p2.symm));let m:u=k2:=by simpa using m
 subst m;let hP:=I.symm.trans p2;clear I p2 s1 s2 G;let kin:∀x,x∈kyw L->kOf x∈kvs.map λp=>p.1:=λx hx=>hP.mem_iff.mpr (Ko.mpr (x,hx,rfl));let O:-kvs<1000000:=by let:=hP.length_eq;rw[Ki,Ki,Ki]at this;lia
 lk;show(prK kvs,by simp[prD,prK],by rw[prK,Ki];show O,by rw[show(prK kvs).map (λp=>p.1)=kvs.map λp=>p.1 by simp[prK]];show hP.nodup_iff.mpr (dh n.nd),?_);lk;show(lwK s o L,rfl,?_);let G:(lwK s o L).map (λp=>aN p.1)=(kyw L).map stS:=by simp[lwK,kOf]
 rw[G];show dz (Jy s o cs a b kvs L) (.mk _ _ (!1)) (λE hN=>?_) ?_
 .rintro i env hi ⟨x,y,hd⟩;rw[Ki,Ki]at hi;let J:L[i]∈L:=KL hi;rw[KJ,KJ];let S:L.take (i+1)=L.take i++[L[i]]:=by rw[K3,Kk hi];rfl
  let T:=gR (s:=s) (o:=o) n.nd J;generalize L[i]=p at *;lk;show(_,rfl,kOf p.1,rfl,rfl,_,T,_,rfl,?_);show dz (Jx s o cs a b kvs L p) (.mk _ (!1)) (λF hM=>?_) ?_
  .rintro j env hj ⟨y,g⟩;rw[Ki]at hj;let e:(p.2.map (wyS s o p.1))[j]'(by rw[Ki];show hj)=wyS s o p.1 (p.2.getD j []):=by
    rw[KJ,Kn,Kk hj];rfl
   rw[e];let U:p.2.take (j+1)=p.2.take j++[p.2.getD j []]:=by rw[K3,Kn,Kk hj];rfl
   let v:=dq (l:=p.2) hj;let(W,X):=n.row p J _ v;let Y:=bU (-s) _ (cc.mp W).1;let g1:=rL (kin _ X);let g2:=rL (kin p.1 (Ko.mpr (p,J,rfl)));generalize p.2.getD j []=r at *;unfold wyS;lk;show(r,cs,rfl,!0,by rw[M];show Y.2.2,?_);lk;show(ff (!0) (!0),prK kvs,rfl,kOf (bQ s o p.1 r),rfl,rfl,_,g1,?_);show(_,rfl,prK kvs,rfl,kOf p.1,rfl,rfl,_,g2,_,rfl,cC (λZ=>(hM _).rt _ _ ((hN _).rt _ _ ?_)) (λa3=>(hM _).nx _ (.mk _ λr' C=>?_)))
   .walk_at"d2";show q OY ((λz=>nomatch z),λz=>absurd (z.2 p J r v) (by unfold PrR;lia))
   rw[U]at C;rcases Km.mp C with z|z;show g r' z;rw[Kj.mp z];unfold PrR;lia
  rintro env ⟨y,g⟩;rw[Ki,La]at g;show(hN _).nx _ (.mk _ _ λp' D=>by
   rw[S]at D;rcases Km.mp D with z|z;show hd p' z;rw[Kj.mp z];show g)
 .rintro env ⟨x,y,hd⟩;rw[Ki,Ki,La]at hd;lk;show q OX (λ_=>(hP,hd),λ_=>rfl)
def wC{κ β:Type} [DecidableEq κ](kvs:List (κ×β))(k:κ):(aJ kvs k).isSome=OX↔k∈kvs.map λp=>p.1:=by
 induction kvs with
 |nil=>show((λz=>nomatch z),λz=>nomatch z)
 |cons p kvs a =>
  rw[aq,Kw,Kt];by_cases e:p.1=k;rw[N6 e];show(λY=>.inl e.symm,λY=>rfl);rw[N7 e,a];show(.inr,λz=>z.resolve_left λz=>e z.symm)
def yq(kvs:Ot):(prK kvs).map (λp=>p.1)=kvs.map λp=>p.1:=by simp[prK]
inductive Jw (s o cs:OD) (a b:Int) (kvs:Ot) (F:Lw) (i:Nat):OL->Prop
 |mk (S:OO) (D:Ou) (x1 x2 x3 x4 x5 x6:Sl):D=prK (kvs.take i)->((kvs.take i).map λp=>p.1).Nodup->(∀k∈(kvs.take i).map λp=>p.1,k∈(kyw F).map kOf)->Jw s o cs a b kvs F i [.fr (br (lwK s o F)),.fr (.list (li cs)),.fr (.tuple [.int a,.int b]),.fr (.list (prD kvs)),.tr S (br D),x1,x2,x3,x4,x5,x6]
inductive Jv (s o cs:OD) (a b:Int) (kvs:Ot) (F:Lw) (S:OO) (x1 x2:Sl) (i:Nat):OL->Prop
 |mk (x3 x4 x5 x6:Sl):(∀p∈F.take i,∀r∈p.2,PrR s o cs a b kvs p.1 r)->Jv s o cs a b kvs F S x1 x2 i [.fr (br (lwK s o F)),.fr (.list (li cs)),.fr (.tuple [.int a,.int b]),.fr (.list (prD kvs)),.tr S (br (prK kvs)),x1,x2,x3,x4,x5,x6]
inductive Ju (s o cs:OD) (a b:Int) (kvs:Ot) (F:Lw) (S:OO) (x1 x2:Sl) (p:Std×Ol) (j:Nat):OL->Prop
 |mk (x4 x5 x6:Sl):(∀r∈p.2.take j,PrR s o cs a b kvs p.1 r)->Ju s o cs a b kvs F S x1 x2 p j [.fr (br (lwK s o F)),.fr (.list (li cs)),.fr (.tuple [.int a,.int b]),.fr (.list (prD kvs)),.tr S (br (prK kvs)),x1,x2,.fr (stS p.1),x4,x5,x6]
abbrev dG:Stmt:=top 41
def bx:aA ["_law_roads_here","_law_costs","_law_fraction","_law_prices","_law_told","_law_standing_here","_law_price","_law_here","_law_row","_law_there","_law_cost"] ["_law_roads_here","_law_costs","_law_fraction","_law_prices"] (ae dG):={}
inductive GJ:DSp
 |mk {ss R} (s o cs:OD) (a b:Int) (kvs:Ot) (F:Lw):ss=[.fr (br (lwK s o F)),.fr (.list (li cs)),.fr (.tuple [.int a,.int b]),.fr (.list (prD kvs))]->cJ s o F->F.length<=1000->s.length<=6->cs.length=s.length->(-100000<b/\b<100000)->kvs.length<64->(∀t:Bool,(t=true↔PrH s o cs a b kvs F)->R (.fr (.bool t)) [.un,.un,.un,.un])->GJ ss R
def lS(F:Fun K "_law_holds" "_law_holds" dG f fd)(B:Bn mg):cg P w K mg base CX0 1 f fd ["_law_roads_here","_law_costs","_law_fraction","_law_prices"] (spD K GJ):=by
 show okD (k:=0) F bx (λss R h=>?_) (!2) (λcdv A outer s H E t=>(_,(af (ax 4 bx.nd gN)
   (af (cS PassesOwn.never rfl (aE (qf 3)) (dJ (K:=K) (n:=2) rfl rfl (aI (al 5 bx.nd) (aI (al 6 bx.nd) cp))) (af (eV (PW.pt (D8 (aB (F8 (K:=K) rfl (hu2 t)) F3 (qv 5) (qv 4)) (z0 (aB (gn (K:=K) rfl (hu2 t)) gj (qv 5) (qv 0))))) (ak (aR vv)) aT)
   (ak (fD 4 (K:=K) rfl (hu2 t) rfl (qf 5) (qf 6)))))
   (af (eV (aB yy F2 (rG cO v8 rfl B.len m4 (aa (qv 4) ad)) (rG cO v8 rfl B.len m4 (aa (qv 0) ad))) (ak (aR vv)) aT)
   (af (cS PassesOwn.never rfl (kJ (qf 0)) (al 7 bx.nd) (ak (cS PassesOwn.never rfl (aE (qxK (qv 0) (qv 7))) (dJ (K:=K) (n:=2) rfl rfl (aI (al 8 bx.nd) (aI (al 9 bx.nd) cp))) (af (ax 10 bx.nd (rG (gX (K:=K) rfl rfl) F1 rfl B.sum me (aa (bZ (NN:=_::_) (sc0:=ae dG) (N':=["_law_clock","_law_costs"]) (ix:=[OW,OV 1]) (aE (qf 8)) (λ_ _ _ _=>(al 0 (!4))) (λ_ _ _ _=>(qx (qv 1) (qv 0)))) ad)))
   (ak (eV (aB tV mB (aY bq mI (aY cT mIC (qx (qv 2) aj) (qv 10)) (qxK (qv 4) (qv 9))) (aY bq mI (qx (qv 2) aj) (qxK (qv 4) (qv 7)))) (ak (aR vv)) aT))))))
   (ak (aR vv)))))),λss R h=>?_))
 let(s,o,cs,a,b,kvs,F,rfl,_):=h;rfl;let(s,o,cs,a,b,kvs,F,rfl,I,hF,h6,a3,hb,hk,q):=h;let L:∀n:Nat,n<1000000->n<sizeLine:=λn h=>Ku h ai;let M:(lwK s o F).map (λp=>p.1)=(kyw F).map kOf:=by simp[lwK]
 lk;intro S;lk;show dz (Jw s o cs a b kvs F) (.mk S _ _ _ _ _ _ _ rfl (!1) (!1)) (λE hN=>?_) ?_
 .rintro i env hi ⟨S,_,x1,x2,x3,x4,x5,x6,rfl,nd,u⟩;let hl:(prD kvs).length=-kvs:=Ki ..;let hi2:i< -kvs:=by rw[<-hl];show hi
  let e:(prD kvs)[i]=.tuple [aN kvs[i].1,.int kvs[i].2]:=by simp[prD]
  let d:kvs.take (i+1)=kvs.take i++[kvs[i]]:=by rw[K3,Kk hi2];rfl
  let N:kvs[i]∈kvs:=KL hi2;rw[e];clear e;generalize kvs[i]=k at *;lk;let O:=wC (prK (kvs.take i)) k.1;let T:=wC (lwK s o F) k.1;rw[yq]at O;rw[M]at T;show(k.1,rfl,rfl,prK (kvs.take i),rfl,?_);show cC (λg=>(hN _).rt _ _ ?_) (λg=>?_)
  .walk_at"d2";show q OY ((λz=>nomatch z),λz=>?_);let Z:=(z.1.nodup_iff.mpr (dh I.nd)).sublist ((Nn (i+1) kvs).map λp=>p.1);rw[d,KC]at Z;show absurd rfl ((Ky.mp Z).2.2 k.1 (O.mp g) k.1 (!1))
  show(k.1,rfl,rfl,lwK s o F,rfl,?_);show cC (λm=>(hN _).rt _ _ ?_) (λm=>?_)
  .walk_at"d2";show q OY ((λz=>nomatch z),λz=>by rw[T.mpr (z.1.mem_iff.mp (Ko.mpr (k,N,rfl)))]at m;cases m)
  lk;show((_,rfl),_,rfl,k.1,rfl,rfl,L _ ?_,(hN _).nx _ (.mk _ _ _ _ _ _ _ _ ?_ ?_ λx hx=>?_));rw[prK,Ki,K8];lia;rw[d,c7,N7 g];simp[prK];rw[d,KC];show Ky.mpr (nd,!1,λx hx y U e=>g (O.mpr (by rw[e,Kj.mp U]at hx;show hx)));rw[d,KC]at hx;rcases Km.mp hx with z|z;show u x z;rw[Kj.mp z];show T.mp (eq_true_of_ne_false m)
 .rintro env ⟨S,_,x1,x2,x3,x4,x5,x6,rfl,nd,u⟩;rw[show(prD kvs).length=-kvs from Ki ..,La]at *;lk;show(prK kvs,rfl,lwK s o F,rfl,?_);rw[dX,show(prK kvs).length=-kvs from Ki ..];show cC (λV=>q OY ((λz=>nomatch z),λz=>absurd ?_ V)) (λW=>?_);let:=z.1.length_eq;rw[Ki,Ki,Ki]at this;rw[this];let hP:(kvs.map λp=>p.1).Perm ((kyw F).map kOf):=by
   show(MB nd (dh I.nd)).mpr λx=>(u x,λhx=>Decidable.byContradiction λhn=>?_)
   let:=cM (KY.mpr (hn,nd)) λy U=>(Kt.mp U).elim (λe=>by rw[e];show hx) (u y);rw[K4,Ki,Ki,Ki]at this;lia
  let kin:∀x,x∈kyw F->kOf x∈kvs.map λp=>p.1:=λx hx=>hP.mem_iff.mpr (Ko.mpr (x,hx,rfl));clear nd u W;lk;show(lwK s o F,rfl,?_);let M:(lwK s o F).map (λp=>aN p.1)=(kyw F).map stS:=by simp[lwK,kOf]
  rw[M];show dz (Jv s o cs a b kvs F S x1 x2) (.mk _ _ _ _ (!1)) (λE hN=>?_) ?_
  .rintro i env hi ⟨x3,x4,x5,x6,hd⟩;rw[Ki,Ki]at hi;let J:F[i]∈F:=KL hi;rw[KJ,KJ];let d:F.take (i+1)=F.take i++[F[i]]:=by rw[K3,Kk hi];rfl
   let X:=gR (s:=s) (o:=o) I.nd J;generalize F[i]=p at *;lk;show(_,rfl,kOf p.1,rfl,rfl,_,X,_,rfl,?_);show dz (Ju s o cs a b kvs F S x1 x2 p) (.mk _ _ _ (!1)) (λG hM=>?_) ?_
   .rintro j env hj ⟨x4,x5,x6,t⟩;rw[Ki]at hj;let e:(p.2.map (wyS s o p.1))[j]'(by rw[Ki];show hj)=wyS s o p.1 (p.2.getD j []):=by
     rw[KJ,Kn,Kk hj];rfl
    rw[e];let Y:p.2.take (j+1)=p.2.take j++[p.2.getD j []]:=by rw[K3,Kn,Kk hj];rfl
    let v:=dq (l:=p.2) hj;let(r1,r2):=I.row p J _ v;let r3:=bU (-s) _ (cc.mp r1).1;let g1:=rL (kin _ r2);let g2:=rL (kin p.1 (Ko.mpr (p,J,rfl)));generalize p.2.getD j []=r at *;unfold wyS;lk;show b7 (λi=>.int (cs.getD (r.getD i 0).toNat 0)) (by rw[Ki];lia) (λi hi Q hQ=>?_) ?_
    .rw[dL];let hm:=r3.2.2 _ (aU (l:=r) (k:=i) (by simpa using hi));generalize r.getD i 0=c at *;obtain⟨cn,rfl⟩:∃cn:Nat,c=(cn:Int):=(c.toNat,!0)
     lk;show(_,dO (!0),hQ)
    rw[Ki,aQ r 0 (λc=>db (cs.getD c.toNat 0)),show r.map (λc=>db (cs.getD c.toNat 0))=li (r.map λc=>cs.getD c.toNat 0) from(KQ ..).symm];lk;rw[show(r.map λc=>cs.getD c.toNat 0).sum=rc cs r from rfl];show(ff (!0) (!0),prK kvs,rfl,kOf (bQ s o p.1 r),rfl,rfl,_,g1,_,rfl,prK kvs,rfl,kOf p.1,rfl,rfl,_,g2,_,rfl,cC (λa4=>(hM _).rt _ _ ((hN _).rt _ _ ?_)) (λa5=>(hM _).nx _ (.mk _ _ _ λr' C=>?_)))
    .walk_at"d2";show q OY ((λz=>nomatch z),λz=>absurd (z.2 p J r v) (by unfold PrR;lia))
    rw[Y]at C;rcases Km.mp C with z|z;show t r' z;rw[Kj.mp z];unfold PrR;lia
   rintro env ⟨x4,x5,x6,t⟩;rw[Ki,La]at t;show(hN _).nx _ (.mk _ _ _ _ λp' D=>by
    rw[d]at D;rcases Km.mp D with z|z;show hd p' z;rw[Kj.mp z];show t)
  .rintro env ⟨x3,x4,x5,x6,hd⟩;rw[Ki,Ki,La]at hd;lk;show q OX (λ_=>(hP,hd),λ_=>rfl)
abbrev de:Stmt:=top 36
def a9:aA ["_law_town_here","_law_draws_here","_law_lefts","_law_lean","_law_span","_law_number","_law_some"] ["_law_town_here","_law_draws_here"] (ae de):={}
inductive gZ:DSp
 |mk {ss R} (s o l:OD):ss=[.fr (.tuple [.list (li s),.list (li o)]),.io (li l)]->Ds l->TB s o->(∀(d:Int) (lf l':OD),Ds l'->R (.fr (.tuple [.int d,.tuple (li lf)])) [.un,.io (li l')])->gZ ss R
inductive Jb (s o:OD) (p:Int) (i:Nat):OL->Prop
 |mk (ld lf:OD) (a b c:Sl):Ds ld->lf.length=i->Jb s o p i [.fr (.tuple [.list (li s),.list (li o)]),.io (li ld),.fr (.tuple (li lf)),.fr (.int p),a,b,c]
def iS(F:Fun K "_law_standing" "_law_standing" de f fd)(B:Bn mg)(d:Cal P w K mg base "_law_pop" 1 (spD K tM)):cg P w K mg base CX0 2 f fd ["_law_town_here","_law_draws_here"] (spD K gZ):=by
 show okD (k:=1) F a9 (λss R h=>?_) (!2) (λcdv A outer s H E t=>(_,(af (ax 2 a9.nd (bV ad))
   (af (ax 3 a9.nd (aY aP mIC (bN 0 d (aa (qv 1) ad)) aj))
   (af (cS PassesOwn.never rfl (aE (qx (qv 0) aj)) (al 4 a9.nd) (af (ax 5 a9.nd (bN 0 d (aa (qv 1) ad)))
   (af (ax 6 a9.nd (bD (aa (aY bq mI aj (aY aP mIC (qv 5) (qv 4))) (aa (aY bq mI aj (aY aP mIC (qv 5) (rG (j9 rfl) Hd rfl B.min ml (aa (qv 4) (aa aj ad))))) (aa (aY kM mI (qv 4) (aY aP mIC (qv 5) (rG (j9 rfl) Hd rfl B.min ml (aa (qv 4) (aa aj ad))))) ad)))))
   (ak (ax 2 a9.nd (rH (K:=K) rfl (qv 2) (bV (aa (qx (qv 6) (qv 3)) ad))))))))
   (ak (aR (bV (aa (aY aP mIC (bN 0 d (aa (qv 1) ad)) (km B.len (qx (qv 0) aj))) (aa (qf 2) ad)))))))),λss R h=>?_))
 let(s,o,l,rfl,_):=h;rfl;let(s,o,l,rfl,dl,tb,q):=h;let(_,t2,u,_,p,_):=tb;lk;show(KG _,?_);lk;show(l,rfl,?_);lk;let n:=dl.drop;generalize tU l=p0 at *;generalize l.dropLast=l1 at *;show(!2,?_);lk;show dz (Jb s o (p0 % 3)) (.mk l1 [] _ _ _ n rfl) (λE hN=>?_) ?_
 .rintro i env hi ⟨ld,lf,a,b,c,g,j⟩;rw[dL];rw[Ki]at hi;lk;show(ld,rfl,?_);lk;let m:=g.drop
  cbv;generalize tU ld=num at *;generalize ld.dropLast=l2 at *;let r:=p _ (aU hi);generalize s.getD i 0=sp at *
  w_up;show(!0,by split <;> lia,by split <;> lia,Kr (!2) ai,?_);obtain⟨v,ev⟩:∃v:Int,atI [db (1+num % sp),db (1+num % (if 3<sp then 3 else sp)),db (sp-num % (if 2<sp then 2 else sp))] (p0 % 3)=OV (.int v):=by rcases(show p0 % 3=0\/p0 % 3=1\/p0 % 3=2 by lia) with e|e|e <;> rw[e] <;> show(_,rfl)
  generalize [db (1+num % sp),db (1+num % (if 3<sp then 3 else sp)),db (sp-num % (if 2<sp then 2 else sp))]=L3 at *;lk;show(_,ev,Kr (!2) ai,by rw[Ki,j];show Kr (!0) ai,(hN _).nx _ (by rw[fG];show .mk l2 (lf++[v]) _ _ _ m (by simp[j])))
 .rintro env ⟨ld,lf,a,b,c,g,j⟩;lk;show(ld,rfl,?_);lk;let m:=g.drop;rw[Ki];show(!0,Kr (!2) ai,q _ lf _ m)
def Ie(d:ab):Prop:=∃(k:ar) (v:Int),d=.tuple [aN k,.int v]
theorem AR:∀{ds:OM},(∀d∈ds,Ie d)->∃kvs:Ot,ds=prD kvs
 |[],_=>([],rfl)
 |d::ds,h=>by
  let(k,v,rfl):=h d Ks;let(kvs,rfl):=AR λd hd=>h d (Kv _ hd);show((k,v)::kvs,rfl)
def Pz(n:Nat)(ds:OM):Prop:=-ds<=n/\∀d∈ds,Ie d
def Pz.app(h:Pz m a)(h':Pz n b):Pz (m+n) (a++b):=(by rw[KD];show Nat.add_le_add h.1 h'.1,λd hd=>(Km.mp hd).elim (h.2 d) (h'.2 d))
def Pz.cut(h:Pz m a)(x y:Oy):Pz m (oT a x y):=(by unfold oT;rw[K8,vr];let:=h.1;lia,λd hd=>h.2 d (LY (LX hd)))
def Pz.one(k:ar)(v:Int):Pz 1 [.tuple [aN k,.int v]]:=(Kz _,λd hd=>(k,v,Kj.mp hd))
def itn{c A B:Prop} [Decidable c](a:A)(b:B):if c then A else B:=by split <;> assumption
abbrev eR:Stmt:=top 43
def bW:aA ["_law_town_here","_law_prices","_law_draws_here","_law_number","_law_at","_law_standing_here","_law_price","_law_turn","_law_kind"] ["_law_town_here","_law_prices","_law_draws_here"] (ae eR):={}
inductive uY:DSp
 |mk {ss R} (s o l:OD) (kvs:Ot):ss=[.fr (.tuple [.list (li s),.list (li o)]),.fr (.list (prD kvs)),.io (li l)]->Ds l->TB s o->kvs.length<=30->(∀(l':OD) (kvs':Ot),Ds l'->kvs'.length<=61->R (.ow (prD kvs')) [.un,.un,.io (li l')])->uY ss R
def ny(F:Fun K "_law_bent" "_law_bent" eR f fd)(B:Bn mg)(c:Cal P w K mg base "_law_pop" 1 (spD K tM))(a:Cal P w K mg base "_law_standing" 2 (spD K gZ)):cg P w K mg base CX0 3 f fd ["_law_town_here","_law_prices","_law_draws_here"] (spD K uY):=by
 show okD (k:=2) F bW (λss R h=>?_) (!2) (λcdv A outer s H E y=>(_,(af (ax 3 bW.nd (bN 0 c (aa (qv 2) ad)))
   (af (eV (aB (F9 (K:=K) rfl y.units) mEq (qv 1) (bD ad)) (ak (aR (gd (BY (K:=K) rfl) JQ (bD (aa (bV (aa (bN 1 a (aa (qf 0) (aa (qv 2) ad))) (aa (aY aP mIC (qv 3) aj) ad))) ad)) (aY aP mIC (qv 3) aj)))) aT)
   (af (ax 4 bW.nd (aY aP mIC (qv 3) (km B.len (qv 1))))
   (af (BA (qx (qv 1) (qv 4)) (dJ (K:=K) (n:=2) rfl rfl (aI (al 5 bW.nd) (aI (al 6 bW.nd) cp))))
   (af (ax 7 bW.nd (aY kM mI aj (aY cT mIC aj (aY aP mIC (aY cG mIC (qv 3) aj) aj))))
   (af (ax 8 bW.nd (aY aP mIC (aY cG mIC (qv 3) aj) aj))
   (af (eV (aB fg nC (qv 8) aj) (ak (aR (gd (cw (K:=K) rfl) sd (qv 1) (bD (aa (bV (aa (bN 1 a (aa (qf 0) (aa (qv 2) ad))) (aa (qf 6) ad))) ad))))) aT)
   (af (eV (aB fg nC (qv 8) aj) (ak (aR (gd (cw (K:=K) rfl) sd (gd (cw (K:=K) rfl) sd (ku (K:=K) rfl (qv 1) dU (dS (qv 4))) (bD (aa (bV (aa (qf 5) (aa (aY bq mI (qv 6) (qv 7)) ad))) ad))) (ku (K:=K) rfl (qv 1) (dS (aY bq mI (qv 4) aj)) dU)))) aT)
   (af (eV (aB fg nC (qv 8) aj) (ak (aR (gd (cw (K:=K) rfl) sd (ku (K:=K) rfl (qv 1) dU (dS (qv 4))) (ku (K:=K) rfl (qv 1) (dS (aY bq mI (qv 4) aj)) dU)))) aT)
   (af (eV (aB fg nC (qv 8) aj) (ak (aR (gd (cw (K:=K) rfl) sd (qv 1) (bD (aa (bV (aa (qf 5) (aa (qf 6) ad))) ad))))) aT)
   (af (eV (aB fg nC (qv 8) aj) (ak (aR (gd (cw (K:=K) rfl) sd (gd (cw (K:=K) rfl) sd (ku (K:=K) rfl (qv 1) dU (dS (qv 4))) (bD (aa (bV (aa (bN 1 a (aa (qf 0) (aa (qv 2) ad))) (aa (qf 6) ad))) ad))) (ku (K:=K) rfl (qv 1) (dS (aY bq mI (qv 4) aj)) dU)))) aT)
   (af (eV (aB fg nC (qv 8) aj) (ak (aR (bZ (NN:=_::_) (sc0:=ae eR) (N':=["_law_one","_law_other","_law_turn"]) (ix:=[OW,OW,OV 7]) (aE (qf 1)) (λY Y Y Y=>(dJ (K:=K) (n:=2) rfl rfl (aI (al 0 (!4)) (aI (al 1 (!4)) cp)))) (λY Y Y Y=>(bV (aa (qf 0) (aa (aY bq mI (qv 1) (aY cT mIC aj (qv 2))) ad))))))) aT)
   (ak (aR (Ea (K:=K) rfl (qv 1) lN))))))))))))))),λss R h=>?_))
 let(s,o,l,kvs,rfl,_):=h;rfl;let(s,o,l,kvs,rfl,dl,tb,hk,q):=h;let q:∀{l':OD}{ds:OM}{n:Nat},n<=61->Ds l'->Pz n ds->R (.ow ds) [.un,.un,.io (li l')]:=λh0 h1 h3=>by
  let(kvs',rfl):=AR h3.2;show q _ kvs' h1 (by let:=h3.1;rw[prD,Ki]at this;lia)
 let b:∀n:Nat,n<=1000->n<=sizeLine:=λn h=>Kr h (Kr (!2) ai);lk;show(l,rfl,?_);lk;let g:=dl.drop;generalize tU l=num at *;generalize l.dropLast=l1 at *;show(KG _,jx kvs,jx [],?_);rcases Lo kvs with rfl|⟨z,J,e⟩
 .rw[N6 (show eu (.list (prD [])) (.list [])=OX from rfl)];show(s,o,l1,rfl,g,tb,λd lf l' m=>?_);lk;show(!2,b _ (!2),b _ (!2),!2,!0,!0,b _ (!0),q (n:=1) (!2) m (by rw[M0];lia,λd hd=>((_,lf),_,List.eq_of_mem_replicate hd)))
 .let x:1<=-kvs:=by rw[e];simp
  rw[N7 (by rw[e,Lp];cases z <;> simp[prD,eu,ef])];clear e;lk;let C:(prD kvs).length=-kvs:=Ki ..;rw[C];show(!0,?_);let L:=LB num (show(-kvs:Int)≠0 by lia);let b1:=Lj num (show 0<(-kvs:Int) by lia);obtain⟨j,D⟩:∃j:Nat,num % (-kvs:Int)=j:=((num % (-kvs:Int)).toNat,!0)
  rw[D]at b1 ⊢;let hj:j< -kvs:=!0
  let t:atI (prD kvs) (j:Int)=OV (.tuple [aN kvs[j].1,.int kvs[j].2]):=cA (by rw[prD,KM,Kk hj];rfl);let r:Pz 30 (prD kvs):=(!0,λd hd=>by
   let(p,_,rfl):=Ko.mp hd;show(_,_,rfl))
  generalize kvs[j]=k at *;generalize prD kvs=ds at *;let c1:=r.cut OW (OV (j:Int));let c2:=r.cut (OV ((j:Int)+1)) OW;let G:=r.1;let p2:=c1.1;let p3:=c2.1;lk;show(_,t,?_);lk;show((!2,!2),!2,ff (!2) (!2),?_);generalize 1-2*(num / 97 % 2)=tn at *;lk;show((!2,!2),!2,?_);generalize num / 194 % 7=kd at *;lk;let e2:2<=sizeLine:=b _ (!2);let e1:1<=sizeLine:=b _ (!2);let e3:-ds+1<=sizeLine:=b _ (!0);let e4:(oT ds OW (OV (j:Int))).length+1<=sizeLine:=b _ (!0);show itn ?_ ?_
  .show(s,o,l1,rfl,g,tb,λd lf l' m=>?_);lk;show(e2,e1,e3,q (!2) m (r.app (.one (d,lf) _)))
  lk;show itn (e2,e1,e4,b _ (by rw[KD];simp only[K5];lia),q (!2) g ((c1.app (.one _ _)).app c2)) ?_;lk;show itn (b _ (!0),q (!2) g (c1.app c2)) ?_;lk;show itn (e2,e1,e3,q (!2) g (r.app (.one _ _))) ?_;lk;show itn ?_ ?_
  .show(s,o,l1,rfl,g,tb,λd lf l' m=>?_);lk;show(e2,e1,e4,b _ (by rw[KD];simp only[K5];lia),q (!2) m ((c1.app (.one (d,lf) _)).app c2))
  lk;show itn ?_ ?_
  .show sX Ie (!0) (λi hi Q hQ=>?_) λrs I u=>?_
   .let(k,v,e):=r.2 _ (KL hi);rw[e];lk;show(ff (!2) (!2),e2,hQ _ (_,_,rfl))
   .lk;show q (n:=30) (!2) g (!0,u)
  lk
  exactλes h1 h2=>q (!2) g (Kr h2 G,λd hd=>r.2 d (h1 d hd))
inductive IvF (a b:Int) (m:Nat):OL->Prop
 |mk (x y:Int):0<=y->(0<x\/0<y)->x<=10 ^ 40->y<=10 ^ 40->m=y.toNat->IvF a b m [.fr (.int a),.fr (.int b),.fr (.int x),.fr (.int y)]
inductive uX:DSp
 |mk {ss R} (a b:Int):ss=[.fr (.int a),.fr (.int b)]->0<b->a<=10 ^ 40->b<=10 ^ 40->(∀x y:Int,0<=y->y<=b->R (.fr (.tuple [.int x,.int y])) [.un,.un])->uX ss R
abbrev gc:Stmt:=top 42
def fu:aA ["_law_above","_law_below","_law_one","_law_other"] ["_law_above","_law_below"] (ae gc):={}
def nu(F:Fun K "_law_fair" "_law_fair" gc f fd)(B:Bn mg):cg P w K mg base CX0 1 f fd ["_law_above","_law_below"] (spD K uX):=by
 show okD (k:=0) F fu (λss R h=>?_) (!2) (λcdv A outer s H E p=>(_,(af (Ef (i:=2) (j:=3) rfl fu.nd rfl rfl (!2) rfl rfl (aa (qf 0) (aa (qf 1) ad)))
   (af (cr PassesOwn.never (aB yy F2 (qv 3) aj) (ak (Ef (i:=2) (j:=3) rfl fu.nd rfl rfl (!2) rfl rfl (aa (qf 3) (aa (aY aP mIC (qv 2) (qv 3)) ad)))))
   (ak (aR (bV (aa (aY jb mIC (qv 0) (qv 2)) (aa (aY jb mIC (qv 1) (qv 2)) ad))))))),λss R h=>?_))
 let(a,b,rfl,_):=h;rfl;let(a,b,rfl,d,e,g,q):=h;lk;show gz (IvF a b) (_,.mk a b (!0) (.inr d) e g rfl) λN hN=>?_;rintro _ env ⟨x,y,c,n,o,l,rfl⟩;lk;show cC (λh=>?_) (λh=>?_);let c:0<y:=!0
 let h1:=Lj x c;let h2:=LB x h;show(c,(hN _).nx _ ((x % y).toNat,!0,.mk y (x % y) h2 (.inl c) l (!0) rfl))
 .let hx:0<x:=!0
  let m:Bg x:=Bg.of (!0) (!0);lk;show((hx,m),(hx,m),Kr (!2) ai,q _ _ (Int.ediv_nonneg (!0) (!0)) (Int.ediv_le_self _ (!0)))
abbrev fA:Stmt:=top 39
def cX:aA ["_law_town_here","_law_lefts","_law_span"] ["_law_town_here"] (ae fA):={}
inductive lz:DSp
 |mk {ss R} (s o:OD):ss=[.fr (.tuple [.list (li s),.list (li o)])]->s.length<=1000->R (.fr (.tuple [.int 0,.tuple (li s)])) [.un]->lz ss R
def lU(F:Fun K "_law_begun" "_law_begun" fA f fd)(B:Bn mg):cg P w K mg base CX0 1 f fd ["_law_town_here"] (spD K lz):=by
 show okD (k:=0) F cX (λss R h=>?_) (!2) (λcdv A outer s H E c=>(_,(ce (ax 1 cX.nd (bV ad))
   (ce (cS PassesOwn.never rfl (aE (qx (qv 0) aj)) (al 2 cX.nd) (ak (ax 1 cX.nd (rH (K:=K) rfl (qv 1) (bV (aa (qf 2) ad))))))
   (ak (aR (bV (aa aj (aa (qf 1) ad))))))),λss R h=>?_))
 let(s,o,rfl,_):=h;rfl;let(s,o,rfl,hs,q):=h;walk_at"dd";show(KG _,?_);show sE (λi env=>∃a:Sl,env=[.fr (.tuple [.list (li s),.list (li o)]),.fr (.tuple (li (s.take i))),a]) (_,rfl) ?_ ?_
 .rintro i env hi ⟨a,rfl⟩;let b:i< -s:=by simpa using hi
  rw[dL,uJ b];walk_at"dd";show(Kr (!2) ai,by rw[Ki,K8];show Kr (!0) ai,!1)
 .rintro env ⟨a,rfl⟩;rw[Ki,La];walk_at"dd";show(Kr (!2) ai,q)
def oP(s o:OD)(L:Lw)(p:Std×Ol):Ol:=p.2.filter λr=>decide (bQ s o p.1 r∈kyw L)
def mF(s o:OD)(L A:Lw):Lw:=(A.filter λp=>decide (oP s o L p≠[])).map λp=>(p.1,oP s o L p)
def uM(s o:OD)(L:Lw)(p:Std×Ol):stp (toL s o L) (p.1,p.2.map (bQ s o p.1))=(oP s o L p).map (bQ s o p.1):=by unfold stp oP;rw[Dd,eF];rfl
def Bh(s o:OD)(L A:Lw):toL s o (mF s o L A)=yc (toL s o L) (toL s o A):=by
 unfold mF yc
 induction A with
 |nil=>rfl
 |cons p A a =>
  let e:stp (toL s o L) (p.1,p.2.map (bQ s o p.1))=[]↔oP s o L p=[]:=by rw[uM];show Na
  show toL s o (((p::A).filter _).map _)=(((p.1,p.2.map (bQ s o p.1))::toL s o A).filter _).map _;by_cases h:oP s o L p=[]
  rw[LR (by simp[h]),LR (by simp[e.mpr h])];show a;rw[Lq (by simp[h]),Lq (by simpa usingλz=>h (e.mp z)),Kw,Kw];show _::toL s o _=_;rw[a,uM]
structure LdW(s o:OD)(L:Lw):Prop where
 sft:Sft s o (0,s) (toL s o L)
 rows:∀p∈L,∀r∈p.2,r∈gq s.length (o.getD p.1.1 0) p.1.2
 few:∀p∈L,p.2.length<64
 is : ∀p∈L,IsS s o p.1
 go : ∀p∈L,∀r∈gq s.length (o.getD p.1.1 0) p.1.2,fj s o (bQ s o p.1 r)->r∈p.2
section
theorem LdW.nd(h:LdW s o L):(kyw L).Nodup:=by rw[<-eF s o];show h.sft.nd
def LdW.len(h:LdW s o L):-L<=(fX s o).length:=by let:=h.sft.few;simpa[toL] using this
def FlW.ldw(h:FlW s o (0,s) L []):LdW s o L:=(h.fil.sft λp a=>by
  let(q,c,rfl):=Ko.mp a;rw[Ki];show h.few q c,λp a r b=>(h.rows p a).mem_iff.mp b,h.few,λp a=>h.fil.is (p.1,p.2.map (bQ s o p.1)) (Ko.mpr (p,a,rfl)),λp a r b Y=>(h.rows p a).mem_iff.mpr b)
def eI(a:p∈mF s o L A):∃q∈A,oP s o L q≠[]/\p=(q.1,oP s o L q):=by let(q,b,rfl):=Ko.mp a;let(h1,h2):=cc.mp b;show(q,h1,of_decide_eq_true h2,rfl)
theorem LdW.next(h:LdW s o L):LdW s o (mF s o L L):=by show(by rw[Bh];show h.sft.next,λp b r c=>?_,λp b=>?_,λp b=>?_,λp b r c hc=>?_);let(q,a,_,rfl):=eI b;show h.rows q a r (cc.mp c).1;let(q,a,_,rfl):=eI b;show Ls (KZ _ _) (h.few q a);let(q,a,_,rfl):=eI b;show h.is q a;let(q,a,_,rfl):=eI b;let:=(h.sft.go (q.1,q.2.map (bQ s o q.1)) (Ko.mpr (q,a,rfl)) _ (Ko.mpr (r,c,rfl)) hc).2;rw[eF]at this;show cc.mpr (h.go q a r c hc,decide_eq_true this)
structure FO(s o:OD)(L:Lw):Prop where
 nd : (kyw L).Nodup
 len:L.length<=(fX s o).length
 row:∀p∈L,∀r∈p.2,r∈gq s.length (o.getD p.1.1 0) p.1.2/\bQ s o p.1 r∈kyw L
 ne : ∀p∈L,p.2≠[]
 few:∀p∈L,p.2.length<64
 is : ∀p∈L,IsS s o p.1
 full:∀p∈L,∀r∈gq s.length (o.getD p.1.1 0) p.1.2,fj s o (bQ s o p.1 r)->r∈p.2
 beg:fj s o (0,s)->(0,s)∈kyw L
def LdW.done(h:LdW s o L)(b:-L<=(mF s o L L).length):FO s o (mF s o L L):=by
 let e:(L.filter λp=>decide (oP s o L p≠[]))=L:=by unfold mF at b;rw[Ki]at b;show rE.eq_of_length_le b
 let f:kyw (mF s o L L)=kyw L:=by unfold mF;rw[e];simp[kyw]
 let hn:=h.next
 show(hn.nd,hn.len,λp a r d=>(hn.rows p a r d,?_),λp a=>?_,hn.few,hn.is,hn.go,λhg=>?_);let(q,g,_,rfl):=eI a;rw[f];show of_decide_eq_true (cc.mp d).2;let(q,g,c,rfl):=eI a;show c;let:=hn.sft.can hg;rwa [eF]at this
structure tE(s o:OD)(L F:Lw)(pile:OH):Prop where
 nd : (kyw F).Nodup
 sub:∀p∈F,p∈L
 pin:∀x∈pile,x∈kyw L
 st : (0,s)∈kyw L->(0,s)∈pile\/(0,s)∈kyw F
 rch:∀x,x∈pile\/x∈kyw F->xK s o F (0,s) x
 cl : ∀p∈F,∀r∈p.2,bQ s o p.1 r∈pile\/bQ s o p.1 r∈kyw F
 pl : pile.length<=64*F.length+1
def tE.init:tE s o L [] ([(0,s)].filter λx=>decide (x∈kyw L)):=by show(!1,!1,λx hx=>of_decide_eq_true (cc.mp hx).2,λh=>.inl (cc.mpr (!1,decide_eq_true h)),λx hx=>?_,!1,by let:=KZ (λx=>decide (x∈kyw L)) [((0,s):Std)];simpa using this);rcases hx with e|e;rw[Kj.mp (cc.mp e).1];show .refl;simp[kyw]at e
def tE.len(h:tE s o L F pile):-F<=-L:=by
 let:=cM h.nd λx hx=>by
  let(p,a,rfl):=Ko.mp hx;show(Ko.mpr (p,h.sub p a,rfl):p.1∈kyw L)
 simpa[kyw] using this
def tE.skip(h:tE s o L F (pile++[x]))(hx:x∈kyw F):tE s o L F pile:=by show(h.nd,h.sub,λy a=>h.pin y (by simp[a]),λh0=>?_,λy a=>h.rch y (a.imp (λz=>by simp[z]) id),λp b r c=>?_,by let:=h.pl;simp at this;lia);rcases h.st h0 with e|e;rcases Km.mp e with e|e;show .inl e;rw[Kj.mp e];show .inr hx;show .inr e;rcases h.cl p b r c with e|e;rcases Km.mp e with e|e;show .inl e;rw[Kj.mp e];show .inr hx;show .inr e
def tE.add(i:FO s o L)(g:p∈L)(h:tE s o L F (pile++[p.1]))(hx:p.1 ∉ kyw F):tE s o L (F++[p]) (pile++p.2.map (bQ s o p.1)):=by
 let key:∀y,y∈pile++[p.1]\/y∈kyw F->y∈pile++p.2.map (bQ s o p.1)\/y∈kyw (F++[p]):=by intro y d;rcases d with e|e;rcases Km.mp e with e|e;show .inl (Kp _ e);show .inr (by simp[kyw,Kj.mp e]);show .inr (by simp only[kyw,KC,Km];show .inl e)
 let up:∀{y:Std},xK s o F (0,s) y->xK s o (F++[p]) (0,s) y:=λz=>by
  induction z with
  |refl=>show .refl
  |step f _ c k=>show .step (Kp _ f) k c
 let j:xK s o (F++[p]) (0,s) p.1:=up (h.rch p.1 (.inl (!1)));show(?_,λq f=>?_,λy d=>?_,λh0=>key _ (h.st h0),λy d=>?_,λq f r c=>?_,?_);simp only[kyw,KC,Kw,LQ];show Ky.mpr (h.nd,!1,λa l b m e=>?_);rw[Kj.mp m]at e;show hx (e▸l);rcases Km.mp f with e|e;show h.sub q e;rw[Kj.mp e];show g;rcases Km.mp d with e|e;show h.pin y (by simp[e]);let(r,c,rfl):=Ko.mp e;show(i.row p g r c).2;rcases d with e|e;rcases Km.mp e with e|e;show up (h.rch y (.inl (by simp[e])));let(r,c,rfl):=Ko.mp e;show .step (!1) j c;simp only[kyw,KC,Kw,LQ,Km,Kj]at e;rcases e with e|e;show up (h.rch y (.inr e));rw[e];show j;rcases Km.mp f with e|e;show key _ (h.cl q e r c);rw[Kj.mp e]at c ⊢;show .inl (Kl _ (Ko.mpr (r,c,rfl)));let:=h.pl;let:=i.few p g;simp at this ⊢;let:=h.pl;simp at this;lia
def tE.road(h:tE s o L F [])(b:FO s o L):cJ s o F :=
 (h.nd,Kr h.len b.len,λp a=>b.few p (h.sub p a),λp a=>b.ne p (h.sub p a),λp a=>b.is p (h.sub p a),λp a r c=>((b.row p (h.sub p a) r c).1,(h.cl p a r c).resolve_left (!1)),λp a r c hc=>b.full p (h.sub p a) r c hc,λhc=>(h.st (b.beg hc)).resolve_left (!1),λx hx=>h.rch x (.inr hx))
def xY(a:FO s o L)(b:p∈L):oP s o L p=p.2:=List.filter_eq_self.mpr λr c=>decide_eq_true (a.row p b r c).2
def u5(L:Lw)(hi:i< -L):mF s o L (L.take (i+1))=if oP s o L L[i]=[] then mF s o L (L.take i) else mF s o L (L.take i)++[(L[i].1,oP s o L L[i])]:=by unfold mF;rw[K3,Kk hi,Lr,KC];by_cases h:oP s o L L[i]=[] <;> simp[h]
def ya(nd:(kyw L).Nodup)(hi:i< -L):L[i].1 ∉ kyw (mF s o L (L.take i)):=by
 intro h
 cbv;let(q,b,e):=Ko.mp h;let(q',a,_,rfl):=eI b;let(j,hj,e2):=K7 a
 w_up;rw[Mk]at e2;rw[K8]at hj;let e:q'.1=L[i].1:=e;let h1:(kyw L)[j]'(by simp;lia)=(kyw L)[i]'(by simp;lia):=by simp[e2,e]
 let:=(L5 nd).mp h1;lia
end
def i6(l:OH):shp (.list (l.map stS)):=(Sh.list (n:=2) (λx hx=>by let(y,_,rfl):=Ko.mp hx;show rf _)).shp (!2)
def sI(l:OH):eu (.list (l.map stS)) (.list [])=l.isEmpty:=by cases l <;> rfl
def qY(s o:OD)(x:Std)(l:Ol):shp (.list (l.map (wyS s o x))):=(Sh.list (n:=3) (λd hd=>by
 let(r,_,rfl):=Ko.mp hd;show Sh.two (Sh.ints _ _) (rf _))).shp (!2)
def zk(s o:OD)(x:Std)(l:Ol):eu (.list (l.map (wyS s o x))) (.list [])=l.isEmpty:=by cases l <;> rfl
def qG(s o:OD)(x:Std)(rr:Ol)(h:-rr<64)(hR:R (.ow ((rr.map (bQ s o x)).map stS)) env):CD (rr.map (wyS s o x)) [OW,OW] (zo 2 (ox (kY 0) (ox (kY 1) zq))) AB (zv 1) env R:=by
 show b7 (λi=>stS (bQ s o x (rr.getD i []))) (by rw[Ki];lia) (λi hi Q hQ=>?_) ?_
 .rw[Ki]at hi;let e:(rr.map (wyS s o x))[i]'(by rw[Ki];show hi)=wyS s o x (rr.getD i []):=by
   rw[KJ,Kn,Kk hi];rfl
  rw[e];unfold wyS;lk;show hQ
 rw[Ki,aQ rr [] (λr=>stS (bQ s o x r)),show rr.map (λr=>stS (bQ s o x r))=(rr.map (bQ s o x)).map stS by rw[KQ];rfl];show hR
inductive IvA (s o:OD) (m:Nat):OL->Prop
 |mk (L:Lw) (pile:OH) (S:OO) (c e1 e2 e3 e4:Sl) (ps:OM):ps=pile.map stS->FlW s o (0,s) L pile->m=((fX s o).length-L.length)*64+pile.length->IvA s o m [.fr (.tuple [.list (li s),.list (li o)]),.tr S (br (lwK s o L)),.ow ps,c,e1,e2,e3,e4]
inductive IvB (s o:OD) (m:Nat):OL->Prop
 |mk (L:Lw) (a b c e d:Sl):LdW s o L->(m=L.length+1\/∃L0,LdW s o L0/\L=mF s o L0 L0/\m=L0.length)->IvB s o m [.fr (.tuple [.list (li s),.list (li o)]),.fr (br (lwK s o L)),a,b,.fr (.int m),c,e,d]
inductive IvC (s o:OD) (L:Lw) (a:Sl) (i:Nat):OL->Prop
 |mk (S:OO) (b e d:Sl) (D:Ou):D=lwK s o (mF s o L (L.take i))->IvC s o L a i [.fr (.tuple [.list (li s),.list (li o)]),.fr (br (lwK s o L)),a,b,.fr (.int (lwK s o L).length),.tr S (br D),e,d]
inductive IvD (s o:OD) (L:Lw) (m:Nat):OL->Prop
 |mk (F:Lw) (pile:OH) (S:OO) (c e1 e2 e3:Sl) (ps:OM):ps=pile.map stS->tE s o L F pile->m=(L.length-F.length)*64+pile.length->IvD s o L m [.fr (.tuple [.list (li s),.list (li o)]),.fr (br (lwK s o L)),.ow ps,c,e1,e2,e3,.tr S (br (lwK s o F))]
abbrev bz:Stmt:=top 40
def aF:aA ["_law_town_here","_law_leads","_law_pile","_law_here","_law_many","_law_kept","_law_good","_law_found"] ["_law_town_here"] (ae bz):={}
inductive ly:DSp
 |mk {ss R} (s o:OD):ss=[.fr (.tuple [.list (li s),.list (li o)])]->TB s o->TbL s o->(fX s o).length<=100->(∀F:Lw,cJ s o F->R (.fr (br (lwK s o F))) [.un])->ly ss R
def lR(F:Fun K "_law_roads" "_law_roads" bz f fd)(B:Bn mg)(g:Cal P w K mg base "_law_begun" 1 (spD K lz))(u:Cal P w K mg base "_law_rows" 1 (spD K uR))(t:Cal P w K mg base "_law_after" 1 (spD K po)):cg P w K mg base CX0 3 f fd ["_law_town_here"] (spD K ly):=by
 show okD (k:=2) F aF (λss R h=>?_) (!2) (λcdv A outer s H E C=>(_,(af (ax 1 aF.nd gN)
   (af (ax 2 aF.nd (bD (aa (aH g (aa (qf 0) ad)) ad)))
   (af (cr PassesOwn.never (aB (Fd (K:=K) rfl C.units) mNe (qv 2) (bD ad)) (af (ax 3 aF.nd (tR 2 (K:=K) rfl rfl))
   (ak (eV (aB (gn (K:=K) rfl (hu2 C)) gj (qv 3) (qv 1)) (af (fD 1 (K:=K) rfl (hu2 C) rfl (qf 3) (bZ (NN:=_::_) (sc0:=ae bz) (N':=["_law_row","_law_town_here","_law_here"]) (ix:=[OW,OV 0,OV 3]) (aE (aH u (aa (qf 0) (aa (qf 3) ad)))) (λ_ _ _ _=>(al 0 (!4))) (λ_ _ _ _=>(bV (aa (qf 0) (aa (aH t (aa (qf 1) (aa (qf 2) (aa (qf 0) ad)))) ad))))))
   (ak (ax 2 aF.nd (gd (cw (K:=K) rfl) sd (qv 2) (bZ (NN:=_::_) (sc0:=ae bz) (N':=["_law_row","_law_there"]) (ix:=[OW,OW]) (aE (qxK (qv 1) (qv 3))) (λ_ _ _ _=>(dJ (K:=K) (n:=2) rfl rfl (aI (al 0 (!4)) (aI (al 1 (!4)) cp)))) (λ_ _ _ _=>(qf 1))))))) aT))))
   (fC 1 (af (ax 4 aF.nd (aY bq mI (rG cO v8 rfl B.len m4 (aa (qv 1) ad)) aj))
   (af (cr PassesOwn.never (aB tV mB (rG cO v8 rfl B.len m4 (aa (qv 1) ad)) (qv 4)) (af (ax 4 aF.nd (rG cO v8 rfl B.len m4 (aa (qv 1) ad)))
   (af (ax 5 aF.nd gN)
   (af (cS PassesOwn.never rfl (kJ (qf 1)) (al 3 aF.nd) (af (bR 6 aF.nd (NN:=_::_) (sc0:=ae bz) (N':=["_law_road","_law_leads"]) (ix:=[OW,OV 1]) (aE (qxK (qv 1) (qv 3))) (λ_ _ _ _=>(al 0 (!4))) (λ_ _ _ _=>(qf 0)) (ht:=(λ_ _ _ _=>(eU (aB (F8 (K:=K) rfl (hu2 C)) F3 (qx (qv 0) aj) (qv 1))))))
   (ak (eV (aB (Fd (K:=K) rfl C.units) mNe (qv 6) (bD ad)) (ak (fD 5 (K:=K) rfl (hu2 C) rfl (qf 3) (qf 6))) aT))))
   (fC 5 (ak (ax 1 aF.nd (qf 5))))))))
   (af (ax 7 aF.nd gN)
   (af (bR 2 aF.nd (NN:=_::_) (sc0:=ae bz) (N':=["_law_here","_law_leads"]) (ix:=[OW,OV 1]) (aE (bD (aa (aH g (aa (qf 0) ad)) ad))) (λ_ _ _ _=>(al 0 (!4))) (λ_ _ _ _=>(qf 0)) (ht:=(λ_ _ _ _=>(eU (aB (F8 (K:=K) rfl (hu2 C)) F3 (qv 0) (qv 1))))))
   (af (cr PassesOwn.never (aB (Fd (K:=K) rfl C.units) mNe (qv 2) (bD ad)) (af (ax 3 aF.nd (tR 2 (K:=K) rfl rfl))
   (ak (eV (aB (gn (K:=K) rfl (hu2 C)) gj (qv 3) (qv 7)) (af (fD 7 (K:=K) rfl (hu2 C) rfl (qf 3) (bZ (NN:=_::_) (sc0:=ae bz) (N':=["_law_road","_law_leads"]) (ix:=[OW,OV 1]) (aE (qxK (qv 1) (qv 3))) (λ_ _ _ _=>(al 0 (!4))) (λ_ _ _ _=>(qf 0)) (ht:=(λ_ _ _ _=>(eU (aB (F8 (K:=K) rfl (hu2 C)) F3 (qx (qv 0) aj) (qv 1)))))))
   (ak (ax 2 aF.nd (gd (cw (K:=K) rfl) sd (qv 2) (bZ (NN:=_::_) (sc0:=ae bz) (N':=["_law_row","_law_there"]) (ix:=[OW,OW]) (aE (qxK (qv 7) (qv 3))) (λ_ _ _ _=>(dJ (K:=K) (n:=2) rfl rfl (aI (al 0 (!4)) (aI (al 1 (!4)) cp)))) (λ_ _ _ _=>(qf 1))))))) aT))))
   (fC 7 (ak (aR (qv 7))))))))))))),λss R h=>?_))
 let(s,o,rfl,_):=h;rfl;let(s,o,rfl,tb,(t1,t2,t3,t4,t5,_),t6,q):=h;let D:∀n:Nat,n<1000000->n<sizeLine:=λn h=>Ku h ai;let i0:IsS s o (0,s):=(t2,rfl,λc hc=>(t3 _ (aU hc),L6 _))
 let hh:∀d,d< -o->0<=o.getD d 0/\(-s<=4\/o.getD d 0<=3):=λd hd=>(t4 _ (aU hd),t5.imp id λh=>h _ (aU hd))
 lk;intro S0;lk;show(s,o,rfl,!0,?_);lk;show(Kr (!2) ai,?_);lk;show gz (IvA s o) (_,.mk [] [(0,s)] S0 _ _ _ _ _ _ rfl (FlW.init i0) rfl) λN hN=>?_;rintro _ env ⟨L,pile,S,c,e1,e2,e3,e4,_,rfl,l,rfl⟩;let I:=l.len;let v:=l.fil.pl;rw[show(toL s o L).length=-L from Ki ..]at v;lk;show(KG _,i6 pile,i6 [],?_);rw[sI];rcases Lo pile with rfl|⟨P,x,rfl⟩
 .rw[N7 (!1)];lk;show(lwK s o L,rfl,?_);lk;show gz (IvB s o) (-L+1,by rw[dX];show .mk L _ _ _ _ _ l.ldw (.inl rfl)) λM hM=>?_;clear l I v;rintro m env ⟨L,a,b,c,e,d,l,hm⟩;lk;show(lwK s o L,rfl,?_);rw[dX];let a6:=l.len;show cC (λJ=>?hB) (λJ=>?hC)
  case hB =>
   show(lwK s o L,rfl,?_);lk;intro S1;lk;show(lwK s o L,rfl,?_);let ek:(lwK s o L).map (λp=>aN p.1)=(kyw L).map stS:=by simp[lwK,kOf]
   rw[ek];show dz (IvC s o L a) (.mk S1 b e d _ rfl) (λY hL=>?_) ?_
   .rintro i env hi ⟨S,b,e,d,_,rfl⟩;rw[Ki,Ki]at hi;let O:L[i]∈L:=KL hi;rw[KJ,KJ];let W:=u5 (s:=s) (o:=o) L hi;let a5:=ya (s:=s) (o:=o) l.nd hi;let T:=gR (s:=s) (o:=o) l.nd O;let X:=l.few _ O;generalize L[i]=p at *;lk;show(_,rfl,kOf p.1,rfl,rfl,_,T,_,rfl,?_);show cy (λj=>decide (bQ s o p.1 (p.2.getD j [])∈kyw L)) (λj=>wyS s o p.1 (p.2.getD j [])) (by rw[Ki];lia) (λj hj Q Q' h1 h2=>?_) ?_
    .rw[Ki]at hj;let e:(p.2.map (wyS s o p.1))[j]'(by rw[Ki];show hj)=wyS s o p.1 (p.2.getD j []):=by
      rw[KJ,Kn,Kk hj];rfl
     rw[e];generalize p.2.getD j []=r at *;unfold wyS at h1 ⊢;lk;show(kOf (bQ s o p.1 r),rfl,rfl,lwK s o L,rfl,?_);rw[f7];show cC (λh=>h1 h) (λh=>h2 (by simpa using h))
    rw[Ki,bM p.2 [] (λr=>decide (bQ s o p.1 r∈kyw L)) (λr=>wyS s o p.1 r),show(p.2.filter λr=>decide (bQ s o p.1 r∈kyw L))=oP s o L p from rfl];lk;show(KG _,qY _ _ _ _,qY s o p.1 [],?_);rw[zk];by_cases hn:oP s o L p=[]
    rw[N7 (by simp[hn])];show(hL _).nx _ (.mk _ _ _ _ _ (by rw[W,N6 hn]));rw[N6 (by simpa using hn)];show((_,rfl),_,rfl,kOf p.1,rfl,rfl,D _ ?_,(hL _).nx _ (.mk _ _ _ _ _ (by rw[W,N7 hn,<-jT a5])));rw[dX];unfold mF;rw[Ki];let h1:=KZ (λp=>decide (oP s o L p≠[])) (L.take i);rw[K8]at h1;lia
   .rintro env ⟨S,b,e,d,_,rfl⟩;rw[Ki,Ki,La];lk;rw[dX];show(-L,!0,.mk (mF s o L L) _ _ _ _ _ l.next (.inr (L,l,rfl,rfl)))
  case hC =>
   let U:FO s o L:=by
    rcases hm with rfl|⟨L0,h0,rfl,rfl⟩
    show absurd (!0) J;show h0.done (!0)
   clear hm J l;lk;intro S2;lk;show(s,o,rfl,!0,?_);lk;show(Kr (!2) ai,?_);show cy (λ_=>decide (((0,s):Std)∈kyw L)) (λ_=>stS (0,s)) (!1) (λj hj Q Q' h1 h2=>?_) ?_
   .let ej:j=0:=by simpa using hj
    subst ej;lk;show(kOf (0,s),rfl,lwK s o L,rfl,?_);rw[f7];show cC (λh=>h1 h) (λh=>h2 (by simpa using h))
   rw[show((dm [gr [db 0,gr (li s)]].length).filter λ_=>decide (((0,s):Std)∈kyw L)).map (λ_=>stS (0,s))=([((0,s):Std)].filter λx=>decide (x∈kyw L)).map stS by by_cases h:((0,s):Std)∈kyw L <;> simp[h,Mc]];lk;show gz (IvD s o L) (_,.mk [] _ S2 _ _ _ _ _ rfl tE.init rfl) λY hL=>?_;rintro _ env ⟨F,pile,S,c,e1,e2,e3,_,rfl,l,rfl⟩;let I:=l.len;let v:=l.pl;lk;show(KG _,i6 pile,i6 [],?_);rw[sI];rcases Lo pile with rfl|⟨P,x,rfl⟩
   .rw[N7 (!1)];lk;show q F (l.road U)
   rw[Lp]at l v ⊢;rw[N6 (!1)];let(p,O,rfl):=Ko.mp (l.pin x (!1));let T:=gR (s:=s) (o:=o) U.nd O;let X:=U.few p O;let Z:=xY U O;show(stS p.1,!1,?_);lk;show(kOf p.1,rfl,rfl,lwK s o F,rfl,cC (λh=>?_) (λh=>?_))
   .rw[f7]at h;let hx:p.1 ∉ kyw F:=by simpa using h
    let y:=l.add U O hx;let z:=y.len;show(_,rfl,kOf p.1,rfl,rfl,_,T,_,rfl,?_);show cy (λj=>decide (bQ s o p.1 (p.2.getD j [])∈kyw L)) (λj=>wyS s o p.1 (p.2.getD j [])) (by rw[Ki];lia) (λj hj Q Q' h1 h2=>?_) ?_
    .rw[Ki]at hj;let e:(p.2.map (wyS s o p.1))[j]'(by rw[Ki];show hj)=wyS s o p.1 (p.2.getD j []):=by
      rw[KJ,Kn,Kk hj];rfl
     rw[e];generalize p.2.getD j []=r at *;unfold wyS at h1 ⊢;lk;show(kOf (bQ s o p.1 r),rfl,rfl,lwK s o L,rfl,?_);rw[f7];show cC (λh=>h1 h) (λh=>h2 (by simpa using h))
    rw[Ki,bM p.2 [] (λr=>decide (bQ s o p.1 r∈kyw L)) (λr=>wyS s o p.1 r),show(p.2.filter λr=>decide (bQ s o p.1 r∈kyw L))=p.2 from Z];lk;show((_,rfl),_,rfl,kOf p.1,rfl,rfl,D _ (by rw[dX];let:=U.len;lia),?_);rw[jT hx];lk;let V:=gR (s:=s) (o:=o) y.nd (p:=p) (!1);show(_,rfl,kOf p.1,rfl,rfl,_,V,_,rfl,qG s o p.1 p.2 X ?_);lk;let:=U.len;show(?_,(hL _).nx _ ((-L-(-F+1))*64+(-P+p.2.length),?_,.mk (F++[p]) _ _ _ _ _ _ _ (!1) y (!1)));simp at v ⊢;show LP (D _ (!0));simp at z ⊢;lia
   rw[f7]at h;let hx:p.1∈kyw F:=by simpa using h
   show(hL _).nx _ (_,!1,.mk F P _ _ _ _ _ _ (!1) (l.skip hx) rfl)
 rw[Lp]at l v ⊢;rw[N6 (!1)];let G:IsS s o x:=l.fil.pis x (!1);show(stS x,!1,?_);lk;show(kOf x,rfl,rfl,lwK s o L,rfl,cC (λh=>?_) (λh=>?_))
 .rw[f7]at h;let hx:x ∉ kyw L:=by simpa using h
  show(s,o,x.2,x.1,rfl,tb,(G.1,G.2.1),λrr a3=>?_);let a4:-rr<64:=by rw[a3.length_eq];show iz t1 (hh _ G.1).2
  lk;let hP:-P<900000:=by simp at v;lia
  show b7 (λi=>wyS s o x (rr.getD i [])) (by rw[Ki];lia) (λi hi Q hQ=>?_) ?_
  .rw[Ki]at hi;rw[iK];lk;show(s,o,x.2,_,x.1,rfl,!0,t2,G.2.1,?_);lk;show(Kr (!2) ai,hQ)
  rw[Ki,aQ rr [] (λr=>wyS s o x r)];lk;let y:=l.add t3 hx a3 a4;let z:=y.len;show((_,rfl),lwK s o L,rfl,kOf x,rfl,rfl,D _ (by rw[dX];lia),?_);rw[jT hx];lk;let V:=gR (s:=s) (o:=o) y.nd (p:=(x,rr)) (!1);show(lwK s o (L++[(x,rr)]),rfl,kOf x,rfl,rfl,_,V,_,rfl,qG s o x rr a4 ?_);lk;show(?_,(hN _).nx _ (((fX s o).length-(-L+1))*64+(-P+-rr),?_,.mk (L++[(x,rr)]) _ _ _ _ _ _ _ _ (!1) y (!1)));simp;show LP (D _ (!0));simp at z ⊢;lia
 rw[f7]at h;let hx:x∈kyw L:=by simpa using h
 show(hN _).nx _ (_,!1,.mk L P _ _ _ _ _ _ _ (!1) (l.skip hx) rfl)
abbrev u9:Stmt:=top 44
def cB:aA ["_law_script","_law_town_here","_law_draws_here","_law_costs","_law_found","_law_fraction","_law_prices","_law_plan","_law_number","_law_above","_law_below","_law_kept","_law_told"] ["_law_script"] (ae u9):={}
theorem vz:∀s:OD,jK s=m8 s
 |[]=>rfl
 |x::s=>by
  show x.toNat*jK s=x.toNat*m8 s;rw[vz s]
def TB.tbl(h:TB s o)(a:-o*jK s<=24):TbL s o/\(fX s o).length<=24:=by
 let(h1,h2,h3,h4,h5,h6,b):=h;let e:(fX s o).length<=24:=by rw[tq,<-vz];show a
 show((h2,h3,λx hx=>(h5 x hx).1,λx hx=>(h6 x hx).1,b.imp id λh x hx=>Int.le_trans (h x hx) (!2),!0),e)
def Ik:TbL [12,12,12] [1]/\(fX [12,12,12] [1]).length<=2000:=by
 let e:(fX [12,12,12] [1]).length=1728:=by rw[tq];rfl
 unfold TbL;rw[e];decide
inductive Js (ns s o:OD):OL->Prop
 |mk (cs l3:OD):Ds l3->cs.length=s.length->(∀c∈cs,0<=c/\c<=100000000000000000000)->Js ns s o [.fr (.list (li ns)),.fr (.tuple [.list (li s),.list (li o)]),.ow (li l3),.ow (li cs),.un,.un,.un,.un,.un,.un,.un,.un,.un]
inductive Jr (ns s o cs l3:OD):OL->Prop
 |mk (p q:Nat) (kvs:Ot) (x y:Sl):1<=q->q<=1000->p<=10 ^ 30->kvs.length<=24->Jr ns s o cs l3 [.fr (.list (li ns)),.fr (.tuple [.list (li s),.list (li o)]),.ow (li l3),.fr (.list (li cs)),x,.fr (.tuple [.int p,.int q]),.fr (.list (prD kvs)),y,.un,.un,.un,.un,.un]
inductive Jq (ns s o cs:OD) (x y:Sl) (p q:Nat) (num:Int):OL->Prop
 |mk (l5:OD) (kvs:Ot):kvs.length<=61->Jq ns s o cs x y p q num [.fr (.list (li ns)),.fr (.tuple [.list (li s),.list (li o)]),.ow (li l5),.fr (.list (li cs)),x,.fr (.tuple [.int p,.int q]),.fr (.list (prD kvs)),y,.fr (.int num),.un,.un,.un,.un]
inductive Jp (ns s o cs l5:OD) (kvs:Ot) (x y:Sl) (num:Int):OL->Prop
 |mk (a b:Int) (z w:Sl):-100000<b/\b<100000->Jp ns s o cs l5 kvs x y num [.fr (.list (li ns)),.fr (.tuple [.list (li s),.list (li o)]),.ow (li l5),.fr (.list (li cs)),x,.fr (.tuple [.int a,.int b]),.fr (.list (prD kvs)),y,.fr (.int num),z,w,.un,.un]
def J6:fj [12,12,12] [1] (0,[12,12,12]):=((·∈[((0,[12,12,12]):Std),(0,[12,11,11]),(0,[11,12,10]),(0,[10,11,12]),(0,[12,10,11])]),!2,!2)
inductive x9:DSp
 |mk {ss R} (ns:OD):ss=[.fr (.list (li ns))]->ns.length<=63->R (.fr (.bool true)) [.un]->x9 ss R
def EM(F:Fun K "law" "law" u9 f fd)(B:Bn mg)(g:Cal P w K mg base "_law_draws" 2 (spD K pf))(I:Cal P w K mg base "_law_town" 2 (spD K uQ))(j:Cal P w K mg base "_law_pop" 1 (spD K tM))(C:Cal P w K mg base "least_cost" 11 (spD K lq))(J:Cal P w K mg base "_law_bent" 3 (spD K uY))(u:Cal P w K mg base "_law_fair" 1 (spD K uX))(r:Cal P w K mg base "prices_hold" 9 (spD K GI))(D:Cal P w K mg base "_law_holds" 1 (spD K GJ))(G:Cal P w K mg base "_law_roads" 3 (spD K ly)):cg P w K mg base CX0 12 f fd ["_law_script"] (spD K x9):=by
 show okD (k:=11) F cB (λss R h=>?_) (!2) (λcdv A outer s H E hr=>(_,(af (ax 1 cB.nd (Bz I (aa (aH g (aa (qf 0) (aa aj (aa aj ad)))) (aa aj ad))))
   (af (ax 2 cB.nd (aH g (aa (qf 0) (aa aj (aa aj ad)))))
   (af (ii 3 1 2 rfl cB.nd (NN:=_::_) (sc0:=ae u9) (N':=["_law_span","_law_draws_here"]) (ix:=[OW,OV 2]) (aE (qx (qv 1) aj)) (λ_ _ _ _=>(al 0 (!4))) (λ_ _ _ _=>(aY aP mIC (bN 0 j (aa (qv 1) ad)) aj)))
   (jF (eV (aB fg nC (aY aP mIC (bN 0 j (aa (qv 2) ad)) aj) aj) (ak (bR 3 cB.nd (NN:=_::_) (sc0:=ae u9) (N':=["_law_cost"]) (ix:=[OW]) (aE (qf 3)) (λ_ _ _ _=>(al 0 (!4))) (λ_ _ _ _=>(aY bq mI (aY cT mIC (qv 0) (aY EF mIC aj aj)) aj)))) aT)
   (af (ax 4 cB.nd (aH C (aa (qf 1) (aa (qf 3) ad))))
   (ce (ax 5 cB.nd (bV (aa aj (aa aj ad))))
   (ce (ax 6 cB.nd (bD ad))
   (vm 6 (jF (eV (aB jO v7 (qv 4) gM) (ak (BA (qf 4) (dJ (K:=K) (n:=3) rfl rfl (aI (al 5 cB.nd) (aI (al 7 cB.nd) (aI (al 6 cB.nd) cp)))))) aT)
   (af (ax 8 cB.nd (bN 0 j (aa (qv 2) ad)))
   (jF (eV (aB fg nC (aY aP mIC (qv 8) aj) aj) (ce (ax 6 cB.nd (bN 2 J (aa (qf 1) (aa (qf 6) (aa (qv 2) ad))))) (vm 6 aT)) aT)
   (jF (eV (aB fg nC (aY aP mIC (qv 8) aj) aj) (ce (BA (qf 5) (dJ (K:=K) (n:=2) rfl rfl (aI (al 9 cB.nd) (aI (al 10 cB.nd) cp))))
   (ak (ax 5 cB.nd (qx (bD (aa (aH u (aa (aY bq mI (qv 9) aj) (aa (qf 10) ad))) (aa (aH u (aa (aY kM mI (aY cT mIC aj (qv 9)) aj) (aa (aY bq mI (aY cT mIC aj (qv 10)) aj) ad))) ad))) (aY aP mIC (aY cG mIC (qv 8) aj) aj))))) aT)
   (ce (ax 11 cB.nd (lH (K:=K) rfl rfl B.list (aa (qv 6) ad)))
   (af (ax 12 cB.nd (aH r (aa (qf 1) (aa (qf 3) (aa (qf 5) (aa (qf 6) ad))))))
   (af (eV (PW.pt (mY (aB fg nC (aY aP mIC (qx (aH g (aa (qf 0) (aa aj (aa aj ad)))) aj) aj) aj) (jE (rF (aH r (aa (bV (aa (bD (aa aj (aa aj (aa aj ad)))) (aa (bD (aa aj ad)) ad))) (aa (bD (aa aj (aa aj (aa aj ad)))) (aa (bV (aa aj (aa aj ad))) (aa (bD ad) ad))))))))) (ak (aR vv)) aT)
   (ce (eV (PW.pt (D8 (vk (rF (GY (K:=K) rfl yP rfl B.isinstance rfl B.bool PyProof.Rows.boot_bool (qv 12)))) (z0 (aB (Fd (K:=K) rfl hr.units) mNe (qv 6) (qv 11))))) (ak (aR vv)) aT)
   (ak (aR (Ej fg JV (qv 12) (aH D (aa (aH G (aa (qf 1) ad)) (aa (qf 3) (aa (qf 5) (aa (qf 6) ad)))))))))))))))))))))))),λss R h=>?_))
 let(ns,rfl,_):=h;rfl;let(ns,rfl,S,q):=h;lk;show(ns,1,30,rfl,S,!2,!2,λl M _=>?_);lk;show(l,24,rfl,M,!2,!2,λs o l' a6 tb hp=>?_);lk;let(ht,hN):=tb.tbl hp;show(ns,200,60,rfl,S,!2,!2,λdr V _=>?_);lk;show(Dt 5,_,_,rfl,rfl,.mk [] _ rfl V (!1),?_,?_)
 .rintro i rs l hi ⟨cs,l',M,W,O⟩;rw[Ki]at hi;show(by rw[Ki,M];show Ku (by let:=tb.2.1;lia) ai,_,rfl,?_);lk;show(l',rfl,?_);lk;show(!2,.add M W O (!0))
 rintro rs l ⟨cs,l2,M,T,O⟩;rw[Ki]at M;show(_,rfl,?_);lk;show(Js ns s o,?h1,?h2)
 case h1 =>
  lk;show(l2,rfl,?_);lk;let N:=T.drop;let ph:=λ(c:Int) (h:c∈cs)=>O c h;show(!2,cC (λ_=>?_) λ_=>.mk cs _ N M λc hc=>by let:=O c hc;lia);show sX (λd=>∃c:Int,d=.int c/\0<=c/\c<=100000000000000000000) (by rw[Ki];let:=tb.2.1;lia) (λi hi Q hQ=>?_) λrs X Y=>?_
  .rw[dL];let hm:=O _ (aU (l:=cs) (k:=i) (by simpa using hi));generalize cs.getD i 0=c at *;lk;rw[show(10:Int) ^ Int.toNat 19=10000000000000000000 from rfl];show((!2,!2,!2),ff (!0) (!0),hQ _ (_,rfl,!0,!0))
  .let(Z,rfl,U):=jo Y;rw[Ki,Ki]at X;lk;show .mk Z _ N (!0) U
 case h2 =>
  clear O M T;rintro env ⟨cs,l3,a3,M,O⟩;lk;show(s,o,cs,rfl,ht,!0,M,O,λd hd=>?_);lk;show(Kr (!2) ai,KG _,Jr ns s o cs l3,?_,?_)
  .cases hd with
   |no =>
    lk;show .mk 1 2 [] _ _ (!2) (!2) (!2) (!2)
   |mk p q d kvs h1 h2 h3 h4 =>
    lk;show .mk p q kvs _ _ h1 h2 h3 (!0)
  rintro env ⟨p,q',kvs,x,y,a7,b0,b3,hk⟩;lk;show(l3,rfl,?_);lk;let N:=a3.drop;generalize tU l3=num at *;generalize l3.dropLast=l4 at *;show(Jq ns s o cs x y p q' num,?_,?_)
  .lk;show(!2,cC (λ_=>?_) (λ_=>.mk l4 kvs (!0)));show(s,o,l4,kvs,rfl,N,tb,!0,λl5 kvs b4 a4=>?_);lk;show .mk l5 kvs a4
  clear hk N;rintro env ⟨l5,kvs,hk⟩;show(Jp ns s o cs l5 kvs x y num,?_,?_)
  .lk;show(!2,cC (λ_=>?_) (λ_=>.mk _ _ _ _ (!0,!0)));show(p+1,q',rfl,by omega +splitDisjunctions,by omega +splitDisjunctions,by omega +splitDisjunctions,λa1 b1 h1 h2=>?_);lk;show(ff (!2) (!2),ff (!2) (!2),?_);show(3*p-1,3*q'+1,rfl,by omega +splitDisjunctions,by omega +splitDisjunctions,by omega +splitDisjunctions,λa2 b2 h3 h4=>?_);lk;show(Kr (!2) ai,(!2,!2),!2,?_);rcases(show num / 3 % 2=0\/num / 3 % 2=1 by lia) with e|e;rw[e];show(_,rfl,.mk a1 b1 _ _ (!0,!0));rw[e];show(_,rfl,.mk a2 b2 _ _ (!0,!0))
  rintro env ⟨a,b,z,w,hb⟩;lk;show(s,o,cs,a,b,kvs,rfl,ht,!0,M,hb,.inr (!0,!0),λL t kw a5=>?_);lk;show(ns,700,1,rfl,S,!2,!2,λl6 b5 hn=>?_);lk;let(v,rfl):=kB hn;show(λ(m:dNx _ _ _)=>(_,rfl,_,rfl,!2,cC (λ_=>(Kr (!2) ai,Kr (!2) ai,Kr (!2) ai,Kr (!2) ai,Kr (!2) ai,KG _,[12,12,12],[1],[1,2,3],0,1,[],rfl,Ik.1,Ik.2,rfl,(!2,!2),.inl rfl,λL t kw h=>?hA)) λ_=>m)) ?hB
  case hA =>
   cases t with
   |true =>
    let:=(h.mp rfl).1.mem_iff.mpr (Ko.mpr (_,kw.beg J6,rfl));cases this
   |false =>
    walk_at"dd";show m
  case hB =>
   lk;show(jx kvs,jx kvs,?_);rw[N7 (by rw[SeqAt.eqv_refl _ (gt (jx kvs))];decide)];show(s,o,rfl,tb,ht,!0,λF kf=>?_);let hF:=kf.len;lk;show(s,o,cs,a,b,kvs,F,rfl,kf,!0,tb.2.1,M,hb,!0,λt' h'=>?_);lk;let e:t=t':=L9.mpr ((a5.trans (PrH.iff kw kf)).trans h'.symm);rw[decide_eq_true e];show q
end
def FN{l:o0}{K:bg}{h:bb}(X:K.In h)(G:h.Ns k0 mg)(a5:mg "law" = OV (.ref fa))
  (g0:FnI K "_law_pop" ie)
  (g1:FnI K "_law_mix" ig)
  (g2:FnI K "_law_draws" dH)
  (g3:FnI K "_law_town" cF)
  (g4:FnI K "_law_rows" bX)
  (g5:FnI K "_law_after" fB)
  (g6:FnI K "hands_on" h8)
  (g7:FnI K "behind" i8)
  (g8:FnI K "begun" pB)
  (g9:FnL K "choices" gL)
  (a6:FnL K "full_rows" eQ)
  (a7:FnI K "looked_through" ca)
  (b0:FnI K "plan_of" jC)
  (b2:FnI K "prices_by" eM)
  (b3:FnI K "is_less" jD)
  (b4:FnI K "priced" i7)
  (b5:FnI K "picked_again" dQ)
  (b6:FnI K "loops_among" eN)
  (c3:FnI K "greatest_divisor" ck)
  (c4:FnI K "lowest_terms" dR)
  (c5:FnI K "row_cost" fP)
  (c6:FnI K "cost_of" gJ)
  (d0:FnI K "loop_cost" eO)
  (d3:FnI K "cheapest" fQ)
  (d4:FnI K "way_between" eL)
  (e0:FnI K "loop_plan" dc)
  (e5:FnI K "leading_to" fw)
  (e6:FnI K "lost_among" dF)
  (e7:FnI K "all_ways" d7)
  (e8:FnI K "kept_ways" eP)
  (e9:FnI K "steps_of" fO)
  (f0:FnI K "least_cost" fv)
  (f1:FnI K "prices_hold" cY)
  (f2:FnI K "_law_holds" dG)
  (f3:FnI K "_law_standing" de)
  (f4:FnI K "_law_bent" eR)
  (f5:FnI K "_law_fair" gc)
  (h7:FnI K "_law_begun" fA)
  (h9:FnI K "_law_roads" bz)
  (i3:FnI K "law" u9)
  (z : BnI K)
  : ∃fd:k3,(∀(s:az) (v:ao),Zv s fd ([v],[]) [("_law_script",v)])/\∀base:bb,K.In base->base.Ns k0 mg->cg l.prog w K mg base CX0 12 fa fd ["_law_script"] (spD K x9):=by let B:Bn mg:=z.bn X G;show JY X G a5 i3 (λF s v=>?_) λ{fd base} a4 Xb=>?_;let(_,_,_,_,_,_,_,_,_,rfl,_,_):=F.ex;show .of_eq rfl;let a:=fi X G g0 (λF=>bd1 F) λF=>pR (P:=l.prog) (w:=w) (base:=base) F B;let Q:=fi X G g1 (λF=>bd2 F) λF=>pS (P:=l.prog) (w:=w) (base:=base) F B;let q:=fi X G g2 (λF=>bd3 F) λF=>lT (P:=l.prog) (w:=w) (base:=base) F B Q;let E:=fi X G g3 (λF=>bd2 F) λF=>nr (P:=l.prog) (w:=w) (base:=base) F B a;let H:=fi X G g4 (λF=>bd2 F) λF=>nt (P:=l.prog) (w:=w) (base:=base) F B;let r:=fi X G g5 (λF=>bd3 F) λF=>lV (P:=l.prog) (w:=w) (base:=base) F B;let R:=fi X G g6 (λF=>bd2 F) λF=>pO (P:=l.prog) (w:=w) (base:=base) F B;let D:=fi X G g7 (λF=>bd3 F) λF=>vV (P:=l.prog) (w:=w) (base:=base) F B;let k:=fi X G g8 (λF=>bd1 F) λF=>yz (P:=l.prog) (w:=w) (base:=base) F B;let m:=IQ X G Xb g9 (λF=>bd2 F) λF L=>t8 (P:=l.prog) (w:=w) F B L R;let I:=IQ X G Xb a6 (λF=>bd2 F) λF L=>nq (P:=l.prog) (w:=w) F B L m;let e:=fi X G a7 (λF=>bd2 F) λF=>im (P:=l.prog) (w:=w) (base:=base) F B I D;let V:=fi X G b0 (λF=>bd1 F) λF=>tX (P:=l.prog) (w:=w) (base:=base) F B e k;let f:=fi X G b2 (λF=>bd3 F) λF=>nh (P:=l.prog) (w:=w) (base:=base) F B;let Y:=fi X G b3 (λF=>bd2 F) λF=>tY (P:=l.prog) (w:=w) (base:=base) F B;let a3:=fi X G b4 (λF=>bd2 F) λF=>vU (P:=l.prog) (w:=w) (base:=base) F B f;let j:=fi X G b5 (λF=>bd4 F) λF=>jQ (P:=l.prog) (w:=w) (base:=base) F B f;let n:=fi X G b6 (λF=>bd1 F) λF=>kA (P:=l.prog) (w:=w) (base:=base) F B;let d:=fi X G c3 (λF=>bd2 F) λF=>gg (P:=l.prog) (w:=w) (base:=base) F B;let b:=fi X G c4 (λF=>bd2 F) λF=>jR (P:=l.prog) (w:=w) (base:=base) F B d;let c:=fi X G c5 (λF=>bd2 F) λF=>pN (P:=l.prog) (w:=w) (base:=base) F B;let Z:=fi X G c6 (λF=>bd2 F) λF=>tZ (P:=l.prog) (w:=w) (base:=base) F B b c;let J:=fi X G d0 (λF=>bd1 F) λF=>nj (P:=l.prog) (w:=w) (base:=base) F B b;let S:=fi X G d3 (λF=>bd2 F) λF=>pP (P:=l.prog) (w:=w) (base:=base) F B a3 j n J Y;let o:=fi X G d4 (λF=>bd3 F) λF=>kx (P:=l.prog) (w:=w) (base:=base) F B;let M:=fi X G e0 (λF=>bd3 F) λF=>ni (P:=l.prog) (w:=w) (base:=base) F B o;let t:=fi X G e5 (λF=>bd1 F) λF=>lQ (P:=l.prog) (w:=w) (base:=base) F B;let u:=fi X G e6 (λF=>bd1 F) λF=>lO (P:=l.prog) (w:=w) (base:=base) F B t;let T:=fi X G e7 (λF=>bd1 F) λF=>pQ (P:=l.prog) (w:=w) (base:=base) F B k m D;let g:=fi X G e8 (λF=>bd1 F) λF=>nk (P:=l.prog) (w:=w) (base:=base) F B T u;let U:=fi X G e9 (λF=>bd3 F) λF=>pM (P:=l.prog) (w:=w) (base:=base) F B c;let x:=fi X G f0 (λF=>bd2 F) λF=>lP (P:=l.prog) (w:=w) (base:=base) F B V g U Z S k M;let p:=fi X G f1 (λF=>bd4 F) λF=>kz (P:=l.prog) (w:=w) (base:=base) F B g c;let y:=fi X G f2 (λF=>bd4 F) λF=>lS (P:=l.prog) (w:=w) (base:=base) F B;let i:=fi X G f3 (λF=>bd2 F) λF=>iS (P:=l.prog) (w:=w) (base:=base) F B a;let N:=fi X G f4 (λF=>bd3 F) λF=>ny (P:=l.prog) (w:=w) (base:=base) F B a i;let O:=fi X G f5 (λF=>bd2 F) λF=>nu (P:=l.prog) (w:=w) (base:=base) F B;let A:=fi X G h7 (λF=>bd1 F) λF=>lU (P:=l.prog) (w:=w) (base:=base) F B;let C:=fi X G h9 (λF=>bd1 F) λF=>lR (P:=l.prog) (w:=w) (base:=base) F B A H r;show EM a4 B q E a x N O p y C
end _W
end
namespace PySem.Challenge.cw_windround_k28_prices_looked_at_holds
def tw3720514457432056396:0=0:=rfl
def tw13439102402631921676:0=0:=rfl
def tw10254693197780638413:0=0:=rfl
def tw15792665682913561153:0=0:=rfl
def tw7209899746756539760:0=0:=rfl
def tw12501901560504619747:0=0:=rfl
def tw6404758588447009954:0=0:=rfl
def tw1179276045974678844:0=0:=rfl
def tw13786779866344406746:0=0:=rfl
def tw13838553976550690081:0=0:=rfl
def tw4923125829617967843:0=0:=rfl
def tw4127212186785043147:0=0:=rfl
def tw5646252869397543809:0=0:=rfl
def tw7456925651378148965:0=0:=rfl
def tw12966672471138556866:0=0:=rfl
def tw10892283491078329501:0=0:=rfl
def tw16561967430683135008:0=0:=rfl
def tw7633622119075748036:0=0:=rfl
def tw3243430994190717431:0=0:=rfl
def tw4847464043374025948:0=0:=rfl
def tw18237901930587769211:0=0:=rfl
def tw16795036074774450730:0=0:=rfl
def tw5526398216826373736:0=0:=rfl
def tw5763273909775026849:0=0:=rfl
def tw5686861166827882932:0=0:=rfl
def tw12250055022611667113:0=0:=rfl
def tw2430186455213269632:0=0:=rfl
def tw9019703992138790173:0=0:=rfl
def tw14079473178931284640:0=0:=rfl
def tw12579313910200885752:0=0:=rfl
def tw13572232366671478354:0=0:=rfl
def tw12777042036412084115:0=0:=rfl
def tw6900611548602641461:0=0:=rfl
def tw14302408958647991323:0=0:=rfl
def tw672160771854490241:0=0:=rfl
def tw11331436318215926496:0=0:=rfl
def tw5631430240560957871:0=0:=rfl
def tw7675872038209085577:0=0:=rfl
def tw17138519631044565686:0=0:=rfl
def tw12745656483662157480:0=0:=rfl
def tw14341092517476318459:0=0:=rfl
def tw5789062865207457417:0=0:=rfl
def tw6039740242173480191:0=0:=rfl
def tw8927306350341408458:0=0:=rfl
def tw11101617873008693558:0=0:=rfl
def tw11968038860483203816:0=0:=rfl
def tw501024311667847672:0=0:=rfl
def tw16412147612264378836:0=0:=rfl
def tw2730864897960321079:0=0:=rfl
def tw10727628681024092268:0=0:=rfl
def tw9597009677389171855:0=0:=rfl
def tw11159183345074900100:0=0:=rfl
def tw17438027093447151678:0=0:=rfl
def tw1299001391001388851:0=0:=rfl
def tw3118817435996263005:0=0:=rfl
def tw8745883161981363025:0=0:=rfl
def tw5829804709009808194:0=0:=rfl
def tw5100249238555066788:0=0:=rfl
def tw12460001446531950757:0=0:=rfl
def tw2662573263730240626:0=0:=rfl
def tw13475003628386058638:0=0:=rfl
def tw7932459345253639388:0=0:=rfl
def tw6608707759002848766:0=0:=rfl
def tw9939704060026646406:0=0:=rfl
def tw10651582535517295081:0=0:=rfl
def tw16309571137238230456:0=0:=rfl
def tw1726978760491913748:0=0:=rfl
def tw7862378096810007326:0=0:=rfl
def tw17620371254410481640:0=0:=rfl
def tw9578109353308928262:0=0:=rfl
def tw1360284691280241345:0=0:=rfl
def tw15841333196903371274:0=0:=rfl
def tw16304167587903259911:0=0:=rfl
def tw8957441695659171686:0=0:=rfl
def tw8296419531981736989:0=0:=rfl
def tw17659625919270449510:0=0:=rfl
def tw18292929913268158246:0=0:=rfl
def tw3246850808909160734:0=0:=rfl
def tw13564202617028088346:0=0:=rfl
def tw12335489719076164861:0=0:=rfl
def tw13431830563704461583:0=0:=rfl
def tw6908871699238274071:0=0:=rfl
def tw10994022847926189741:0=0:=rfl
def tw9481198968921318974:0=0:=rfl
def tw4934655805106533259:0=0:=rfl
def tw5513064640175866028:0=0:=rfl
def tw10554460921643040588:0=0:=rfl
def tw16553077269528360955:0=0:=rfl
def tw11342853309187284349:0=0:=rfl
def tw8277678990153436886:0=0:=rfl
def tw15951616893895670017:0=0:=rfl
def tw10918022907890091119:0=0:=rfl
def tw18339583220501282702:0=0:=rfl
def tw12539595327728093492:0=0:=rfl
def tw12082799702891386725:0=0:=rfl
def tw5344649959405321053:0=0:=rfl
def tw7031054314938822665:0=0:=rfl
def tw14585029672908107405:0=0:=rfl
def tw7859672461503499630:0=0:=rfl
def tw10210421414378766485:0=0:=rfl
def tw9390044195619375239:0=0:=rfl
def tw6507272563924493677:0=0:=rfl
def tw9912411468723876313:0=0:=rfl
def tw1040781343319937344:0=0:=rfl
def tw6060081443139051638:0=0:=rfl
def tw10558793605607354481:0=0:=rfl
def tw18158195029743953256:0=0:=rfl
def tw2601656015692271715:0=0:=rfl
def tw5646535091670315376:0=0:=rfl
def tw9695786914293004886:0=0:=rfl
def tw15008230384768726789:0=0:=rfl
def tw7678303033718469649:0=0:=rfl
def tw2270647326335824437:0=0:=rfl
def tw16707675861949760255:0=0:=rfl
def tw302411309590586442:0=0:=rfl
def tw13319545679887128349:0=0:=rfl
def tw2904096587698141367:0=0:=rfl
def tw5078839835335667726:0=0:=rfl
def tw18400171119235919461:0=0:=rfl
def tw1850463053203518163:0=0:=rfl
def tw18204882261241405081:0=0:=rfl
def tw9574586027996627207:0=0:=rfl
def tw2840614914948664826:0=0:=rfl
def tw11174224908283050964:0=0:=rfl
def tw6879534621458609445:0=0:=rfl
def tw16680167574509292151:0=0:=rfl
def tw5363584191443414866:0=0:=rfl
def tw6769327005105095975:0=0:=rfl
def tw2831435642146941003:0=0:=rfl
def tw7432389322788730084:0=0:=rfl
def tw9326476370920121858:0=0:=rfl
def tw13005876005400166006:0=0:=rfl
def tw6877981177651540316:0=0:=rfl
def tw9956621335299527924:0=0:=rfl
def tw1071504351122793126:0=0:=rfl
def tw5354985786764936368:0=0:=rfl
def tw1690918034306678047:0=0:=rfl
def tw7663083749211786349:0=0:=rfl
def tw2337911265235572920:0=0:=rfl
def tw8133832313584770109:0=0:=rfl
def tw7587976361417466134:0=0:=rfl
def tw7124019443844215376:0=0:=rfl
def tw2747663330262945870:0=0:=rfl
def tw17892542014574676213:0=0:=rfl
def tw1690193256195166683:0=0:=rfl
def tw16394503036968545795:0=0:=rfl
def tw15721050620511857121:0=0:=rfl
def tw14795742861082714228:0=0:=rfl
def tw1405593012508658246:0=0:=rfl
def tw13572133176503283256:0=0:=rfl
def tw10582124510830655493:0=0:=rfl
def tw8264719738709511278:0=0:=rfl
def tw2889324027845992430:0=0:=rfl
def tw5651438006795310087:0=0:=rfl
def tw3913199030218776233:0=0:=rfl
def tw1058898320701666390:0=0:=rfl
def tw11053149132513314784:0=0:=rfl
def tw746884500861669329:0=0:=rfl
def tw6841273258986163147:0=0:=rfl
def tw6800859632108566402:0=0:=rfl
def tw8399185746125825365:0=0:=rfl
def tw5980130478466049895:0=0:=rfl
def tw5050354013733635611:0=0:=rfl
def tw2935512484973265969:0=0:=rfl
def tw9942243669555856248:0=0:=rfl
def tw8090392747886251951:0=0:=rfl
def tw6858294345458173563:0=0:=rfl
def tw6498492005937781776:0=0:=rfl
def tw48002144221809360:0=0:=rfl
def tw4351547665131536510:0=0:=rfl
def tw4140528286853341268:0=0:=rfl
def tw3898429537664414047:0=0:=rfl
def tw3163282271301896746:0=0:=rfl
def tw2280829659311568743:0=0:=rfl
def tw17657215106961292279:0=0:=rfl
def tw16700032989959638356:0=0:=rfl
def tw16082557474264155151:0=0:=rfl
def tw15168432405438225138:0=0:=rfl
def tw15131092528360512879:0=0:=rfl
def tw13964391615175372454:0=0:=rfl
def tw13210163522288714967:0=0:=rfl
def tw12211056221340718135:0=0:=rfl
def tw12019119606867966565:0=0:=rfl
def tw11174570784767368154:0=0:=rfl
def tw11051632168586255761:0=0:=rfl
def tw10599881862704031462:0=0:=rfl
def tw10230285905734427338:0=0:=rfl
def tw9911276191534234167:0=0:=rfl
def tw8503431680195691200:0=0:=rfl
def tw8230288164316767094:0=0:=rfl
def tw8065409926098525748:0=0:=rfl
def tw8042927854490113103:0=0:=rfl
def tw7529486645707696818:0=0:=rfl
def tw6284944359833607118:0=0:=rfl
def tw5621417661330431061:0=0:=rfl
def tw5415364876770825180:0=0:=rfl
def tw5197909400072995914:0=0:=rfl
def tw4759190335009982221:0=0:=rfl
def tw4563100205508888688:0=0:=rfl
def tw417901185958950791:0=0:=rfl
def tw3546813430074678685:0=0:=rfl
def tw3545544945450528373:0=0:=rfl
def tw3498228743467068335:0=0:=rfl
def tw3215290403476378886:0=0:=rfl
def tw3206523714721039003:0=0:=rfl
def tw182215241359732140:0=0:=rfl
def tw18030258190414782514:0=0:=rfl
def tw17869204469374025650:0=0:=rfl
def tw17815143184774697401:0=0:=rfl
def tw1462698820572429027:0=0:=rfl
def tw13366034807445497868:0=0:=rfl
def tw1277339407513624217:0=0:=rfl
def tw120699219571766014:0=0:=rfl
def tw12045176235953610097:0=0:=rfl
def tw10699072053956188790:0=0:=rfl
def tw10575278257241706006:0=0:=rfl
def tw14348107672161314986:0=0:=rfl
end PySem.Challenge.cw_windround_k28_prices_looked_at_holds
open PySem PySem.W PyProof.Rows
set_option maxRecDepth 100000 in
set_option maxHeartbeats 0 in
set_option Elab.async true in
theorem PySem.Challenge.cw_windround_k28_prices_looked_at_holds : PySem.Challenge.rw_windround_k28_prices_looked_at.Holds := by
 w_on;o_law;k_head;(case hw=>w_witness2)
 k_fill
 refine _L.Gs (l:=PySem.Challenge.rw_windround_k28_prices_looked_at) (sp:=_W.x9) (k:=12) (by decide) rfl rfl (λns h=>⟨ns,rfl,h,rfl⟩) ?TB (λw h Y=>PySem.W.km_in_of Y) ?F
 case TB =>
  intro w s₀ mg mb h G a
  refine' _L.A6 _ (_L.sf (x := "choices") (_L.si G a rfl ?a1 ?l1 ?c1 ?lc1 ?hT1 ?hn1) (_L.sf (x := "full_rows") (_L.si G a rfl ?a2 ?l2 ?c2 ?lc2 ?hT2 ?hn2) _L.Cg)) ?nd (_L.Ci (.inl ?y0) (.inl ?y1) (.inr ?z2) (.inr ?z3))
  (case a1=>k_is);(case l1=>k_is);(case c1=>exact rfl);(case lc1=>k_is);(case hT1=>exact⟨rfl,rfl,⟨_,_,rfl⟩,⟨_,_,rfl⟩,⟨_,rfl⟩,⟨_,_,rfl⟩,by decide⟩);(case hn1=>kernel_rfl)
  (case a2=>k_is);(case l2=>k_is);(case c2=>exact rfl);(case lc2=>k_is);(case hT2=>exact⟨rfl,rfl,⟨_,_,rfl⟩,⟨_,_,rfl⟩,⟨_,rfl⟩,⟨_,_,rfl⟩,by decide⟩);(case hn2=>kernel_rfl)
  (case nd=>decide);(case y0=>simp);(case y1=>simp);(case z2=>k_is);(case z3=>k_is)
 case F =>
  intro w mg fa h a G b
  refine' _W.FN a G b ?fn0 ?fn1 ?fn2 ?fn3 ?fn4 ?fn5 ?fn6 ?fn7 ?fn8 ?fn9 ?fn10 ?fn11 ?fn12 ?fn13 ?fn14 ?fn15 ?fn16 ?fn17 ?fn18 ?fn19 ?fn20 ?fn21 ?fn22 ?fn23 ?fn24 ?fn25 ?fn26 ?fn27 ?fn28 ?fn29 ?fn30 ?fn31 ?fn32 ?fn33 ?fn34 ?fn35 ?fn36 ?fn37 ?fn38 ?fn39 ?fz
  case fn0|fn1|fn2|fn3|fn4|fn5|fn6|fn7|fn8|fn11|fn12|fn13|fn14|fn15|fn16|fn17|fn18|fn19|fn20|fn21|fn22|fn23|fn24|fn25|fn26|fn27|fn28|fn29|fn30|fn31|fn32|fn33|fn34|fn35|fn36|fn37|fn38|fn39=>(refine' _L.fnI ?fa ?fl ?fc ?fk;(case fa=>k_is);(case fl=>k_is);(case fc=>k_is);(case fk=>k_is))
  case fn9|fn10=>(refine' _L.fnL (by decide) ?fa ?fl ?fc ?fk ?fhc ?flc ?fhT;(case fa=>k_is);(case fl=>k_is);(case fc=>k_is);(case fk=>k_is);(case fhc=>exact rfl);(case flc=>k_is);(case fhT=>exact⟨rfl,rfl,⟨_,_,rfl⟩,⟨_,_,rfl⟩,⟨_,rfl⟩,⟨_,_,rfl⟩,by decide⟩))
  case fz=>refine'⟨?_,?_,?_,?_,?_,?_,?_,?_,?_,?_,?_,?_,?_,?_,?_,?_,?_,?_,?_⟩ <;> k_is
