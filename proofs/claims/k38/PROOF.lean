import PyProof.Rows.All
import Wide.All
import OpenK.AllK
import Wide.FinOn
import Lean
import PyProof.EqAt
import PyProof.EqKinds
import PyProof.TupleCall
import PyProof.DictRoadsH
import PyProof.DictKinds
import PyProof.DictIter
import PyProof.DictRoads
import PyProof.DictList
import PyProof.ListMulAny
import PyProof.StrLawsTight
import KE.KIntText
import PyProof.Rows.StrItems
import PyProof.StrWalks
import KE.KSortTup
import KE.KLam
import PyProof.ExcInit
import PyProof.ExcClass3
import PyProof.InstStoreFacts
import PyProof.ExcBaseAll.ValueError
import PyProof.ExcArgsOwn
import PyProof.ExcAttrAll.ValueError
import PyProof.Rows.RuleN_isinstance
import PyProof.AutoSeq1
import KE.KRevIter
import PyProof.Rows.FactsT2
import PyProof.DictTruth
import PyProof.DictWalks
import PyProof.ListRange
import PyProof.CollectWalk
import KE.KItemsList
import PyProof.ZipIter
import PySem.Challenge.RW_windround_k38_whole_from_line_to_answer
set_option compiler.extract_closed false
set_option bootstrap.genMatcherCode false
local macro_rules|`(!0)=>`(by omega)|`(!1)=>`(by simp)|`(!2)=>`(by decide)|`(!3)=>`(by decide +kernel)|`(!4)=>`(by show List.Nodup (_::_);decide +kernel)
local macro_rules|`(tactic|omega)=>`(tactic|lia)|`(tactic|lia)=>`(tactic|first|assumption|lia -verbose)
set_option Elab.async false
set_option linter.all false
set_option maxRecDepth 100000
set_option tactic.hygienic false
noncomputable section
open List renaming range->cp,Nodup->dj,map->ec,lookup->fx,filter->lx,length->np,count_append->o1,any_cons->pa,flatMap_eq_nil_iff->pQ,toArray->rj,map_const'->r0,take_append_drop->r3,perm_append_comm->r4,eq_nil_or_concat->sb,dropLast_eq_take->sd,concat_eq_append->se,zip->sn,filterMap_cons->su,zip_cons_cons->vi,mem_replicate->vj,lookup_append->vl,getElem?_take->vr,count_eq_zero->vu,ext_getElem?->v3,eraseIdxIfInBounds_toArray->H7,getElem_set->I7,cons_append->La,all_eq_true->Lb,eq_nil_of_length_eq_zero->Lf,mem_zipIdx_iff_getElem?->Ll,drop_zero->Ls,getLastD_eq_getLast?->Lw,map_take->LG,map_drop->LH,getElem_append_left->LI,length_eq_zero_iff->LK,sum_replicate_nat->LR,filter_eq_nil_iff->LS,getElem?_zipWith->LX,getElem?_eq_none->LY,mem_of_mem_take->L6,mem_of_mem_drop->L7,mem_iff_getElem->L8,map_eq_nil_iff->Mc,length_flatten->Md,pairwise_cons->Mi,mem_filterMap->Mj,getElem_range->Ml,getElem?_drop->Mm,take_sublist->Mo,filter_congr->Mp,zipIdx_cons->Mu,mem_flatten->Mv,map_fst_zip->Mw,zipIdx_nil->MB,filter_map->MC,sum->MJ,all_cons->MO,sum_nil->MY
open PySem.Str renaming ofString->cq,length_append->gs,join->hC,length->nl
open PySem.Value renaming ref->da,int->eh,none->eC,bool->lv,type->nc,str->xj,isStrOf_shape->L4,isStrOf->MF,isInt->MT,float->MU,bytes->MV
open Option.some renaming inj->di
open PySem.PyData renaming list->dk,int->eb,eqv->ed,canLay0->eg,str->ei,canLayAll0->eS,eqvAll->ge,depthAll->hQ,depth->nk,bool->y2,tuple->LC,strOk->LD
open PySem.NameKind renaming free->dm,cell->hI
open PySem.Heap.SameBut renaming update->dt
open PySem.SeqAt renaming canLay_of_shaped->du,shaped->lb,depth_of_shaped->LN
open PySem.Builtin.SmallTypes renaming nextOf->dV,ownedTupleIsFree->fI,ownedTupleHandOut->oo
open Or renaming inr->ef,inl->nT
open PySem.Builtin.Str renaming occurrences->ej,strKind->ms
open PySem.Builtin.Tuple renaming tupleHashOf->ek,tupleExact->iy,tupleItemsOf->ti
open PySem.W renaming mg_of->en,findIn->et,keepIn->eE,emptyDict->eH,fnOf->fy,instObj->hE,codeIn->ip,kia_one->lk,plainGet->mj,hasDictIn->ol,cellsFrom_some->pc,makesIn->pu,OpenLaw->py,lookIn->ry,kitOne->rz,plainGet_of->sh,plainOver->sT,methodObj->s0,isFn->tf,takerIn->x2,Ground->Lc,methodCall_KW->LA,callWith_K0->LO,callWith_K->LU,handedIn->Ma,WalkO->Mr
open PySem.Obj renaming mapSeq->ew,data_mapFields->oL,isFreed_of_fields->L5,data_mapDictKeys->Mb,isFreed_of_dict->Mg,cls_mapFields->Ms,data_mapDict->Mz,mapFields->MW
open PySem renaming mem_of_lookup->fj,intText?->sg,call->Lm,Fin->LB,Within->LJ,boot_len->My,Builtin->MG
open List.cons renaming injEq->gf,inj->Lg
open PySem.F renaming plainAttrs_list->gk,args_tuple_add_2->oD,entry_tuple_add->o0,slot_tuple_add->ph,type_list_pop->p1,slot_list_pop->p7,slot_dict_getitem->Lj,type_list_append->Ln,slot_list_append->Lo,plainAttrs_str->Lv
open PyProof.Rows renaming callWith_type1->gl,boot_all->gt,boot_list->ll,slot_tuple_getitem->lu,boot_tuple->x6,split_pos->Iv,boot_zip->Ld,boot_sum->Le
open Array renaming length_toList->hh,all_eq_true_iff_forall_mem->me,getD_eq_getD_getElem?->nN,getElem?_toList->r2,forIn_toList->vb,mem_toList_iff->L2,getElem_toList->L3,toList_append->L9,getElem_mem->Mn,toList_zip->Mq,toList->MS
open List.Perm renaming append_left->hA,append_right->Lr,eq_nil->LZ
open PySem.Heap renaming SameBut->hY,ExtBut->Lh,size_update->Mx
open PySem.Builtin.Slice renaming slicePlaces->ih,sliceAdjust->nn,sliceApplied->t0
open Prod.mk renaming inj->ir,injEq->lc
open PySem.PyData.dict renaming injEq->lp
open PySem.Builtin.List renaming listExtendWith->mu,listTooLong->nA,listLengthHint->u2,listSameRef->wi
open Sum renaming inr->o2,inl->xn
open Nat renaming toDigits_of_lt_base->rg,min_eq_right->ri,cast->sr,mod_lt->v2,zero_add->Dd,lt_succ_of_lt->Hh,le_of_eq->Hs,toDigits_append_toDigits->Lp,min_le_left->Lq,sub_zero->LV,pow_succ->LW,mul_le_mul_left->Mh,succ_le_succ->MA,not_lt_zero->MH,div_add_mod->MI,mul_le_mul->MN,mul_assoc->MX
open PySem.Builtin.Dict_items renaming ownsTuple->ro
open Int renaming le_ediv_iff_mul_le->r1,fdiv_eq_ediv_of_nonneg->Lx,mul_ediv_cancel_left->LL,mul_assoc->LM,zero_mul->L0,le_of_lt->L1,gcd_dvd_left->MD,ediv_le_self->ME,mul_le_mul->MP
open PySem.Builtin.Builtins renaming bindParams->sj
open PySem.Builtin.Dict renaming showsAll->Li
open List.Pairwise renaming nil->Lu
open PySem.SeqAt.EqAt renaming str_int->Ly,int_str->Lz
open PySem.PyData.list renaming injEq->LF
open PySem.PyData.str renaming injEq->LP
open PySem.PyData.int renaming injEq->LQ
open Option renaming getD_some->Me,getD_none->Mf
open Nat.succ renaming inj->Mt
open Bool renaming not_false->MK,false_and->ML,true_and->MQ,or_false->MR
open PySem.Challenge renaming pw_windround_k38_whole_from_line_to_answer->MM
open PySem.Heap.IsSliceOf renaming new->MZ
open PySem renaming PyData->ab,Addr->ap,Value->as,Shared->ba,Expr->bb,Heap->bd,Str->bx
open PySem.W renaming Frag->ca,nsIn->cb
open PySem renaming wpAny_bind->jj,wpAny_pure->ke,starEach->kq,wpAny->kw,mainGlobals->ky,FuncData->kN,model->qb,Program->q3,compareOp->q4,World->zb,backTo->ze,wpAny_newObj_type->zh,wpAny_holding->zp,sizeLine_eq->z0,wpAny_mono->z3,wpAny_call_entry->z4,attributeBase->z5,wpAny_callSpecial?_slot->z6,cellsFrom->Kx,wpAny_seqItems->Ky,wpAny_field->Kz,keywordEach->KA,wpAny_truthy_bool->KB,foldedSetIterable->KC,cLine->KD,assignEach->KH,holding->KI,bootBuiltins->KJ,sysModules->cf,Scope->KL,codeAny->KM,binaryOp->KN,wpAny_rule->KO,plainId_quiet->KQ,Keyword->KS,wpAny_isInstance->KT,backToKw->KU,wpAny_typeNameOfWhole_keyiter->KW,wpAny_setField_rec->KY,wpAny_Call_Name_kw->KZ,wpAny_specialOf->K0,wpAny_passesOwn->K1,standAt->K2,builtinsNs->K3,rawInt->K4,IsPair->K5,wpAny_typeNameOf_keyiter->K6,intKind->K7,codeAny_builtin->K8,wpAny_letGo->K9,wpAny_pyIter_list->Qb,closureFor->Qc,call_meets->Qd,wpAny_attempt->Qf,behindInMarks->Qh,sliceBounds->Qi,bindArgs->Qj,wpAny_updateSeq->Qk,assign->Qm,swapsWith->Qn,pyNext->Qo,wpAny_standAt->Qp,wpAny_pyIter_zip->Qr,wpAny_forIn_list->Qs,pushCells->Qt,getMethod->Qu,codeAny_mono->Qw,wpAny_execs_nil->Qy,pushCells_keeps->Qz,letOwnedTupleGo->QA,IsZip->QB,isSubtype_tuple_tuple->QC,wpAny_updateSeq_pair->QD,wpAny_setField->QE,isTrue->QF,firstArgMember->QG,codeAmong->QI,BindsTo->QJ,Arguments->QK,wpAny_onRaise->QL,wpAny_newList->QM,atKey->QP,wpAny_tupleItemsOf->QQ,typeIs_str->QR,wpAny_dictEntries->QS,hashInt->QU,concat_meets->QV,callerA->QW,wpAny_execs_cons->QY,wpAny_eqBool_int->QZ,noFill_tuple_add->Q0,Result->Q2,IsPart->Q3,subscripted->Q4,wpAny_ite_split->Q7,wpAny_dictEpoch->Q8,setItem->Q9,wpAny_tryCatch->Za,wpAny_newTuple->Zb,wpAny_newFunctionEnv_cells->Zc,wpAny_call->Zd,truthy->Ze,reduceHash->Zf,newFunctionEnv->Zg,isSubtype_stop->Zh,defaultsOf->Zi,callWith->Zj,ZipApart->Zk,PlainAttrs->Zl,wpAny_letOwnedTupleGo_zip->Zm,wpAny_comprehension_free->Zn,swapsWithSole->Zo,swappedStores->Zp,seq_tuple_add->Zq,updateSeq->Zr,seqItems?->Zs,seqIndex?->Zt,field->Zu,eqIsQuiet->Zv,bindL->Zw,bindC->Zx,wpAny_typeOf->Zz,tupleKeyHash->ZA,pyIter->ZC,getItem->ZE
open PyProof.Rows renaming arrOf->zd,Keyed->zf,wpS_bind->zg,wpS_pure->KF,seqObj->KG,pendingOf->Qa,listUpdate_at->Qg,get?_update_seq->Ql,envOfC->Qq,wpS_modify->Qv,AllBare->Qx,elem'->QH,subscriptTail->QN,SortKind->QX,mirror->Q1,seqEpoch_at->Q5,mirror_perm->Q6,wpS_get->Zy,subscriptTail_builtinR->ZB,listItems_at->ZD,IntsAre->ZF
open PySem.MeetsSeq3 renaming plain_eq_loop->QO
open PySem.W renaming kla_obj->QT
open List renaming mem_append_right->IE,length_map->IF,mem_singleton->IG,mem_append->II,mem_append_left->IJ,getElem?_eq_getElem->IK,mem_cons_self->IL,mem_cons_of_mem->IM,getElem?_eq_some_iff->IN,getD_eq_getElem?_getD->IP,mem_cons->IR,nodup_append->IT,map_cons->IU,size_toArray->IV,mem_map->IZ,getElem?_set_self->Jc,getElem?_set_ne->Je,length_cons->Jf,length_append->Jg,append_nil->Jh,mem_filter->Ji,not_mem_nil->Jk,length_range->Jl,map_append->Jm,getElem_map->Jn,map_map->Jq,nodup_cons->Jr,lookup_cons->Js,getElem?_map->Jt,getElem_mem->Ju,length_filter_le->Jy,mem_range->Jz,sum_cons->JB,length_take->JC,length_singleton->JD,append_assoc->JE,filter_cons_of_pos->JG,take_length->JI,ext_getElem->JJ,take_of_length_le->JK,getElem?_append_left->JM,replicate->JN,take_add_one->JT,getElem?_append_right->JV,filter_append->JY,length_zip->JZ,reverse_cons->J0,filter_cons_of_neg->J1,getElem_of_mem->J2,getElem_zip->J3,nodup_nil->J4,map_nil->J5,range_succ->J6,mem_of_getElem?->J9,length_drop->Kc,map_snd_zip->Kd,getElem?_set_self'->Ke,of_mem_zip->Kg,length_set->Kh,drop_of_length_le->Ki,take_append_of_le_length->Kj,pairwise_map->Kk,forIn_nil->Kl,pairwise_append->Km,mem_map_of_mem->Kn,pairwise_iff_getElem->Ko,map_congr_left->Kp,drop_eq_getElem_cons->Kq,forIn_cons->Kr,find?_cons->Ks,nil_append->Kt,sum_append->Ku
open Nat renaming le_trans->IQ,le_refl->IS,lt_of_lt_of_le->IY,zero_le->Jb,ne_of_lt->Jd,lt_irrefl->JL,lt_succ_self->JO,le_add_right->JP,pow_le_pow_right->JQ,ne_of_gt->JR,le_of_lt->JW,toDigits->JX,le_succ->Kb,min_eq_left->Kv,lt_of_le_of_lt->Kw
open Int renaming le_refl->Jo,toNat_natCast->Jv,le_trans->JF,emod_lt_of_pos->JH,eq_ofNat_of_zero_le->JS,emod_nonneg->JU,gcd->J8
open Option renaming isSome_iff_exists->Ka
open Bool renaming false_ne_true->Ja,false_eq_true->Jj,and_eq_true->Jw,not_true->J7,eq_iff_iff->Kf
open PySem.Heap renaming get?_push_of_some->IH,get?_push_size->IW,lt_size->IX,get?_update_other->Jp,get?_update_self->Jx,size_push->JA
def cc{α:Type _}{a:α}{b:Prop}:a=a\/b:=.inl rfl
def M0{c:Prop}{h:Decidable c}(hc:c){α}{t e:α}:ite c t e=t:=if_pos hc
def M1{c:Prop}{h:Decidable c}(hc:¬c){α}{t e:α}:ite c t e=e:=if_neg hc
abbrev M3:=List (List (List Int))
abbrev M4:=List (bx×PySem.NameKind)
abbrev M5:=List (Option Nat)
abbrev M6:=Array (Option as)
abbrev M7:=Option (Array zf)
abbrev M8:=Option (List ab)
abbrev M9:=List (List Int)
abbrev Nd:=List (ap×PySem.Obj)
abbrev Ng:=List (bx×ap)
abbrev Nh:=List (bx×as)
abbrev Nk:=Option Int
abbrev Nl:=Option Nat
abbrev Nm:=Option as
abbrev Nn:=List PySem.Stmt
abbrev No:=Option ap
abbrev Np:=List Int
abbrev Nq:=Array as
abbrev Nr:=Array zf
abbrev Nu:=List PySem.Env
abbrev Ny:=List Nat
abbrev Nz:=List ab
abbrev NC:=List as
abbrev ND:=List bx
abbrev NE:=List ap
abbrev NF:=List bb
abbrev NG:=List KS
open Prod renaming mk->Pm
local macro_rules|`(tactic|walk_at"v0")=>`(tactic|first|exact nT rfl|exact ef cc|exact ef (ef rfl))
local macro_rules|`(tactic|walk_at"v1")=>`(tactic|first|exact .inl rfl|exact .inr rfl|assumption)
section
local macro_rules|`(($a,$b,*))=>`(⟨$a,$b,*⟩)
open Option renaming some->NI,none->NJ
open Bool renaming true->NK,false->NL
open Lean in
def NM:Nat->Syntax->Syntax
|n+1,x@(.node i k a)=>if k==`Lean.Parser.Term.hole then .node i `Lean.Parser.Tactic.rcasesPat.ignore a else .node i `Lean.Parser.Tactic.rcasesPat.tuple #[.atom i "⟨",.node i `null ((if k==`Lean.Parser.Term.tuple then #[x[1][0],.atom i ","]++x[1][2].getArgs else x[1].getArgs).map fun x=>if x.isAtom then x else .node i `Lean.Parser.Tactic.rcasesPatLo #[.node i `Lean.Parser.Tactic.rcasesPatMed #[.node i `null #[NM n x]],.node i `null #[]]),.atom i "⟩"]
|_,x=>.node .none `Lean.Parser.Tactic.rcasesPat.one #[x]
local macro_rules|`(tactic|cbv)=>do let h:=Lean.mkIdent `hQq;`(tactic|refine Classical.byContradiction fun $h=>?_)|`(tactic|w_up)=>do let h:=Lean.mkIdent `hQq;`(tactic|(refine $h ?_;clear $h))
local macro_rules|`(tactic|let $p:term:=$t:term)=>do let r<-`(tactic|rcases $t:term with $(⟨NM 9 p⟩):rcasesPat);`(tactic|first|(guard_target=~False;$r)|(cbv;$r<;>w_up))|`(tactic|let $d:letDecl)=>`(tactic|have $d:letDecl)
local macro_rules|`(tactic|show $t)=>`(tactic|first|refine $t|change $t)
local macro_rules|`(tactic|lk)=>`(tactic|walk_at"dx")
local macro_rules|`(-$x:ident)=>`(($x).length)|`(~~~$x:ident)=>`(($x).heap.objs.size)
namespace _L
open PySem PySem.Spec PyProof.Rows
abbrev Key:=Sum Int bx
def xy:Key->as->Bool
 |.inl k,v=>MT k v
 |.inr x,v=>MF x v
def Ia(w:zb):Key->Int
 |.inl k=>QU k
 |.inr x=>hashStr w x
def aY:∀{k:Key}{v:as},xy k v=NK->(∃i t,k=xn i/\v=eh i t)\/(∃x t,k=o2 x/\v=xj x t)
 |.inl i,v,h=>by
  let(t,e):=Value.isInt_shape (k:=i) (v:=v) h;show .inl (i,t,rfl,e)
 |.inr x,v,h=>by
  let(t,e):=L4 (x:=x) (v:=v) h;show .inr (x,t,rfl,e)
def uL(x:bx)(t:Tok):xy (.inr x) (.str x t)=NK:=by simp[xy,MF]
def D0(a b:Int):decide ((xn a:Key)=xn b)=(a==b):=by by_cases e:a=b;subst e;simp;let h:¬(xn a:Key)=xn b:=λq=>e (Sum.inl.inj q);rw[decide_eq_false h];show(beq_eq_false_iff_ne.mpr e).symm
def DW(a b:bx):decide ((o2 a:Key)=o2 b)=decide (a=b):=by by_cases e:a=b;subst e;simp;let h:¬(o2 a:Key)=o2 b:=λq=>e (Sum.inr.inj q);rw[decide_eq_false h,decide_eq_false e]
def DZ(a:Int)(b:bx):decide ((xn a:Key)=o2 b)=NL:=decide_eq_false (λq=>nomatch q)
def DX(a:bx)(b:Int):decide ((o2 a:Key)=xn b)=NL:=decide_eq_false (λq=>nomatch q)
def cR(prog:q3)(w:zb):PySem.KeyKind prog w Key where
 is := xy
 hash:=Ia w
 inj := λv a b d c=>by
  rcases aY d with⟨i,t,rfl,rfl⟩|⟨x,t,rfl,rfl⟩
  rcases aY c with⟨j,u,rfl,e⟩|⟨y,u,rfl,e⟩
  injection e with e1 _;rw[e1];exact nomatch e;rcases aY c with⟨j,u,rfl,e⟩|⟨y,u,rfl,e⟩
  exact nomatch e;injection e with e1 _;rw[e1]
 byValue:=λk v h=>by
  rcases aY h with⟨i,t,rfl,rfl⟩|⟨x,t,rfl,rfl⟩ <;> rfl
 pyHash:=λhv h=>by
  rcases aY hv with⟨i,t,rfl,rfl⟩|⟨x,t,rfl,rfl⟩
  exact wpAny_pyHash_int h;exact wpAny_pyHash_str h
 eqBool:=λf hv h=>by
  rcases aY f with⟨i,t,rfl,rfl⟩|⟨x,t,rfl,rfl⟩
  rcases aY hv with⟨j,u,rfl,rfl⟩|⟨y,u,rfl,rfl⟩
  rw[D0]at h;exact QZ h;rw[DZ]at h;exact Lz i t y u _ _ _ _ h;rcases aY hv with⟨j,u,rfl,rfl⟩|⟨y,u,rfl,rfl⟩
  rw[DX]at h;exact Ly x t j u _ _ _ _ h;rw[DW]at h;exact wpAny_eqBool_str h
 «strs»:=λk x t v h=>by
  rcases aY h with⟨i,u,rfl,e⟩|⟨y,u,rfl,e⟩
  exact nomatch e;injection e with e1 _;subst e1;cases v <;> rfl
def dz(prog:q3)(w:zb)(x:bx)(t:Tok):(cR prog w).is (.inr x) (.str x t)=NK:=uL x t
inductive V where
 |non|bl (b:Bool)|int (i:Int)|str (x:bx)|byt (b:Array UInt8)|flt (b:UInt64)|ref (a:ap)|ty (n:String)
 deriving DecidableEq
abbrev Nj:=List (bx×V)
abbrev Nx:=Option V
abbrev NH:=List V
def be:V->as->Prop
 |.non,u=>u=eC
 |.bl b,u=>u=lv b
 |.int i,u=>∃t,u=eh i t
 |.str x,u=>∃t,u=xj x t
 |.byt b,u=>∃t,u=MV b t
 |.flt b,u=>∃t,u=MU b t
 |.ref a,u=>u=da a
 |.ty n,u=>u=nc n
abbrev aH:NH->NC->Prop:=Paired be
theorem aH.length{xs:NH}{us:NC}(r:aH xs us):-xs=-us:=Paired.length r
theorem aH.get:∀{xs:NH}{us:NC}{i:Nat}{x:V},aH xs us->xs[i]?=NI x->∃u,us[i]?=NI u/\be x u
 |_,_,_,_,.nil,e=>by simp at e
 |_,_,0,_,.cons r _,e=>by simp at e;subst e;show(_,rfl,r)
 |_,_,i+1,x,.cons _ t,e=>by
  let(u,h1,h2):=aH.get (i:=i) (x:=x) t (by simpa using e);show(u,by simpa using h1,h2)
theorem aH.set{x:V}{u:as}(r:be x u):∀{xs:NH}{us:NC} (i:Nat),aH xs us->aH (xs.set i x) (us.set i u)
 |_,_,_,.nil=>.nil
 |_,_,0,.cons _ t=>.cons r t
 |_,_,i+1,.cons q t=>.cons q (aH.set r i t)
theorem aH.append:∀{xs ys:NH}{us ws:NC},aH xs us->aH ys ws->aH (xs++ys) (us++ws)
 |_,_,_,_,.nil,s=>s
 |_,_,_,_,.cons r t,s=>.cons r (aH.append t s)
theorem aH.take:∀{xs:NH}{us:NC} (n:Nat),aH xs us->aH (xs.take n) (us.take n)
 |_,_,0,_=>.nil
 |_,_,_+1,.nil=>.nil
 |_,_,n+1,.cons r t=>.cons r (aH.take n t)
theorem aH.drop:∀{xs:NH}{us:NC} (n:Nat),aH xs us->aH (xs.drop n) (us.drop n)
 |_,_,0,r=>r
 |_,_,_+1,.nil=>.nil
 |_,_,n+1,.cons _ t=>aH.drop n t
def vV:Nx->Nm->Prop
 |some v,NI u=>be v u
 |none,NJ=>True
 |_,_=>False
def KV{κ:Type}:List (κ×V)->List (κ×as)->Prop:=Paired λ(p:κ×V) (q:κ×as)=>p.1=q.1/\be p.2 q.2
def kV:Key->V
 |.inl i=>.int i
 |.inr x=>.str x
inductive HO where
 |lst (xs:NH)
 |tup (xs:NH)
 |dK (kvs:List (Key×V))|dT (kvs:List (List Key×V))
 |set (S:Int->Bool) (n:Nat)
 |ins (C dx:ap) (fs:Nj)
 |own (x:ap)
 |xd (fs:Nj)
 |met (f x:ap)
 |rng (lo hi:Int)
 |frz (o:Obj) (u:HO)
 |tbl (q:bx)
 |ext (φ:bd->Prop)
abbrev Hp:=ap->Option HO
def Fix:HO->Prop
 |.tup _=>True
 |.frz _ _=>True
 |_=>False
def B8(H:Hp)(h:bd)(a:ap)(q:bx):Prop:=∃ps:Nq,h.get? a=NI { cls:=.none,data:=.fields ps }/\TriplesOk ps.toList /\
 ∀pos cv,QI pos ps.toList=NI cv->∃c oc u vs t,cv=.ref c/\H c=NI (.frz oc u)/\oc.data=.fields vs/\vs[1]?=NI (.str q t)
def upd(H:Hp)(a:ap)(o:HO):Hp:=λb=>if b=a then NI o else H b
def aq{H:Hp}{a:ap}{o:HO}:upd H a o a=NI o:=by unfold upd;rw[M0 rfl]
def al{H:Hp}{a b:ap}{o:HO}(h:b≠a):upd H a o b=H b:=by unfold upd;rw[M1 h]
def au{H:Hp}{a b:ap}{o:HO}(h:H a=NI o)(h':H b=NJ):a≠b:=by intro e;subst e;rw[h]at h';cases h'
def vL(h:bd)(a:ap)(b:Nq):Prop:=∃o,h.get? a=NI o/\o.cls=.type "tuple" /\ (∃n,o.data=.seq b n)/\o.dict=NJ
def vL.is{h:bd}{a:ap}{b:Nq}(p:vL h a b):IsTup h a b:=let ⟨o,e,c,n,_⟩:=p;(o,e,c,n)
theorem vL.lt{h:bd}{a:ap}{b:Nq}(p:vL h a b):a<h.objs.size:=p.is.lt
def vL.new(h:bd)(items:Nq):vL (h.push { cls:=.type "tuple",data:=.seq items }) h.objs.size items:=(_,IW _ rfl,rfl,(_,rfl),rfl)
section
variable(P:q3) (w:zb)
def dB(H:Hp)(h:bd)(a:ap):HO->Prop
 |.lst xs=>-xs<=sizeLine/\∃(b:NC) (n:Nat),aH xs b/\h.get? a=NI { cls:=.type "list",data:=.seq b.toArray n }
 |.tup xs=>-xs<=sizeLine/\∃b:NC,aH xs b/\vL h a b.toArray
 |.dK kvs=>-kvs<=sizeLine/\(a==cf)=NL/\∃vs,KV kvs vs/\h.DictOf (cR P w) a vs
 |.dT kvs=>-kvs<=sizeLine/\(a==cf)=NL/\∃xs:List (List Key×ap×as),
   Paired (λ(p:List Key×V) (q:List Key×ap×as)=>p.1=q.1/\H q.2.1=NI (.tup (p.1.map kV))/\be p.2 q.2.2) kvs xs /\
   ∃o es ep,h.get? a=NI o/\o.ExactDict/\o.data=.dict es ep/\es.toList=xs.map (entryOfKey (tupleKind (cR P w)))/\(xs.map (·.1)).Nodup
 |.set S n=>h.SetOf (K7 P w) a S n
 |.ins C dx fs=>H dx=NI (.own a)/\fs.length<=1000/\dx≠a/\h.get? a=NI (hE C dx) /\
   ∃mA,h.Ns1 dx mA/\(∀f,vV (fs.lookup f) (mA f))/\LJ mA (fs.map (·.1))
 |.own _=>∃o,h.get? a=NI o
 |.xd fs=>∃mA,h.Ns1 a mA/\∀f,vV (fs.lookup f) (mA f)
 |.rng lo hi=>∃t u v,h.get? a=NI { cls:=.type "range",data:=.fields #[.int lo t,.int hi u,.int 1 v] }
 |.frz o u=>h.get? a=NI o/\dB H h a u
 |.tbl q=>B8 H h a q
 |.met f x=>h.get? a=NI (s0 (.ref f) (.ref x))
 |.ext φ=>φ h/\(∃o,h.get? a=NI o)/\∀h1 h2:bd,φ h1->(∀o,h1.get? a=NI o->h2.get? a=NI o)->φ h2
def HOk(H:Hp)(h:bd):Prop:=∀a o,H a=NI o->dB P w H h a o
end
section
variable{P:q3}{w:zb}{H H':Hp}{h h':bd}{a:ap}{o:HO}
theorem dB.lt(x:dB P w H h a o):a<h.objs.size:=by
 cases o with
 |lst xs=>let(_,_,_,_,e):=x;show IX e
 |tup xs=>let(_,_,_,p):=x;show p.lt
 |dK kvs=>let(_,_,_,_,o,_,_,e,_):=x;show IX e
 |dT kvs=>let(_,_,_,_,o,_,_,e,_):=x;show IX e
 |set S n=>let(o,_,_,_,e,_):=x;show IX e
 |ins C dx fs=>let(_,_,_,e,_):=x;show IX e
 |own y=>let(_,e):=x;show IX e
 |xd fs=>let(_,(_,_,_,e,_),_):=x;show IX e
 |rng lo hi=>let(_,_,_,e):=x;show IX e
 |frz ob u=>let(e,_):=x;show IX e
 |tbl q=>let(_,e,_):=x;show IX e
 |met f y=>show IX (show h.get? a=NI _ from x)
 |ext φ=>let(_,(_,e),_):=x;show IX e
theorem Paired.mapP{α β:Type}{F G:α->β->Prop}:∀{c:List α}{d:List β},Paired F c d->(∀a b,F a b->G a b)->Paired G c d
 |_,_,.nil,_=>.nil
 |_,_,.cons r t,f=>.cons (f _ _ r) (Paired.mapP t f)
def dB.stay(x:dB P w H h a o)(k:∀b u,(b=a\/H b=NI (.own a))->h.get? b=NI u->h'.get? b=NI u)
  (ho:∀b,H b=NI (.own a)->H' b=NI (.own a)) (ht:∀b o,Fix o->H b=NI o->H' b=NI o):dB P w H' h' a o:=by
 induction o with
 |lst xs=>let(z,g,n,r,e):=x;show(z,g,n,r,k _ _ (.inl rfl) e)
 |tup xs=>let(z,g,r,ob,e,c):=x;show(z,g,r,ob,k _ _ (.inl rfl) e,c)
 |dK kvs=>let(z,y,vs,r,ob,es,ep,e,c):=x;show(z,y,vs,r,ob,es,ep,k _ _ (.inl rfl) e,c)
 |dT kvs =>
  let(z,y,xs,r,ob,es,ep,e,c):=x;show(z,y,xs,Paired.mapP r λp q z=>(z.1,ht _ _ trivial z.2.1,z.2.2),ob,es,ep,k _ _ (.inl rfl) e,c)
 |set S n=>let(ob,es,ep,t,e,c):=x;show(ob,es,ep,t,k _ _ (.inl rfl) e,c)
 |ins C dx fs =>
  let(d,z,ne,e,mA,(od,es,ep,e2,c),r):=x;show(ho _ d,z,ne,k _ _ (.inl rfl) e,mA,(od,es,ep,k _ _ (.inr d) e2,c),r)
 |own y=>let(ob,e):=x;show(ob,k _ _ (.inl rfl) e)
 |xd fs=>let(mA,(od,es,ep,e,c),r):=x;show(mA,(od,es,ep,k _ _ (.inl rfl) e,c),r)
 |rng lo hi=>let(t,u,v,e):=x;show(t,u,v,k _ _ (.inl rfl) e)
 |frz ob u j=>let(e,q):=x;show(k _ _ (.inl rfl) e,j q)
 |tbl q =>
  let(ps,e,t,c):=x;show(ps,k a _ (.inl rfl) e,t,λpos cv i=>let ⟨b,oc,u,vs,t,e1,e2,e3⟩:=c pos cv i;(b,oc,u,vs,t,e1,ht _ _ trivial e2,e3))
 |met f y =>
  let e:h.get? a=NI (s0 (.ref f) (.ref y)):=x;show h'.get? a=NI (s0 (.ref f) (.ref y));show k a _ (.inl rfl) e
 |ext φ=>let(p,(o,e),st):=x;show(st _ _ p λo q=>k _ _ (.inl rfl) q,(o,k _ _ (.inl rfl) e),st)
theorem HOk.lt(x:HOk P w H h)(e:H a=NI o):a<h.objs.size:=(x a o e).lt
def HOk.fresh(x:HOk P w H h)(e:h.objs.size<=a):H a=NJ:=by
 cases q:H a with
 |none=>rfl
 |some u=>show absurd (IY (x.lt q) e) (JL _)
def HOk.kept(x:HOk P w H h)(k:∀b u,h.get? b=NI u->h'.get? b=NI u):HOk P w H h':=λa o e =>
 (x a o e).stay (λb u Y q=>k b u q) (λY q=>q) λY Y Y q=>q
def HOk.laid(x:HOk P w H h)(k:∀b u,h.get? b=NI u->h'.get? b=NI u)(f:h.objs.size<=a)(new:dB P w (upd H a o) h' a o):HOk P w (upd H a o) h':=λb u e=>by
 let hn:=x.fresh f;by_cases d:b=a;subst d;rw[aq]at e;cases e;show new;rw[al d]at e;show(x b u e).stay (λc v Y q=>k c v q) (λc q=>by rw[al (au q hn)];show q) λc xs Y q=>by rw[al (au q hn)];show q
end
def Rd(H:Hp)(a:ap)(u:HO):Prop:=H a=NI u\/∃o,H a=NI (.frz o u)
def Rd.ok{P:q3}{w:zb}{H:Hp}{h:bd}{a:ap}{u:HO}(r:Rd H a u)(x:HOk P w H h):dB P w H h a u:=by
 rcases r with r|⟨o,r⟩
 show x a u r;let(_,q):=x a _ r;show q
def Mut:Option HO->Prop
 |some (.lst _)=>True
 |some (.dK _)=>True
 |some (.dT _)=>True
 |some (.set _ _)=>True
 |some (.ins _ _ _)=>True
 |some (.ext _)=>True
 |_=>False
section
variable{P:q3}{w:zb}{H:Hp}{h h':bd}{x e:ap}{o':HO}
def HOk.write(ok:HOk P w H h)(i:Mut (H x))(m:e=x\/H e=NI (.own x))(k:∀b u,b≠e->h.get? b=NI u->h'.get? b=NI u)(l:∃u,h'.get? e=NI u)
  (new:dB P w (upd H x o') h' x o'):HOk P w (upd H x o') h':=λb u q=>by
 let d:∀c y,H c=NI (.own y)->c≠x:=λc y r z=>by subst z;rw[r]at i;show i
 let g:∀c o,Fix o->H c=NI o->c≠x:=λc o f r z=>by subst z;rw[r]at i;cases o <;> first|show i|show f
 by_cases j:b=x;subst j;rw[aq]at q;cases q;show new
 .rw[al j]at q;by_cases a:b=e
  .let n:H b=NI (.own x):=by
    rcases m with z|z;show absurd (a.trans z) j;rw[a];show z
   cbv;rw[q]at n;cases n;let(v,hv):=l
   w_up;show(v,by rw[a];show hv)
  show(ok b u q).stay (λc v hc r=>k c v ?_ r) (λc r=>by rw[al (d c b r)];show r) λc xs f r=>by rw[al (g c xs f r)];show r
  rcases hc with rfl|hc;show a;rintro rfl;rcases m with z|z;show d c b hc z;rw[hc]at z;cases z;show j rfl
end
structure Un(fs ex:NE)(H H':Hp)(h h':bd):Prop where
 keep:∀b o,h.get? b=some o->H b=none->b ∉ fs->b ∉ ex->h'.get? b=some o
 slot:∀b o,h.get? b=some o->H b=none->b∈fs->b ∉ ex->∃sl,h'.get? b=some { o with slots:=sl }
 free:∀b o,h.get? b=some o->H b=none->b ∉ ex->H' b=none
 there:∀b o,h.get? b=some o->b ∉ ex->∃o',h'.get? b=some o'
 tups:∀b xs,H b=some (.tup xs)->H' b=some (.tup xs)
 frzs:∀b o u,H b=some (.frz o u)->H' b=some (.frz o u)
 tbls:∀b q,H b=some (.tbl q)->H' b=some (.tbl q)
section
variable{fs ex:NE}{H H1:Hp}{h h1 h':bd}{a x e:ap}{o:HO}
def Un.any(u:Un fs ex H H1 h h1){b:ap}{ob:Obj}(q:h.get? b=some ob)(n:H b=none)(hx:b ∉ ex):∃sl,h1.get? b=some { ob with slots:=sl }:=by by_cases a:b∈fs;show u.slot b ob q n a hx;show(ob.slots,u.keep b ob q n a hx)
def Un.kept(k:∀b u,h.get? b=NI u->h'.get? b=NI u):Un fs ex H H h h' :=
 (λb ob q Y Y Y=>k b ob q,λb ob q Y Y Y=>(ob.slots,k b ob q),λY Y Y n Y=>n,λb ob q Y=>(ob,k b ob q),λY Y q=>q,λY Y Y q=>q,λY Y q=>q)
def Un.refl:Un fs ex H H h h:=Un.kept λY Y q=>q
def Un.laid(k:∀b u,h.get? b=NI u->h'.get? b=NI u)(c:h.objs.size<=a)(hn:H a=NJ):Un fs ex H (upd H a o) h h' where
 keep:=λb u q Y Y Y=>k b u q
 slot:=λb u q Y Y Y=>(u.slots,k b u q)
 free:=λb u q n Y=>by rw[al (Jd (IY (IX q) c))];show n
 there:=λb u q Y=>(u,k b u q)
 tups:=λb xs q=>by rw[al (au q hn)];show q
 frzs:=λb u xs q=>by rw[al (au q hn)];show q
 tbls:=λb ps q=>by rw[al (au q hn)];show q
def Un.write(c:Mut (H x))(i:e=x\/H e=NI (.own x))(k:∀b u,b≠e->h.get? b=NI u->h'.get? b=NI u)(d:∃u,h'.get? e=NI u):Un fs ex H (upd H x o) h h':=by
 let hx:∀b,H b=NJ->b≠x:=λb n z=>by subst z;rw[n]at c;show c
 let g:∀b,H b=NJ->b≠e:=λb n z=>by
  subst z;rcases i with r|r;show hx b n r;rw[n]at r;cases r
 let f:∀b u,H b=NI u->¬Mut (NI u)->b≠x:=λb u q nm z=>by subst z;rw[q]at c;show nm c
 show(λb u q n Y Y=>k b u (g b n) q,λb u q n Y Y=>(u.slots,k b u (g b n) q),λb u q n Y=>by rw[al (hx b n)];show n,λb u q Y=>?_,
  λb xs q=>by rw[al (f b _ q λz=>z)];show q,λb u xs q=>by rw[al (f b _ q λz=>z)];show q,λb ps q=>by rw[al (f b _ q λz=>z)];show q)
 by_cases a:b=e;subst a;show d;show(u,k b u a q)
end
noncomputable def trk(h:bd)(H:Hp):NE:=(cp h.objs.size).filter λa=>(H a).isSome
def vU(h:bd)(H:Hp):bd:=PySem.W.hideAll h (trk h H)
def uS(h:bd)(H:Hp):(vU h H).objs.size=h.objs.size:=PySem.W.hideAll_size _ _
def xD{h:bd}{H:Hp}{b:ap}{o:Obj}(e:h.get? b=NI o)(n:H b=NJ):(vU h H).get? b=NI o :=
 PySem.W.hideAll_get _ e λa=>by
  let q:(H b).isSome=NK:=(Ji.mp a).2;rw[n]at q;simp at q
def A0{h:bd}{H:Hp}{b:ap}{o:Obj}(e:(vU h H).get? b=NI o):h.get? b=NI o/\H b=NJ:=by
 let e':h.get? b=NI o:=PySem.W.of_hideAll (trk h H) e;show(e',?_);cases q:H b with
 |none=>rfl
 |some x =>
  let a:b∈trk h H:=Ji.mpr (Jz.mpr (IX e'),by simp[q]);let z:(vU h H).get? b=NJ:=PySem.W.hideAll_none (trk h H) a;rw[z]at e;cases e
noncomputable def B6(g h:bd)(L:ap):Nd:=(cp h.objs.size).filterMap λa=>if a=L\/(g.get? a).isSome=NK then NJ else (h.get? a).map λo=>(a,o)
def rest(g h:bd)(L d:ap):Nd:=(B6 g h L).filter λp=>decide (p.1≠d)
structure Mod(K:ca)(mg:bx->Nm)(base:bd):Prop where
 kin:K.In base
 glob:base.Ns ky mg
 blt:∃mb,base.Ns K3 mb/\∀x:bx,x ≠ "__name__" -> mb x=KJ x
 nolimit:base.NoLimit
 bmain:∃bm ob,mg "__builtins__" = some (.ref bm)/\bm≠K3/\base.get? bm=some ob/\ob.cls=.type "module" /\ ob.dict=some K3/\ob.data=.plain
def d8:ND:=["choices","full_rows","chain_plan","least_ranks"]
def jb(K:ca)(T:ap)(q:bx):Prop:=∃x∈d8,∃f o fd c oc vs,cb K ky x=NI (NI (.ref f))/\K.lookup f=NI o/\o.data=.func fd/\fd.code=.ref c /\
 K.lookup c=NI oc/\oc.data=.fields vs/\vs[11]?=NI (.ref T)/\q=x ++ ".<locals>.<lambda>"
def zE(K:ca)(H:Hp):Prop:=∀T q,jb K T q->H T=NI (.tbl q)
structure Cx where
 prog:q3
 w : zb
 K : ca
 mg : bx->Nm
 base:bd
 A : Around
 N : ND
 s₀ : ba
 H₀ : Hp
 env:Env
 outer:Nu
 stack:Nu
 ex : NE
 fn : bx->Bool
 calm:Bool
 pn : Nd
 xe : as->ba->Prop
def frs(l:Nu):NE:=l.filterMap (·.frame)
abbrev Cx.fs(X:Cx):NE:=frs X.outer
def Vis(sc:KL)(x:bx):Prop:=sc.names.lookup x=NI .local\/sc.names.lookup x=NI .cell\/sc.names.lookup x=NI .free
def Loc(sc:KL)(x:bx):Prop:=sc.names.lookup x=NI .local\/sc.names.lookup x=NI .cell
def IC(env:Env)(h:bd)(m:bx->Nm)(x:bx)(u:as):Prop :=
 (env.kindOf x=NI .local/\m x=NI u)\/((env.kindOf x=NI .cell\/env.kindOf x=NI .free)/\∃c,env.cells.lookup x=NI c/\h.IsCell c (NI u))
structure Cx.Ok(X:Cx):Prop where
 mod:Mod X.K X.mg X.base
 kind:X.env.scope.kind=.function
 glob:X.env.globals=ky
 blt:X.env.builtins=K3
 above:X.s₀.heap.objs.size<=X.env.locals
 inj:∀x y c,X.env.cells.lookup x=some c->X.env.cells.lookup y=some c->x=y
 has:∀x,(X.env.kindOf x=some .cell\/X.env.kindOf x=some .free)->∃c,X.env.cells.lookup x=some c
 cab:∀x c,X.fn x=true->X.env.cells.lookup x=some c->X.s₀.heap.objs.size<=c
 hd : X.calm=true->X.A.handled=none
 frames:X.A.frames=some X.stack
 stk:X.stack=X.outer\/(X.stack=X.env::X.outer/\X.env.frame=some X.env.locals)
 exf:∀b∈X.ex,b≠X.env.locals/\∀x c,X.env.cells.lookup x=some c->c≠b
 bs : ∀b o,X.base.get? b=some o->X.s₀.heap.get? b=some o/\X.H₀ b=none
 bsz:X.base.objs.size<=X.s₀.heap.objs.size
 noex:∀b o,X.base.get? b=some o->b ∉ X.ex
 exfs:∀b∈X.ex,b ∉ X.fs
 funs:X.s₀.heap.FunFrames X.base X.outer
 frf:∀b∈X.fs,X.H₀ b=none
 tab:zE X.K X.H₀
structure Inv(X:Cx)(pins:Nd)(σ:List Nx)(H:Hp)(s:ba):Prop where
 ok : X.Ok
 os : s.os=X.s₀.os
 bare:Qx s.gens
 base:Un X.fs X.ex X.H₀ H X.s₀.heap s.heap
 loc:∃m,s.heap.Ns X.env.locals m/\∀(i:Nat) (x:bx) (v:V),X.N[i]?=some x->σ[i]?=some (some v)->Vis X.env.scope x->∃u,be v u/\IC X.env s.heap m x u
 cell:∀x c,X.env.cells.lookup x=some c->∃v,s.heap.IsCell c v
 free:H X.env.locals=none
 freeC:∀x c,X.env.cells.lookup x=some c->H c=none
 pin:∀p∈X.pn++pins,s.heap.get? p.1=some p.2/\H p.1=none/\p.1≠X.env.locals/\p.1 ∉ X.fs/\∀v,p.2.data≠.cell v
 hok:HOk X.prog X.w H s.heap
 len:σ.length=X.N.length
section
variable{X:Cx}{pins:Nd}{σ:List Nx}{H H':Hp}{s:ba}{h':bd}
def Cx.Ok.nofr(ok:X.Ok){b:ap}{o:Obj}(e:X.base.get? b=NI o):b ∉ X.fs:=λa=>by
 let:=(ok.funs.mem a).1;rw[e]at this;cases this
theorem Inv.bs(I:Inv X pins σ H s):∀b o,X.base.get? b=NI o->s.heap.get? b=NI o/\H b=NJ:=λb o e =>
 (I.base.keep b o (I.ok.bs b o e).1 (I.ok.bs b o e).2 (I.ok.nofr e) (I.ok.noex b o e),I.base.free b o (I.ok.bs b o e).1 (I.ok.bs b o e).2 (I.ok.noex b o e))
def Inv.bk(I:Inv X pins σ H s):∀b o,X.base.get? b=NI o->s.heap.get? b=NI o:=λb o e=>(I.bs b o e).1
theorem Inv.mod(I:Inv X pins σ H s):Mod X.K X.mg X.base:=I.ok.mod
def Inv.kIn(I:Inv X pins σ H s):X.K.In s.heap:=I.ok.mod.kin.keeps I.bk
theorem Inv.lt(I:Inv X pins σ H s):X.env.locals<(~~~s):=let ⟨_,hn,_⟩:=I.loc;hn.lt
def Inv.sz(I:Inv X pins σ H s):X.s₀.heap.objs.size<=(~~~s):=IQ I.ok.above (JW I.lt)
def Inv.nofs(I:Inv X pins σ H s){a:ap}(h:(~~~s)<=a):a ∉ X.fs:=λb=>by
 let(_,o,ho,_):=I.ok.funs.mem b;show absurd (IY (IX ho) (IQ I.sz h)) (JL _)
def Inv.cne(I:Inv X pins σ H s):∀x c,X.env.cells.lookup x=NI c->c≠X.env.locals:=λx c e z=>by
 let(v,o,ho,hd):=I.cell x c e;let(m,(o',es,ep,a,b,_),_):=I.loc;rw[z,a]at ho;cases ho;rw[b]at hd;cases hd
theorem Inv.funs(I:Inv X pins σ H s):s.heap.FunFrames X.base X.outer:=by
 let all:∀(l:Nu),(∀b∈frs l,b∈X.fs)->X.s₀.heap.FunFrames X.base l->s.heap.FunFrames X.base l:=by
  intro l
  induction l with
  |nil=>intro _ _;trivial
  |cons env r d =>
   intro hs hl;let(hk,(L,o,a,hn,ho,hd),f):=hl;let hL:L∈X.fs:=hs L (by unfold frs;rw[su,a];show IL);let(sl,e):=I.base.slot L o ho (I.ok.frf L hL) hL λz=>I.ok.exfs L z hL;show(hk,(L,_,a,hn,e,hd),d (λb c=>hs b (by unfold frs;rw[su,a];show IM _ c)) f)
 show all X.outer (λY c=>c) I.ok.funs
theorem Inv.stack(I:Inv X pins σ H s):s.heap.FunFrames X.base X.stack:=by
 rcases I.ok.stk with e|⟨e,a⟩
 rw[e];show I.funs;rw[e];let(m,hn,_):=I.loc;show .cons (by rw[I.ok.kind];decide) a hn ?_ I.funs;show Heap.get?_none_of_le (IQ I.ok.bsz I.ok.above)
def Inv.stkSub(I:Inv X pins σ H s):∀b∈frs X.stack,b∈X.env.locals::X.fs:=λb a=>by
 rcases I.ok.stk with e|⟨e,c⟩
 rw[e]at a;show IM _ a;rw[e]at a;unfold frs at a;rw[su,c]at a;show a
def Inv.stkFree(I:Inv X pins σ H s):∀b∈frs X.stack,H b=NJ:=λb a=>by
 rcases IR.mp (I.stkSub b a) with e|a;rw[e];show I.free;let(_,o,ho,_):=I.ok.funs.mem a;show I.base.free b o ho (I.ok.frf b a) λz=>I.ok.exfs b z a
def Inv.step{g':Array GenState}{t':Nat}{d':Drawn}{ch:NE}(I:Inv X pins σ H s)
  (a:∀b∈ch,(b∈X.ex\/X.s₀.heap.objs.size<=b)/\b≠X.env.locals/\(∀x c,X.env.cells.lookup x=some c->c≠b)/\∀p∈X.pn++pins,p.1≠b)
  (keep:∀b o,b≠X.env.locals->b ∉ X.fs->b ∉ ch->s.heap.get? b=some o->H b=none->h'.get? b=some o)
  (slot:∀b o,b≠X.env.locals->b∈X.fs->b ∉ ch->s.heap.get? b=some o->H b=none->∃sl,h'.get? b=some { o with slots:=sl }) (free:∀b o,b ∉ ch->s.heap.get? b=some o->H b=none->H' b=none)
  (there:∀b o,b ∉ ch->s.heap.get? b=some o->∃o',h'.get? b=some o')
  (tups:∀b xs,H b=some (.tup xs)->H' b=some (.tup xs)) (frzs:∀b o u,H b=some (.frz o u)->H' b=some (.frz o u)) (tbls:∀b ps,H b=some (.tbl ps)->H' b=some (.tbl ps))
  (ns:∀m,s.heap.Ns X.env.locals m->h'.Ns X.env.locals m) (hok:HOk X.prog X.w H' h') (hg:Qx g') :
  Inv X pins σ H' { s with heap:=h',gens:=g',drawn:=d',toks:=t' }:=by
 let t:∀b o,X.s₀.heap.get? b=NI o->b≠X.env.locals:=λb o e=>Jd (IY (IX e) I.ok.above);let h:∀b o,X.s₀.heap.get? b=NI o->b ∉ X.ex->b ∉ ch:=λb o e hx j=>by
  rcases(a b j).1 with z|z;show hx z;show absurd (IY (IX e) z) (JL _)
 let f:∀x c,X.env.cells.lookup x=NI c->∀v,s.heap.IsCell c v->h'.IsCell c v:=λx c e v ⟨o,ho,hd⟩=>by
  let g:c ∉ ch:=λz=>(a c z).2.2.1 x c e rfl;by_cases hc:c∈X.fs;let(sl,q):=slot c o (I.cne x c e) hc g ho (I.freeC x c e);show(_,q,hd);show(o,keep c o (I.cne x c e) hc g ho (I.freeC x c e),hd)
 show(I.ok,I.os,hg,(λb o e n j hx=>?_,λb o e n j hx=>?_,λb o e n hx=>?_,λb o e hx=>?_,λb xs e=>tups b xs (I.base.tups b xs e),λb o xs e=>frzs b o xs (I.base.frzs b o xs e),λb ps e=>?_),?_,λx c e=>?_,?_,λx c e=>?_,λp A=>?_,hok,I.len);show keep b o (t b o e) j (h b o e hx) (I.base.keep b o e n j hx) (I.base.free b o e n hx);let(sl,e1):=I.base.slot b o e n j hx;let(y,e2):=slot b _ (t b o e) j (h b o e hx) e1 (I.base.free b o e n hx);show(y,e2);let(o',e1):=I.base.there b o e hx;show free b o' (h b o e hx) e1 (I.base.free b o e n hx);let(o',e1):=I.base.there b o e hx;show there b o' (h b o e hx) e1;show tbls b ps (I.base.tbls b ps e);let(m,hn,hl):=I.loc;show(m,ns m hn,λi x v e1 e2 e3=>?_);let(u,r,l):=hl i x v e1 e2 e3;show(u,r,?_);rcases l with l|⟨k,c,e,z⟩
 show .inl l;show .inr (k,c,e,f x c e _ z);let(v,z):=I.cell x c e;show(v,f x c e v z);let(m,(o,_,_,ho,_),_):=I.loc;show free _ o (λz=>(a _ z).2.1 rfl) ho I.free;let(v,o,ho,hd):=I.cell x c e;show free c o (λz=>(a c z).2.2.1 x c e rfl) ho (I.freeC x c e);let(e,n,ne,B,d):=I.pin p A;let g:p.1 ∉ ch:=λz=>(a p.1 z).2.2.2 p A rfl;show(keep p.1 p.2 ne B g e n,free p.1 p.2 g e n,ne,B,d)
def Inv.un{t':Nat}(I:Inv X pins σ H s)(u:Un X.fs [] H H' s.heap h')(hok:HOk X.prog X.w H' h'):Inv X pins σ H' { s with heap:=h',toks:=t' }:=by
 let(m,(o,es,ep,ho,r),_):=id I.loc;let(sl,hL):=u.any ho I.free (!1);show I.step (g':=s.gens) (d':=s.drawn) (ch:=[]) (λY z=>nomatch z) (λb o Y c Y e n=>u.keep b o e n c (!1)) (λb o Y c Y e n=>u.slot b o e n c (!1)) (λb o Y e n=>u.free b o e n (!1)) (λb o Y e=>u.there b o e (!1)) u.tups u.frzs u.tbls (λh g=>by
  cbv;let(o',d,f,a,r'):=g;rw[ho]at a;cases a
  w_up;show(_,d,f,hL,r')) hok I.bare
def Inv.call{g':Array GenState}{t':Nat}{d':Drawn}{ch:NE}(I:Inv X pins σ H s)(u:Un (frs X.stack) ch H H' s.heap h')(hok:HOk X.prog X.w H' h')(hg:Qx g')
  (a:∀b∈ch,(b∈X.ex\/X.s₀.heap.objs.size<=b)/\b≠X.env.locals/\(∀x c,X.env.cells.lookup x=some c->c≠b)/\∀p∈X.pn++pins,p.1≠b) :
  Inv X pins σ H' { s with heap:=h',gens:=g',drawn:=d',toks:=t' }:=by
 let(m,(o,es,ep,ho,r),_):=id I.loc;let(sl,hL):=u.any ho I.free λz=>(a _ z).2.1 rfl;show I.step (ch:=ch) a (λb o hL h hc e n=>u.keep b o e n (λz=>(IR.mp (I.stkSub b z)).elim hL h) hc) (λb o Y Y hc e n=>u.any e n hc) (λb o hc e n=>u.free b o e n hc) (λb o hc e=>u.there b o e hc) u.tups u.frzs u.tbls (λj i=>by
  cbv;let(o',f,g,d,r'):=i;rw[ho]at d;cases d
  w_up;show(_,f,g,hL,r')) hok hg
def Inv.turned{t':Nat}{it:ap}(I:Inv X pins σ H s)(k:∀b o,b≠it->s.heap.get? b=some o->h'.get? b=some o)(hn:H it=none)(hL:it≠X.env.locals)
  (h1:it∈X.ex\/X.s₀.heap.objs.size<=it) (h2:∀x c,X.env.cells.lookup x=some c->c≠it) (h3:∀p∈X.pn++pins,p.1≠it):Inv X pins σ H { s with heap:=h',toks:=t' }:=by
 let a:∀b u,H b=NI u->b≠it:=λb u e z=>by rw[z,hn]at e;cases e
 show I.step (g':=s.gens) (d':=s.drawn) (ch:=[it]) (λb d=>?_) (λb o Y Y hc e Y=>k b o (λz=>hc (by simp[z])) e) (λb o Y Y hc e Y=>(o.slots,k b o (λz=>hc (by simp[z])) e)) (λY Y Y Y n=>n)
  (λb o hc e=>(o,k b o (λz=>hc (by simp[z])) e)) (λY Y e=>e) (λY Y Y e=>e) (λY Y e=>e) (λm f=>?_) (λb u e=>?_) I.bare
 let e:b=it:=by simpa using d
 subst e;show(h1,hL,h2,h3);let(o,es,ep,ho,r):=f;show(o,es,ep,k _ o (Ne.symm hL) ho,r);show(I.hok b u e).stay (λc v hc q=>k c v ?_ q) (λY q=>q) λY Y Y q=>q;rcases hc with z|z;rw[z];show a b u e;show a c _ z
def Inv.tok(I:Inv X pins σ H s)(t:Nat):Inv X pins σ H { s with toks:=t }:=I.un (h':=s.heap) (t':=t) Un.refl I.hok
theorem Inv.kept{t':Nat}(I:Inv X pins σ H s)(k:∀b u,s.heap.get? b=some u->h'.get? b=some u):Inv X pins σ H { s with heap:=h',toks:=t' }:=I.un (Un.kept k) (I.hok.kept k)
theorem Inv.laid{a:ap}{o:HO}{t':Nat}(I:Inv X pins σ H s)(k:∀b u,s.heap.get? b=some u->h'.get? b=some u)(c:s.heap.objs.size<=a)(new:dB X.prog X.w (upd H a o) h' a o) :
  Inv X pins σ (upd H a o) { s with heap:=h',toks:=t' }:=I.un (Un.laid k c (I.hok.fresh c)) (I.hok.laid k c new)
theorem Inv.write{x e:ap}{o:HO}{t':Nat}(I:Inv X pins σ H s)(c:Mut (H x))(d:e=x\/H e=some (.own x))(k:∀b u,b≠e->s.heap.get? b=some u->h'.get? b=some u)(a:∃u,h'.get? e=some u)
  (new:dB X.prog X.w (upd H x o) h' x o):Inv X pins σ (upd H x o) { s with heap:=h',toks:=t' }:=I.un (Un.write c d k a) (I.hok.write c d k a new)
def Inv.pins_of{pins':Nd}(I:Inv X pins σ H s)(h:∀p∈pins',s.heap.get? p.1=NI p.2/\H p.1=NJ/\p.1≠X.env.locals/\p.1 ∉ X.fs/\∀v,p.2.data≠.cell v):Inv X pins' σ H s :=
 (I.ok,I.os,I.bare,I.base,I.loc,I.cell,I.free,I.freeC,λp a=>(II.mp a).elim (λz=>I.pin p (IJ _ z)) (h p),I.hok,I.len)
def qa{N:ND}(hN:N.Nodup){i j:Nat}{x:bx}(a:N[i]?=NI x)(b:N[j]?=NI x):i=j:=by let(h1,e1):=IN.mp a;let(h2,e2):=IN.mp b;show(List.getElem_inj hN).mp (e1.trans e2.symm)
def lf{M:Model}{A:Around}{E:as->ba->Prop}{i:Nat}{x:bx}{v:V}{u:as}{Q:Unit->ba->Prop}(I:Inv X pins σ H s)(hN:X.N.Nodup)(hi:X.N[i]?=some x)(hx:Loc X.env.scope x)(r:be v u)
  (h : ∀s',Inv X pins (σ.set i (some v)) H s'->(∃a,hY a s.heap s'.heap/\(a=X.env.locals\/X.env.cells.lookup x=some a))->Q () s') (S:X.fn x=true\/X.env.scope.names.lookup x=some .local:=by walk_at"v1"):kw M A (storeName X.env x u) Q E s:=by
 let(m,hn,hl):=id I.loc;let C:(X.env.scope.kind==.class ||(X.env.scope.kind==.module&&X.env.locals != X.env.globals))=NL:=by rw[I.ok.kind];rfl
 let l:i< -σ:=by rw[I.len];show(IN.mp hi).1
 let cne:=I.cne;let f:∀{a:ap}{h':bd},(∃o,s.heap.get? a=NI o/\H a=NJ)->hY a s.heap h'->HOk X.prog X.w H h':=λ{a h'} T hs b ob e=>by
  let(_,_,g):=T;show(I.hok b ob e).stay (λc w' hc q=>(hs.2 c ?_).trans q) (λ_ q=>q) λ_ _ _ q=>q;rintro rfl;rcases hc with rfl|hc;rw[g]at e;cases e;rw[g]at hc;cases hc
 rcases hx with hk|hk
 .show wpAny_storeName_local hk hn (λh' K hs=>?_) C;let(U,_,_,L,_):=id hn;show h _ (I.ok,I.os,I.bare,(λb o e n t hx=>?_,λb o e n t hx=>?_,I.base.free,λb o e hx=>?_,I.base.tups,I.base.frzs,I.base.tbls),(_,K,λj y v' e1 e2 e3=>?_),λy c e=>?_,I.free,I.freeC,λp O=>?_,f (U,L,I.free) hs,by simpa using I.len) (_,hs,.inl rfl);show(hs.2 b (Jd (IY (IX e) I.ok.above))).trans (I.base.keep b o e n t hx);let(sl,e1):=I.base.slot b o e n t hx;show(sl,(hs.2 b (Jd (IY (IX e) I.ok.above))).trans e1);let(o',e1):=I.base.there b o e hx;show(o',(hs.2 b (Jd (IY (IX e) I.ok.above))).trans e1)
  .by_cases hj:j=i
   .cbv;subst hj;rw[hi]at e1;cases e1;rw[Jc l]at e2;cases e2
    w_up;show(u,r,.inl (hk,!1))
   rw[Je (Ne.symm hj)]at e2;let(P,r',q):=hl j y v' e1 e2 e3;show(P,r',?_);rcases q with⟨k,e⟩|⟨k,c,e,z⟩
   show .inl (k,?_);let:y≠x:=λe=>hj (qa hN e1 (e▸hi));simp[this,e];show .inr (k,c,e,z.sameBut hs (cne y c e))
  let(w',z):=I.cell y c e;show(w',z.sameBut hs (cne y c e));let(e,n,ne,R,d):=I.pin p O;show((hs.2 p.1 ne).trans e,n,ne,R,d)
 .let B:X.fn x=NK:=by
   rcases S with z|z;show z;rw[z]at hk;cases hk
  let(c,hc):=I.ok.has x (.inl hk);let(w',z):=I.cell x c hc;show wpAny_storeName_cell I.ok.kind hk hc z (λh' D hs=>?_);let(oc,F,G):=id z;show h { s with heap:=h' } (I.ok,I.os,I.bare,(λb o e n t hx=>?_,λb o e n t hx=>?_,I.base.free,λb o e hx=>?_,I.base.tups,I.base.frzs,I.base.tbls),(m,hn.sameBut hs (Ne.symm (cne x c hc)),λj y v' e1 e2 e3=>?_),λy c' e=>?_,I.free,I.freeC,λp O=>?_,f (oc,F,I.freeC x c hc) hs,by simpa using I.len) (c,hs,.inr hc);show(hs.2 b (Jd (IY (IX e) (I.ok.cab x c B hc)))).trans (I.base.keep b o e n t hx);let(sl,e1):=I.base.slot b o e n t hx;show(sl,(hs.2 b (Jd (IY (IX e) (I.ok.cab x c B hc)))).trans e1);let(o',e1):=I.base.there b o e hx;show(o',(hs.2 b (Jd (IY (IX e) (I.ok.cab x c B hc)))).trans e1)
  .by_cases hj:j=i
   .cbv;subst hj;rw[hi]at e1;cases e1;rw[Jc l]at e2;cases e2
    w_up;show(u,r,.inr (.inl hk,c,hc,D))
   rw[Je (Ne.symm hj)]at e2;let(P,r',q):=hl j y v' e1 e2 e3;show(P,r',?_);rcases q with q|⟨k,c',e,W⟩
   show .inl q;show .inr (k,c',e,W.sameBut hs ?_);rintro rfl;show hj (qa hN e1 (I.ok.inj _ _ _ e hc▸hi))
  by_cases J:c'=c;subst J;show(_,D);let(Y,z2):=I.cell y c' e;show(Y,z2.sameBut hs J);let(e,n,ne,R,d):=I.pin p O;show((hs.2 p.1 ?_).trans e,n,ne,R,d);intro q;rw[q,F]at e;let Z:oc=p.2:=di e;show d w' (by rw[<-Z];show G)
def pz{M:Model}{A:Around}{E:as->ba->Prop}{i:Nat}{x:bx}{v:V}{u:as}{Q:Unit->ba->Prop}(I:Inv X pins σ H s)(hN:X.N.Nodup)(hi:X.N[i]?=some x)(hx:Loc X.env.scope x)(r:be v u)
  (h : ∀s',Inv X pins (σ.set i (some v)) H s'->Q () s') (a:X.fn x=true\/X.env.scope.names.lookup x=some .local:=by walk_at"v1"):kw M A (storeName X.env x u) Q E s :=
 lf I hN hi hx r (λs' b Y=>h s' b) a
def Inv.call'{s':ba}{ch:NE}(I:Inv X pins σ H s)(ho:s'.os=s.os)(u:Un (frs X.stack) ch H H' s.heap s'.heap)(hok:HOk X.prog X.w H' s'.heap)(hg:Qx s'.gens)
  (a:∀b∈ch,(b∈X.ex\/X.s₀.heap.objs.size<=b)/\b≠X.env.locals/\(∀x c,X.env.cells.lookup x=NI c->c≠b)/\∀p∈X.pn++pins,p.1≠b):Inv X pins σ H' s':=by let(h',g',d',t',o'):=s';let e:o'=s.os:=ho;subst e;show I.call (g':=g') (t':=t') (d':=d') u hok hg a
end
abbrev XK:=as->No->Hp->Prop
abbrev St:=List Nx
abbrev VK:=V->Hp->Prop
abbrev TE:=St->Hp->VK->Prop
abbrev TT:=St->Hp->(Bool->Hp->Prop)->Prop
abbrev TA:=St->Hp->(NH->Hp->Prop)->Prop
structure zH where
 nx : St->Hp->Prop
 rt : VK
 bk : St->Hp->Prop:=λ_ _=>False
 ct : St->Hp->Prop:=λ_ _=>False
abbrev TS:=zH->St->Hp->Prop
def EP(X:Cx)(pins:Nd)(σ:St)(Q:VK)(u:as)(s':ba):Prop:=∃v H',Inv X pins σ H' s'/\be v u/\Q v H'
def TP(X:Cx)(pins:Nd)(σ:St)(Q:Bool->Hp->Prop)(b:Bool)(s':ba):Prop:=∃H',Inv X pins σ H' s'/\Q b H'
def AP(X:Cx)(pins:Nd)(σ:St)(Q:NH->Hp->Prop)(us:NC)(s':ba):Prop:=∃vs H',Inv X pins σ H' s'/\aH vs us/\Q vs H'
def SP(X:Cx)(pins:Nd)(D:zH)(f:Flow)(s':ba):Prop :=
 match f with
 |.next=>∃σ' H',Inv X pins σ' H' s'/\D.nx σ' H'
 |.brk=>∃σ' H',Inv X pins σ' H' s'/\D.bk σ' H'
 |.cont=>∃σ' H',Inv X pins σ' H' s'/\D.ct σ' H'
 |.ret u=>∃v σ' H',Inv X pins σ' H' s'/\be v u/\D.rt v H'
def PE(X:Cx)(e:bb)(t:TE):Prop :=
 ∀(pins:Nd) (s:ba) (σ:St) (H:Hp) (Q:VK),Inv X pins σ H s->t σ H Q->kw (qb X.prog X.w) X.A (eval e X.env) (EP X pins σ Q) X.xe s
def PT(X:Cx)(e:bb)(t:TT):Prop :=
 ∀(pins:Nd) (s:ba) (σ:St) (H:Hp) (Q:Bool->Hp->Prop),Inv X pins σ H s->t σ H Q->kw (qb X.prog X.w) X.A (QF e X.env (eval e X.env)) (TP X pins σ Q) X.xe s
def PW(X:Cx)(e:bb)(t:TT):Prop :=
 ∀(a:Sem as) (pins:Nd) (s:ba) (σ:St) (H:Hp) (Q:Bool->Hp->Prop),Inv X pins σ H s->t σ H Q->kw (qb X.prog X.w) X.A (QF e X.env a) (TP X pins σ Q) X.xe s
def PW.pt{X:Cx}{e:bb}{t:TT}(h:PW X e t):PT X e t:=h _
def PA(X:Cx)(es:NF)(t:TA):Prop :=
 ∀(pos:Pos) (pins:Nd) (s:ba) (σ:St) (H:Hp) (Q:NH->Hp->Prop),Inv X pins σ H s->t σ H Q->kw (qb X.prog X.w) X.A (spliced (ze pos (kq es X.env))) (AP X pins σ Q) X.xe s
def PS(X:Cx)(st:Stmt)(t:TS):Prop :=
 ∀(pins:Nd) (s:ba) (σ:St) (H:Hp) (D:zH),Inv X pins σ H s->t D σ H->kw (qb X.prog X.w) X.A (exec st X.env) (SP X pins D) X.xe s
def PSs(X:Cx)(st:Nn)(t:TS):Prop :=
 ∀(pins:Nd) (s:ba) (σ:St) (H:Hp) (D:zH),Inv X pins σ H s->t D σ H->kw (qb X.prog X.w) X.A (execs st X.env) (SP X pins D) X.xe s
def thn{α:Type}{t:Sem α}{Q b:α->ba->Prop}{M:Model}{A:Around}{E:as->ba->Prop}{s:ba}(h:kw M A t Q E s)(c:∀a s,Q a s->b a s):kw M A t b E s:=z3 h c λY Y x=>x
section
variable{X:Cx}
def vR(i:Nat):TE:=λσ H Q=>∃v,σ[i]?=NI (NI v)/\Q v H
def tC(v:V):TE:=λY H Q=>Q v H
def bu{i:Nat}{x:bx}{pos:Pos}(hN:X.N[i]?=some x)(hv:Vis X.env.scope x)(hd:(x==("__debug__" : bx))=false:=by decide)(b:(x==("__classdict__" : bx))=false:=by decide):PE X (.Name x pos) (vR i):=by
 intro pins s σ H Q I h
 cbv;let(v,e,h):=h;let(m,hn,hl):=I.loc;let(u,r,l):=hl i x v hN e hv
 w_up;let fin:EP X pins σ Q u s:=(v,H,I,r,h)
 rcases l with⟨hk,d⟩|⟨hk,c,hc,a⟩
 show wpAny_Name (wpAny_loadName_local I.ok.kind hk hn d fin) hd;rcases hk with hk|hk;show wpAny_Name (wpAny_loadName_cell I.ok.kind hk hc a fin) hd;show wpAny_Name (wpAny_loadName_free I.ok.kind hk hc a fin b) hd
def lF{i j pos}:PE X (.Constant (.int i) j pos) (tC (.int i)):=λY Y Y H Y I h=>wpAny_Constant_int (.int i,H,I.tok _,(_,rfl),h)
def FS{b j pos}:PE X (.Constant (.bool b) j pos) (tC (.bl b)):=λY Y Y H Y I h=>Constant_bool (.bl b,H,I,rfl,h)
def Do{j pos}:PE X (.Constant .none j pos) (tC .non):=λY Y Y H Y I h=>Constant_none (.non,H,I,rfl,h)
def yN{x j pos}:PE X (.Constant (.str x) j pos) (tC (.str x)):=λY Y Y H Y I h=>Calls.Constant_str (.str x,H,I.tok _,(_,rfl),h)
def Gl(X:Cx)(x:bx):Prop:=X.env.kindOf x=NI .globalImplicit
def oK{E:as->ba->Prop}{pins:Nd}{s:ba}{σ:St}{H:Hp}{x:bx}{u:as}{pos:Pos}{Q:as->ba->Prop}(I:Inv X pins σ H s)(hg:Gl X x)(a:X.mg x=some u)(h:Q u s)
  (hd:(x==("__debug__" : bx))=false:=by decide):kw (qb X.prog X.w) X.A (eval (.Name x pos) X.env) Q E s :=
 Calls.Name_function_global I.ok.kind hg (Calls.loadGlobal_global (by rw[I.ok.glob];show I.mod.glob.keeps I.bk) a h) hd
def fR{E:as->ba->Prop}{pins:Nd}{s:ba}{σ:St}{H:Hp}{x:bx}{u:as}{pos:Pos}{Q:as->ba->Prop}(I:Inv X pins σ H s)(hg:Gl X x)(a:X.mg x=none)(hv:KJ x=some u)(h:Q u s)
  (hn:x ≠ "__name__" := by decide) (hd:(x==("__debug__" : bx))=false:=by decide):kw (qb X.prog X.w) X.A (eval (.Name x pos) X.env) Q E s:=by let(mb,h1,h2):=I.mod.blt;show Calls.Name_function_global I.ok.kind hg (Calls.loadGlobal_builtin (by rw[I.ok.glob];show I.mod.glob.keeps I.bk) a (by rw[I.ok.blt];show h1.keeps I.bk) ((h2 x hn).trans hv) h) hd
def ud{x:bx}{v:V}{u:as}{pos:Pos}(hg:Gl X x)(a:X.mg x=some u)(r:be v u)(hd:(x==("__debug__" : bx))=false:=by decide):PE X (.Name x pos) (tC v) :=
 λY Y Y H Y I h=>oK I hg a (v,H,I,r,h) hd
def AR{x:bx}{v:V}{u:as}{pos:Pos}(hg:Gl X x)(a:X.mg x=none)(hv:KJ x=some u)(r:be v u)(hn:x ≠ "__name__" := by decide)(hd:(x==("__debug__" : bx))=false:=by decide):PE X (.Name x pos) (tC v) :=
 λY Y Y H Y I h=>fR I hg a hv (v,H,I,r,h) hn hd
variable{a b:bb}{ta tb:TE}{pos:Pos}
def tB(t:TE):TT:=λσ H Q=>t σ H λx H1=>∃c,x=.bl c/\Q c H1
def Da{e:bb}{t:TE}(h:PE X e t)(c:∀a,QF e X.env a=(do let v <-a;K2 e.pos;KI [v] (Ze v)):=by intro _;rfl):PT X e (tB t):=by
 intro pins s σ H Q I hw;show isTrue_plain (thn (h pins s σ H _ I hw) λv s1 b=>?_) (c _)
 cbv;let(x,H1,f,g,i):=b;let(d,rfl,q):=i;cases g
 w_up;show KB (H1,f,q)
variable{tA tB':TT}{rest:NF}
def HI(t u:TT):TT:=λσ H Q=>t σ H λc H1=>if c=NK then u σ H1 Q else Q NL H1
def tOr(t u:TT):TT:=λσ H Q=>t σ H λc H1=>if c=NK then Q NK H1 else u σ H1 Q
def HE(t:TT):TT:=λσ H Q=>t σ H λc H1=>Q (!c) H1
def Av(b:PT X a tA):PW X (.BoolOp .And [a] pos) tA:=by
 intro wh pins s σ H Q I h;show isTrue_and (thn (b pins s σ H Q I h) λc s1 e=>?_);cases c with
 |true=>show isTrue_and_nil e
 |false=>show e
def C8(b:PT X a tA):PW X (.BoolOp .Or [a] pos) tA:=by
 intro wh pins s σ H Q I h;show isTrue_or (thn (b pins s σ H Q I h) λc s1 e=>?_);cases c with
 |false=>show isTrue_or_nil e
 |true=>show e
def C9(g:PT X a tA)(i:PW X (.BoolOp .And (b::rest) pos) tB'):PW X (.BoolOp .And (a::b::rest) pos) (HI tA tB'):=by
 intro wh pins s σ H Q I h;show isTrue_and (thn (g pins s σ H _ I h) λc s1 d=>?_);let(H1,e,f):=d;cases c with
 |true=>show i wh pins s1 σ H1 Q e f
 |false=>show(H1,e,f)
def FQ(g:PT X a tA)(i:PW X (.BoolOp .Or (b::rest) pos) tB'):PW X (.BoolOp .Or (a::b::rest) pos) (tOr tA tB'):=by
 intro wh pins s σ H Q I h;show isTrue_or (thn (g pins s σ H _ I h) λc s1 d=>?_);let(H1,e,f):=d;cases c with
 |true=>show(H1,e,f)
 |false=>show i wh pins s1 σ H1 Q e f
def Db(b:PT X a tA):PT X (.UnaryOp .Not a pos) (HE tA):=by intro pins s σ H Q I h;show isTrue_not (b pins s σ H (λc H1=>Q (!c) H1) I h)
def Fx(ta tb:TE):TE:=λσ H Q=>ta σ H λx H1=>∃c,x=.bl c/\if c=NK then tb σ H1 Q else Q (.bl NL) H1
def Dn{op}{t:TE}(h:PE X a t):PE X (.BoolOp op [a] pos) t:=λpins s σ H Q I hw=>BoolOp_one (h pins s σ H Q I hw)
def Dr(g:PE X a ta)(i:PE X (.BoolOp .And (b::rest) pos) tb):PE X (.BoolOp .And (a::b::rest) pos) (Fx ta tb):=by
 intro pins s σ H Q I h;show BoolOp_and (thn (g pins s σ H _ I h) λv s1 e=>?_)
 cbv;let(x,H1,f,j,d):=e;let(c,rfl,d):=d;cases j
 w_up;show KB ?_;cases c with
 |true=>show i pins s1 σ H1 Q f d
 |false=>show(.bl NL,H1,f,rfl,d)
def tIf(t:TT)(ta tb:TE):TE:=λσ H Q=>t σ H λc H1=>if c=NK then ta σ H1 Q else tb σ H1 Q
def wU{c:bb}(hc:PT X c tA)(i:PE X a ta)(j:PE X b tb):PE X (.IfExp c a b pos) (tIf tA ta tb):=by
 intro pins s σ H Q I h;show wpAny_IfExp (thn (hc pins s σ H _ I h) λd s1 e=>?_);let(H1,f,g):=e;cases d with
 |true=>show i pins s1 σ H1 Q f g
 |false=>show j pins s1 σ H1 Q f g
end
def SqL(K:ca)(H:Hp)(a:ap)(xs:NH):Prop :=
 Rd H a (.lst xs) \/
  ∃(o:Obj) (b:Nq) (n:Nat),K.lookup a=NI o/\o.cls=.type "list" /\ o.dict=NJ/\o.data=.seq b n/\b.size<=sizeLine/\aH xs b.toList
def SqT(K:ca)(H:Hp)(a:ap)(xs:NH):Prop :=
 Rd H a (.tup xs) \/
  ∃(o:Obj) (b:Nq) (n:Nat),K.lookup a=NI o/\(o.cls=.type "tuple" /\ o.dict=NJ)/\o.data=.seq b n/\b.size<=sizeLine/\aH xs b.toList
noncomputable def Iz:as->Nx
 |.none=>NI .non
 |.bool b=>NI (.bl b)
 |.int i _=>NI (.int i)
 |.str x _=>NI (.str x)
 |.bytes b _=>NI (.byt b)
 |.float b _=>NI (.flt b)
 |.ref a=>NI (.ref a)
 |.type n=>NI (.ty n)
 |_=>NJ
def be.abs{x:V}{u:as}(r:be x u):Iz u=NI x:=by
 cases x with
 |non=>cases r;rfl
 |bl _=>cases r;rfl
 |int _=>let(t,rfl):=r;rfl
 |str _=>let(t,rfl):=r;rfl
 |byt _=>let(t,rfl):=r;rfl
 |flt _=>let(t,rfl):=r;rfl
 |ref _=>cases r;rfl
 |ty _=>cases r;rfl
def be.inj{x y:V}{u:as}(r:be x u)(q:be y u):x=y:=di (r.abs.symm.trans q.abs)
theorem aH.inj{xs ys:NH}{us:NC}(h:aH xs us):aH ys us->xs=ys:=by
 induction h generalizing ys with
 |nil =>
  intro q;cases q;rfl
 |cons r t a =>
  intro q;cases q with
  |cons r' t'=>rw[r.inj r',a t']
section
variable{X:Cx}{pins:Nd}{σ:St}{H:Hp}{s:ba}{a:ap}{xs ys:NH}
def SqL.of{K:ca}(h:H a=NI (.lst xs)):SqL K H a xs:=.inl (.inl h)
def Inv.list(I:Inv X pins σ H s)(h:SqL X.K H a xs):∃b:NC,aH xs b/\PlainL s.heap a b.toArray/\xs.length<=sizeLine:=by
 rcases h with h|⟨o,b,n,hk,hc,hd,hs,hz,r⟩
 let(z,b,n,r,e):=h.ok I.hok;show(b,r,(_,n,e,rfl,rfl,rfl),z);show(b.toList,r,(o,n,I.kIn a o hk,hc,hd,by simpa using hs),?_);let e:=-r;simp only[hh]at e;lia
def Inv.tuple(I:Inv X pins σ H s)(h:SqT X.K H a xs):∃b:NC,aH xs b/\IsTup s.heap a b.toArray/\xs.length<=sizeLine:=by
 rcases h with h|⟨o,b,n,hk,hc,hs,hz,r⟩
 let(z,b,r,p):=h.ok I.hok;show(b,r,p.is,z);show(b.toList,r,(o,I.kIn a o hk,hc.1,n,by simpa using hs),?_);let e:=-r;simp only[hh]at e;lia
def Inv.tupleN(I:Inv X pins σ H s)(h:SqT X.K H a xs):∃b:NC,aH xs b/\vL s.heap a b.toArray:=by
 rcases h with h|⟨o,b,n,hk,hc,hs,hz,r⟩
 let(z,b,r,p):=h.ok I.hok;show(b,r,p);show(b.toList,r,(o,I.kIn a o hk,hc.1,(n,by simpa using hs),hc.2))
def Inv.list_inj(I:Inv X pins σ H s)(h:SqL X.K H a xs)(h':SqL X.K H a ys):xs=ys:=by
 cbv;let(b,r,(o,n,e,_,_,d),_):=I.list h;let(its',r',(o',c,e',_,_,d'),_):=I.list h';rw[e]at e';cases e';rw[d]at d';injection d' with d1 _;let:b=its':=by simpa using congrArg MS d1
 subst this
 w_up;show r.inj r'
def Inv.tuple_inj(I:Inv X pins σ H s)(h:SqT X.K H a xs)(h':SqT X.K H a ys):xs=ys:=by
 cbv;let(b,r,(o,e,_,n,d),_):=I.tuple h;let(its',r',(o',e',_,c,d'),_):=I.tuple h';rw[e]at e';cases e';rw[d]at d';injection d' with d1 _;let:b=its':=by simpa using congrArg MS d1
 subst this
 w_up;show r.inj r'
end
abbrev Cx.wish(X:Cx)(E:as->ba->Prop):Cx:={ X with xe:=E }
abbrev Cx.nox(X:Cx):Cx:=X.wish λY Y=>False
theorem Cx.Ok.wish{X:Cx}(ok:X.Ok)(E:as->ba->Prop):(X.wish E).Ok :=
 (ok.mod,ok.kind,ok.glob,ok.blt,ok.above,ok.inj,ok.has,ok.cab,ok.hd,ok.frames,ok.stk,ok.exf,ok.bs,ok.bsz,ok.noex,ok.exfs,ok.funs,ok.frf,ok.tab)
def Cx.Ok.unwish{X:Cx}{E:as->ba->Prop}(ok:(X.wish E).Ok):X.Ok :=
 (ok.mod,ok.kind,ok.glob,ok.blt,ok.above,ok.inj,ok.has,ok.cab,ok.hd,ok.frames,ok.stk,ok.exf,ok.bs,ok.bsz,ok.noex,ok.exfs,ok.funs,ok.frf,ok.tab)
section
variable{X:Cx}{pins:Nd}{σ:St}{H:Hp}{s:ba}{E:as->ba->Prop}
theorem Inv.wish(I:Inv X pins σ H s)(E:as->ba->Prop):Inv (X.wish E) pins σ H s:=(I.ok.wish E,I.os,I.bare,I.base,I.loc,I.cell,I.free,I.freeC,I.pin,I.hok,I.len)
theorem Inv.unwish(I:Inv (X.wish E) pins σ H s):Inv X pins σ H s:=(I.ok.unwish,I.os,I.bare,I.base,I.loc,I.cell,I.free,I.freeC,I.pin,I.hok,I.len)
theorem SP.unwish{D:zH}{f:Flow}{s':ba}(h:SP (X.wish E) pins D f s'):SP X pins D f s':=by
 cases f with
 |next=>let(σ',H',I,q):=h;show(σ',H',I.unwish,q)
 |brk=>let(σ',H',I,q):=h;show(σ',H',I.unwish,q)
 |cont=>let(σ',H',I,q):=h;show(σ',H',I.unwish,q)
 |ret u=>let(v,σ',H',I,r,q):=h;show(v,σ',H',I.unwish,r,q)
theorem PSs.nox{st:Nn}{t:TS}(h:PSs X.nox st t):PSs X st t:=λpins s σ H D I hw =>
 z3 (h pins s σ H D (I.wish _) hw) (λY Y q=>q.unwish) λY Y z=>False.elim z
end
section
variable{X:Cx}{st:Stmt}{rest:Nn}{t u:TS}{e:bb}{te:TE}{pos:Pos}
def CB:TS:=λD σ H=>D.nx σ H
def GT(t u:TS):TS:=λD σ H=>t { D with nx:=u D } σ H
def tV:PSs X [] CB:=λY Y σ H Y I h=>Qy (σ,H,I,h)
def gW(h1:PS X st t)(h2:PSs X rest u):PSs X (st::rest) (GT t u):=by
 intro pins s σ H D I h;show QY (thn (h1 pins s σ H { D with nx:=u D } I h) λf s1 q=>?_);cases f with
 |next =>
  let(σ',H',a,q):=q;show h2 pins s1 σ' H' D a q
 |ret v=>show q
 |brk=>show q
 |cont=>show q
def j6(h1:PS X st t):PSs X [st] t:=by
 intro pins s σ H D I h;show QY (thn (h1 pins s σ H D I h) λf s1 q=>?_);cases f with
 |next=>show Qy q
 |ret v=>show q
 |brk=>show q
 |cont=>show q
def Fw:TS:=λD σ H=>D.ct σ H
def om:PS X (.Continue pos) Fw:=λY Y σ H Y I h=>wpAny_Continue (σ,H,I,h)
def Inv.quiet{pins:Nd}{σ:St}{H:Hp}{s:ba}(I:Inv X pins σ H s):interactive X.env=NL:=by simp[interactive,I.ok.kind]
def CC(te:TE):TS:=λD σ H=>te σ H λY H1=>D.nx σ H1
def tW(a:PE X e te)(hs:Qn e none pos.line X.env=pure false:=by rfl):PS X (.Expr e pos) (CC te):=by intro pins s σ H D I h;show wpAny_Expr_any (thn (a pins s σ H _ I h) λv s1 ⟨x,H1,b,d,c⟩=>(σ,H1,b,c)) I.quiet hs
def HD(te:TE):TS:=λD σ H=>te σ H D.rt
def Dc(a:PE X e te):PS X (.Return (NI e) pos) (HD te):=by intro pins s σ H D I h;show wpAny_Return_some (thn (a pins s σ H _ I h) λv s1 ⟨x,H1,b,c,d⟩=>(x,σ,H1,b,c,d))
def GU(c:TT)(t u:TS):TS:=λD σ H=>c σ H λb H1=>if b=NK then t D σ H1 else u D σ H1
def De{c:bb}{a b:Nn}{tc:TT}(hc:PT X c tc)(i:PSs X a t)(j:PSs X b u):PS X (.If c a b pos) (GU tc t u):=by
 intro pins s σ H D I h;show wpAny_If (thn (hc pins s σ H _ I h) λd s1 e=>?_);let(H1,f,g):=e;cases d with
 |true=>show i pins s1 σ H1 D f g
 |false=>show j pins s1 σ H1 D f g
def yp:TS:=λY Y Y=>False
def wN:PS X st yp:=λY Y Y Y Y Y h=>h.elim
end
abbrev TG:=V->St->Hp->(St->Hp->Prop)->Prop
abbrev TGs:=NH->St->Hp->(St->Hp->Prop)->Prop
def PG(X:Cx)(a:bb)(t:TG):Prop :=
 ∀(pins:Nd) (s:ba) (σ:St) (H:Hp) (v:V) (u:as) (Q:St->Hp->Prop),Inv X pins σ H s->be v u->t v σ H Q ->
  kw (qb X.prog X.w) X.A (Qm a X.env u) (λY s'=>∃σ' H',Inv X pins σ' H' s'/\Q σ' H') X.xe s
def PGs(X:Cx)(ts:NF)(t:TGs):Prop :=
 ∀(pins:Nd) (s:ba) (σ:St) (H:Hp) (vs:NH) (us:NC) (Q:St->Hp->Prop),Inv X pins σ H s->aH vs us->t vs σ H Q ->
  kw (qb X.prog X.w) X.A (assignInOrder ((KH ts X.env).map (·.2)) us) (λY s'=>∃σ' H',Inv X pins σ' H' s'/\Q σ' H') X.xe s
abbrev EJ:=V->V->V->Hp->(Hp->Prop)->Prop
def Fk(X:Cx)(t:EJ):Prop :=
 ∀(pins:Nd) (s:ba) (σ:St) (H:Hp) (o i v:V) (ov iv u:as) (Q:Hp->Prop),Inv X pins σ H s->be o ov->be i iv->be v u->t o i v H Q ->
  kw (qb X.prog X.w) X.A (Q9 ov iv u) (λY s'=>∃H',Inv X pins σ H' s'/\Q H') X.xe s
section
variable{X:Cx}{pos:Pos}
def uV(i:Nat):TG:=λv σ H Q=>Q (σ.set i (NI v)) H
def AI{i:Nat}{x:bx}(hN:X.N.Nodup)(hi:X.N[i]?=some x)(hx:Loc X.env.scope x)(a:X.fn x=true\/X.env.scope.names.lookup x=some .local:=by walk_at"v1"):PG X (.Name x pos) (uV i):=by intro pins s σ H v u Q I r h;show wpAny_assign_Name (pz I hN hi hx r (λs' b=>(_,H,b,h)) a)
def Ip:TGs:=λvs σ H Q=>vs=[]/\Q σ H
def Gf(t:TG)(u:TGs):TGs:=λvs σ H Q=>∃v r,vs=v::r/\t v σ H λσ' H'=>u r σ' H' Q
def AH:PGs X [] Ip:=by
 intro pins s σ H vs us Q I r h
 cbv;let(e,h):=h;subst e;cases r
 w_up;show assignInOrder_nil (σ,H,I,h)
def wQ{e:bb}{es:NF}{t:TG}{u:TGs}(h1:PG X e t)(h2:PGs X es u)
  (hs:(KH (e::es) X.env).map (·.2)=Qm e X.env::(KH es X.env).map (·.2):=by rfl):PGs X (e::es) (Gf t u):=by
 intro pins s σ H vs us Q I r h;let(v,f,e1,h):=h;subst e1;cases r with
 |cons r rr =>
  rw[hs];show assignInOrder_cons (thn (h1 pins s σ H _ _ _ I r h) λY s1 a=>?_);let(b,H1,c,d):=a;show h2 pins s1 b H1 _ _ Q c rr d
def Hf(K:ca)(n:Nat)(t:TGs):TG:=λv σ H Q=>∃a xs,v=.ref a/\SqT K H a xs/\xs.length=n/\t xs σ H Q
def Dk{es:NF}{k:Nat}{t:TGs}{n:Nat}(hc:X.calm=true)(h:PGs X es t)
  (hn:(KH es X.env).length=n:=by rfl) (c:(KH es X.env).findIdx? (·.1)=none:=by rfl):PG X (.Tuple es k pos) (Hf X.K n t):=by
 intro pins s σ H v u Q I r hw
 cbv;let(a,xs,e1,d,hl,hw):=hw;subst e1;cases r;let(f,rv,ht,hz):=I.tuple d
 w_up;show assign_Tuple_tuple (I.ok.hd hc) ht (by simp[hn,<-hl,(-rv)]) c λh' hx=>?_;let g:Inv X pins σ H { s with heap:=h' }:=I.kept (t':=s.toks) λb o e=>hx b o (Jd (IX e)) e;show h pins _ σ H xs _ Q g (by simpa using rv) hw
def Hg(to a:TE)(t:EJ):TG:=λv σ H Q=>to σ H λo H1=>a σ H1 λi b=>t o i v b λc=>Q σ c
def ua{o i:bb}{to d:TE}{t:EJ}(ho:PE X o to)(hi:PE X i d)(hs:Fk X t)
  (e:∀v,Qm (.Subscript o i pos) X.env v=(do
   let ov <-KI [v] (eval o X.env)
   let iv <-KI [v,ov] (eval i X.env)
   K2 pos
   KI [v,ov,iv] (Q9 ov iv v)
   release [v,ov,iv] []):=by intro _;rfl):PG X (.Subscript o i pos) (Hg to d t):=by intro pins s σ H v u Q I r h;rw[e];show jj (zp (thn (ho pins s σ H _ I h) λov s1 a=>?_));let(x,H1,f,g,j):=a;show jj (zp (thn (hi pins s1 σ H1 _ f j) λiv s2 b=>?_));let(y,k,l,m,n):=b;show jj (Qp (jj (zp (thn (hs pins s2 σ k x y v ov iv u _ l g m r n) λY z c=>?_))));let(p,q,w):=c;show wpAny_release (σ,p,q,w)
def Cd(te:TE)(g:TG):TS:=λD σ H=>te σ H λx H1=>g x σ H1 D.nx
def tX{tg e:bb}{te:TE}{g:TG}(b:PE X e te)(hg:PG X tg g)(hs:Zo [tg] e pos.line X.env=pure false:=by rfl)(hw:Zp [tg] e X.env=pure none:=by rfl)
  (h1:(KH [tg] X.env).map (·.2)=[Qm tg X.env]:=by rfl):PS X (.Assign [tg] e pos) (Cd te g):=by intro pins s σ H D I h;show wpAny_Assign_stores (thn (b pins s σ H _ I h) λv s1 a=>?_) hs hw;let(x,H1,c,d,f):=a;rw[h1];show thn (hg pins s1 σ H1 x v _ c d f) λY s2 q=>q
def yL{i:Nat}{x:bx}{e:bb}{te:TE}{pos':Pos}(hN:X.N.Nodup)(hi:X.N[i]?=some x)(hx:Loc X.env.scope x)(b:PE X e te)(hs:Qn e (some (.Name x pos')) pos.line X.env=pure false:=by rfl)(c:X.fn x=true\/X.env.scope.names.lookup x=some .local:=by walk_at"v1") :
  PS X (.Assign [.Name x pos'] e pos) (Cd te (uV i)):=by intro pins s σ H D I h;show wpAny_Assign_Name (thn (b pins s σ H _ I h) λv s1 a=>?_) hs;let(y,H1,d,f,g):=a;show pz d hN hi hx f (λs2 j=>(_,H1,j,g)) c
end
section
variable{X:Cx}{pos:Pos}
def CA(c:TT)(tb:TS):TS:=λD σ H=>∃W:Nat->St->Hp->Prop,(∃m,W m σ H)/\∀m σ H,W m σ H ->
 c σ H λb H1=>if b=NK then ∃N:St->Hp->Prop,(∀σ' H',N σ' H'->∃a,a<m/\W a σ' H')/\tb { D with nx:=N,ct:=N,bk:=D.nx } σ H1 else D.nx σ H1
def wM{c:bb}{body:Nn}{tc:TT}{tb:TS}(q:PassesOwn (qb X.prog X.w) X.A X.env X.xe)(hc:PT X c tc)(u:PSs X body tb):PS X (.While c body [] pos) (CA tc tb):=by
 intro pins s σ H D I h;let(W,(x,y),turn):=h;show wpAny_While (codeAny_whileLoop (λn s'=>∃σ' H',Inv X pins σ' H' s'/\W n σ' H') ?_ x (σ,H,I,y));rintro n s1 ⟨d,H1,z,B⟩;show K1 q (thn (hc pins s1 d H1 _ z (turn n d H1 B)) λb s2 j=>?_);let(r,t,g):=j;cases b with
 |true =>
  let(N,hN,g):=g;rw[M0 rfl];show K1 q (thn (u pins s2 d r _ t g) λf C i=>?_);cases f with
  |next =>
   let(a,e,k,l):=i;let(m,o,p):=hN a e l;show(m,o,a,e,k,p)
  |cont =>
   let(a,e,k,l):=i;let(m,o,p):=hN a e l;show(m,o,a,e,k,p)
  |brk=>show i
  |ret v=>show i
 |false =>
  rw[M1 Ja];show Qy (d,r,t,g)
end
structure It where
 go : Nat->Hp->Prop
 yld:Nat->Hp->V->Hp->Prop
 stop:Nat->Hp->Prop
def hV(X:Cx)(pins:Nd)(H:Hp)(b:ap):Prop :=
 H b=NJ/\b≠X.env.locals/\b ∉ X.fs/\(b∈X.ex\/X.s₀.heap.objs.size<=b)/\(∀x c,X.env.cells.lookup x=NI c->c≠b)/\∀p∈X.pn++pins,p.1≠b
def Inv.fpOk{X:Cx}{pins:Nd}{σ:St}{H H':Hp}{s:ba}{b:ap}(I:Inv X pins σ H s)(a:(~~~s)<=b)(hn:H' b=NJ):hV X pins H' b:=by show(hn,JR (IY I.lt a),I.nofs a,.inr (IQ I.sz a),λx c e z=>?_,λp d z=>?_);let(v,q):=I.cell x c e;show absurd (IY q.lt (by rw[z];show a)) (JL _);show absurd (IY (IX (I.pin p d).1) (by rw[z];show a)) (JL _)
structure zD(P:q3)(w:zb)(K:ca)(tg:bb)(J:It)(fp:NE)(it:ap)(tn:Nat->bd->Prop):Prop where
 mem:it∈fp
 obj:∀i h,tn i h->∀b∈fp,∃o,h.get? b=some o/\∀v,o.data≠.cell v
 keep:∀i h h',tn i h->(∀b∈fp,∀o,h.get? b=some o->h'.get? b=some o)->tn i h'
 item:∀(X:Cx),X.prog=P->X.w=w->X.K=K->X.calm=true->∀(i:Nat) (pins:Nd) (s:ba) (σ:St) (H:Hp) (E:as->ba->Prop),Inv X pins σ H s->(∀b∈fp,hV X pins H b)->tn i s.heap->J.go i H ->
  kw (qb P w) X.A (Qo (.ref it)) (λr s1=>∃u,r=some u /\
   kw (qb P w) X.A (QA tg (.ref it) u) (λ_ s2=>∃x H',Inv X pins σ H' s2/\be x u/\J.yld i H x H'/\tn (i+1) s2.heap/\∀b∈fp,H' b=none) E s1) E s
 done:∀(X:Cx),X.prog=P->X.w=w->X.K=K->X.calm=true->∀(i:Nat) (pins:Nd) (s:ba) (σ:St) (H:Hp) (E:as->ba->Prop),Inv X pins σ H s->(∀b∈fp,hV X pins H b)->tn i s.heap->J.stop i H ->
  kw (qb P w) X.A (Qo (.ref it)) (λr s1=>r=none/\Inv X pins σ H s1) E s
 self:∀(A:Around) (i:Nat) (s:ba) (Q:as->ba->Prop) (E:as->ba->Prop),tn i s.heap->Q (.ref it) s->kw (qb P w) A (ZC (.ref it)) Q E s
abbrev TI:=St->Hp->(It->Hp->Prop)->Prop
def PIE(X:Cx)(pins:Nd)(σ:St)(tg:bb)(R:It->Hp->Prop)(a:as)(s2:ba):Prop :=
 ∃(it:ap) (fp:NE) (tn:Nat->bd->Prop) (J:It) (H':Hp),a=.ref it/\Inv X pins σ H' s2/\zD X.prog X.w X.K tg J fp it tn/\tn 0 s2.heap/\(∀b∈fp,hV X pins H' b)/\R J H'
def PI(X:Cx)(tg iter:bb)(a:TI):Prop :=
 ∀(pins:Nd) (s:ba) (σ:St) (H:Hp) (R:It->Hp->Prop),Inv X pins σ H s->a σ H R ->
  kw (qb X.prog X.w) X.A (eval iter X.env) (λv s1=>kw (qb X.prog X.w) X.A (ZC v) (PIE X pins σ tg R) X.xe s1) X.xe s
def Bo{M:Model}{A:Around}{E:as->ba->Prop}{s:ba}{tg:bb}{it:ap}{u:as}{o:Obj}{n:String}{vs:Nq}{Q:Unit->ba->Prop}(ho:s.heap.get? it=NI o)(hc:o.cls=.type n)(hd:o.data=.fields vs)
    (hn:["enumerate","zip","dict_itemiterator","dict_reverseitemiterator","odict_iterator","itertools.zip_longest","itertools.pairwise"].contains n=NL) (a:Q () s):kw M A (QA tg (.ref it) u) Q E s:=by
  unfold QA;cases tg <;> first
    |show ke a
    | (cases u <;> first
        |show ke a
        | (show jj (wpAny_load ho ?_)
           rw[hc,hd];show kw M A (if (["enumerate","zip","dict_itemiterator","dict_reverseitemiterator","odict_iterator","itertools.zip_longest","itertools.pairwise"].contains n&&vs[0]?==NI (K4 _))=NK then _ else _) Q E s;rw[M1 (by intro h;rw[hn,ML]at h;cases h)];show ke a))
def Itl(K:ca)(a:ap):It :=
 (λi H=>∃xs x,SqL K H a xs/\xs[i]?=NI x,λi H x H'=>H'=H/\∀xs,SqL K H a xs->xs[i]?=NI x,λi H=>∃xs,SqL K H a xs/\xs.length<=i)
def Itr(lo:Int)(n:Nat):It:=(λi Y=>i<n,λi H x H'=>H'=H/\x=.int (lo+i),λi Y=>n<=i)
def sM{P:q3}{w:zb}{K:ca}{tg:bb}(a it:ap):zD P w K tg (Itl K a) [it] it (λi h=>h.IsListIter it a i) where
 mem:=!1
 obj:=λi h st b f=>by
  let e:b=it:=by simpa using f
  subst e;let(o,e,c,d):=st;show(o,e,λv z=>by rw[d]at z;cases z)
 keep:=λi h h' st k=>st.at λo e=>k it (!1) o e
 item:=by
  intro X m hw hK hc i pins s σ H E I j st hg
  cbv;subst m hw hK;let(xs,x,l,hx):=hg;let(n,rv,p,hz):=I.list l;let(u,B,C):=rv.get hx;let(q,r,D,t,y,A):=j it (!1)
  w_up;show wpAny_pyNext_list_item st p.isList (x:=u) (by simpa using B) λh' g F=>?_;let G:Inv X pins σ H { s with heap:=h' }:=I.turned (t':=s.toks) (λb o f e=>(F.2 b f).trans e) q r t y A;let(o,e,c,d):=id g;show(u,rfl,Bo (s:={ s with heap:=h' }) e c d (!2) (x,H,G,C,(rfl,λys J=>by rw[I.list_inj J l];show hx),g,λb f=>(j b f).1))
 done:=by
  intro X m hw hK hc i pins s σ H E I j st hg
  cbv;subst m hw hK;let(xs,l,hx):=hg;let(n,rv,p,hz):=I.list l;let(q,r,D,t,y,A):=j it (!1)
  w_up;let hl:=-rv;show wpAny_pyNext_list_end (I.ok.hd hc) st p.isList (by simp;lia) λh' L=>(rfl,I.turned (t':=s.toks) (λb o f e=>L b o f e) q r t y A)
 self:=λY Y Y Y Y st h=>wpAny_pyIter_listiter st h
def rd{P:q3}{w:zb}{K:ca}{tg:bb}(it:ap)(lo:Int)(n:Nat):zD P w K tg (Itr lo n) [it] it (λi h=>IsRangeIter h it (lo+(i:Nat)*1) ((n:Int)-(i:Nat)) 1) where
 mem:=!1
 obj := λi h st b a=>by
  let e:b=it:=by simpa using a
  subst e;show(_,st,λv z=>by
   let q:Data.fields _=Data.cell v:=z;cases q)
 keep:=λi h h' st k=>k it (!1) _ st
 item:=by intro X f hw hK hc i pins s σ H E I d st hg;subst f hw hK;let(g,j,r,l,m,p):=d it (!1);let W:=Walks.range (prog:=X.prog) (w:=X.w) (I.ok.hd hc) it lo 1 n;show W.item i s _ _ hg st λv h' tk hv c u=>?_;let(t,rfl):=hv;let x:Inv X pins σ H { s with heap:=h',toks:=tk }:=I.turned (λb o a e=>u b o (by simpa using a) e) g j l m p;show(_,rfl,Bo (s:={ s with heap:=h',toks:=tk }) (n := "range_iterator") c rfl rfl (!2) (.int (lo+i),H,x,(t,?_),(rfl,rfl),c,λb a=>(d b a).1));rw[Int.mul_one]
 done:=by intro X f hw hK hc i pins s σ H E I d st hg;subst f hw hK;let(g,j,r,l,m,p):=d it (!1);show wpAny_pyNext_range_end (I.ok.hd hc) st (by let:n<=i:=hg;lia) λh' y=>(rfl,I.turned (t':=s.toks) (λb o a e=>y b o a e) g j l m p)
 self:=λY Y Y Y Y st h=>wpAny_pyIter_rangeiter st h
section
variable{X:Cx}{tg:bb}
def Ea(K:ca)(tl:TE):TI:=λσ H R=>tl σ H λx H1=>∃a,x=.ref a/\(∃xs,SqL K H1 a xs)/\R (Itl K a) H1
def AF{l:bb}{tl:TE}(hl:PE X l tl):PI X tg l (Ea X.K tl):=by
 intro pins s σ H R I h;show thn (hl pins s σ H _ I h) λv s1 d=>?_
 cbv;let(x,H1,c,f,g):=d;let(a,e,(xs,i),q):=g;subst e;cases f;let(j,rv,p,hz):=c.list i
 w_up;show Qb p.isList ?_;show((~~~s1),[(~~~s1)],_,_,H1,rfl,c.kept (t':=s1.toks) λb o e=>IH _ e,sM a _,(_,IW _ rfl,rfl,rfl),λb k=>?_,q);let e:b=(~~~s1):=by simpa using k
 subst e;show c.fpOk (IS _) (c.hok.fresh (IS _))
def wG{pins:Nd}{σ:St}{H:Hp}{s:ba}{R:It->Hp->Prop}{E:as->ba->Prop}{lo hi:Int}{t u v:Tok}{tk:Nat}(I:Inv X pins σ H s)(h1:-(2 ^ 62)<=lo)(h2:lo<2 ^ 62)(h3:-(2 ^ 62)<=hi)(c:hi<2 ^ 62)
  (q : R (Itr lo (hi-lo).toNat) H):kw (qb X.prog X.w) X.A (ZC (.ref s.heap.objs.size)) (PIE X pins σ tg R) E { s with heap:=s.heap.push { cls:=.type "range",data:=.fields #[.int lo t,.int hi u,.int 1 v] },toks:=tk }:=by
 show wpAny_pyIter_range (IsRange.new ..) (small_one h1 h2 h3 c) ?_;let a:Inv X pins σ H { s with heap:=s.heap.push { cls:=.type "range",data:=.fields #[.int lo t,.int hi u,.int 1 v] },toks:=tk }:=I.kept λb o e=>IH _ e;show((s.heap.push { cls:=.type "range",data:=.fields #[.int lo t,.int hi u,.int 1 v] }).objs.size,[(s.heap.push { cls:=.type "range",data:=.fields #[.int lo t,.int hi u,.int 1 v] }).objs.size],_,_,H,rfl,
  a.kept (t':=tk) λb o e=>IH _ e,rd _ lo (hi-lo).toNat,?_,λb d=>?_,q)
 let e1:lo+((0:Nat):Int)*1=lo:=!1
 let e2:(((hi-lo).toNat:Nat):Int)-((0:Nat):Int)=Builtin.Range.rangeSize lo hi 1:=by rw[rangeSize_one];split <;> lia
 show IsRangeIter _ _ (lo+((0:Nat):Int)*1) ((((hi-lo).toNat:Nat):Int)-((0:Nat):Int)) 1;rw[e1,e2];show IW _ rfl;let e:b=(s.heap.push { cls:=.type "range",data:=.fields #[.int lo t,.int hi u,.int 1 v] }).objs.size:=by simpa using d
 subst e;show a.fpOk (IS _) (a.hok.fresh (IS _))
def F5(ta:TA):TI:=λσ H R=>ta σ H λvs H1=>∃j:Int,vs=[.int j]/\-(2 ^ 62)<=j/\j<2 ^ 62/\R (Itr 0 j.toNat) H1
def t9{a:bb}{ta:TA}{p pos:Pos}(hg:Gl X "range")(d:X.mg "range" = none)(f:PA X [a] ta)(hs:kq [a] X.env=[(false,eval a X.env)]:=by rfl):PI X tg (.Call (.Name "range" p) [a] [] pos) (F5 ta):=by
 intro pins s σ H R I h;show Call_ (fR I hg d boot_range (gl (thn (f pos pins s σ H _ I h) λus s1 b=>?_) hs rfl))
 cbv;let(vs,H1,g,i,c):=b;let(j,e,c,k,q):=c;subst e
 w_up;cases i with
 |cons r rr =>
  cbv;cases rr;let(t,rfl):=r
  w_up;show call_range_1 (wG g (!0) (!0) c k (by simpa using q))
def HG(c:TI)(g:TG)(tb:TS):TS:=λD σ H=>c σ H λJ H1=>∃W:Nat->Nat->St->Hp->Prop,(∃m,W 0 m σ H1)/\∀i m σ H,W i m σ H ->
 (J.stop i H/\D.nx σ H)\/(J.go i H/\∃N:St->Hp->Prop,(∀σ' H',N σ' H'->∃b,b<m/\W (i+1) b σ' H')/\∀x H',J.yld i H x H'->g x σ H' λa d=>tb { D with nx:=N,ct:=N,bk:=D.nx } a d)
def gG(fp:NE)(h:bd):Nd:=fp.filterMap λb=>(h.get? b).map λo=>(b,o)
def d7{fp:NE}{h:bd}{b:ap}{o:Obj}(a:b∈fp)(e:h.get? b=NI o):(b,o)∈gG fp h:=Mj.mpr (b,a,by rw[e];rfl)
def lW{fp:NE}{h:bd}{p:ap×Obj}(a:p∈gG fp h):p.1∈fp/\h.get? p.1=NI p.2:=by
 let(b,c,e):=Mj.mp a;cases q:h.get? b with
 |none=>rw[q]at e;cases e
 |some o =>
  rw[q]at e;let e':(b,o)=p:=di e;subst e';show(c,q)
def Inv.pinned{pins:Nd}{σ:St}{H:Hp}{s:ba}{fp:NE}(I:Inv X pins σ H s)(c:∀b∈fp,hV X pins H b)(ho:∀b∈fp,∃o,s.heap.get? b=NI o/\∀v,o.data≠.cell v):Inv X (pins++gG fp s.heap) σ H s :=
 I.pins_of λp f=>(II.mp f).elim (λz=>I.pin p (IE _ z)) λz=>by
  cbv;let(a,e):=lW z;let(g,h,i,_):=c p.1 a;let(o,e',d):=ho p.1 a;rw[e]at e';cases e'
  w_up;show(e,g,h,i,d)
def Inv.unpinned{pins pl:Nd}{σ:St}{H:Hp}{s:ba}(I:Inv X (pins++pl) σ H s):Inv X pins σ H s:=I.pins_of λp a=>I.pin p (IE _ (IJ _ a))
def Df{iter:bb}{body:Nn}{U:TI}{g:TG}{tb:TS}{pos:Pos}(y:PassesOwn (qb X.prog X.w) X.A X.env X.xe)(hc:X.calm=true)(hi:PI X tg iter U)(hg:PG X tg g)(c:PSs X body tb)
  (hs:∀x,KC iter X.env x=pure x:=by intro _;rfl):PS X (.For tg iter body [] pos) (HG U g tb):=by
 intro pins s σ H D I h;show wpAny_For (thn (hi pins s σ H _ I h) λv s1 h1=>thn h1 λa4 s2 h2=>?_) hs;let(it,fp,tn,J,H2,e,I2,T,F,V,W,(m0,w0),turn):=h2;subst e;let j:∀{H':Hp},(∀b∈fp,H' b=NJ)->∀b∈fp,hV X pins H' b:=λhn b c=>(hn b c,(V b c).2)
 show codeAny_forLoop_any (λn s'=>∃i σ' H',Inv X pins σ' H' s'/\tn i s'.heap/\(∀b∈fp,H' b=NJ)/\W i n σ' H') ?_ m0 (0,σ,H2,I2,F,λb c=>(V b c).1,w0);rintro n Y ⟨i,k,E,Z,z,B,w3⟩;rcases turn i n k E w3 with⟨stop,qn⟩|⟨go,N,hN,step⟩
 .show K1 y (thn (T.done X rfl rfl rfl hc i pins Y k E X.xe Z (j B) z stop) λr s4 G=>?_);let(K,I4):=G;subst K;show Qy (k,E,I4,qn)
 .show K1 y (thn (T.item X rfl rfl rfl hc i pins Y k E X.xe Z (j B) z go) λr s4 L=>?_);let(u,K,h4):=L;subst K;show K1 y (thn h4 λ_ s5 M=>?_);let(x,H5,I5,r5,y5,t,O):=M;let P:=I5.pinned (j O) (T.obj _ _ t);show K1 y (thn (hg _ s5 k H5 x u _ P r5 (step x H5 y5)) λ_ s6 Q=>?_);let(R,H6,I6,q6):=Q;show K1 y (thn (c _ s6 R H6 _ I6 q6) λf S q=>?_);let again:∀{a:St}{l:Hp},Inv X (pins++gG fp s5.heap) a l S->N a l->∃m,m<n/\∃i σ' H',Inv X pins σ' H' S/\tn i S.heap/\(∀b∈fp,H' b=NJ)/\W i m σ' H':=λ{a l} p C=>by
   let(m',hm,w7):=hN a l C;show(m',hm,i+1,a,l,p.unpinned,T.keep _ _ _ t λb c o e=>(p.pin (b,o) (IE _ (IE _ (d7 c e)))).1,λb c=>?_,w7);let(o,e,d):=T.obj _ _ t b c;show(p.pin (b,o) (IE _ (IE _ (d7 c e)))).2.1
  cases f with
  |next=>let(a,l,p,C):=q;show again p C
  |cont=>let(a,l,p,C):=q;show again p C
  |brk=>let(a,l,p,q):=q;show(a,l,p.unpinned,q)
  |ret v=>let(x7,a,l,p,r7,q):=q;show(x7,a,l,p.unpinned,r7,q)
end
abbrev R2:=V->V->Hp->VK->Prop
def OpR(X:Cx)(f:as->as->Sem as)(r:R2):Prop :=
 ∀(pins:Nd) (s:ba) (σ:St) (H:Hp) (x y:V) (v u:as) (Q:VK),Inv X pins σ H s->be x v->be y u->r x y H Q ->
  kw (qb X.prog X.w) X.A (f v u) (EP X pins σ Q) X.xe s
def UnR(X:Cx)(f:as->Sem as)(r:V->Hp->VK->Prop):Prop :=
 ∀(pins:Nd) (s:ba) (σ:St) (H:Hp) (x:V) (v:as) (Q:VK),Inv X pins σ H s->be x v->r x H Q ->
  kw (qb X.prog X.w) X.A (f v) (EP X pins σ Q) X.xe s
def cZ(X:Cx)(f:as)(r:NH->Hp->VK->Prop):Prop :=
 ∀(pins:Nd) (s:ba) (σ:St) (H:Hp) (xs:NH) (us:NC) (Q:VK),Inv X pins σ H s->aH xs us->r xs H Q ->
  kw (qb X.prog X.w) X.A (call f us) (EP X pins σ Q) X.xe s
def IA(X:Cx)(r:V->Hp->(Bool->Hp->Prop)->Prop):Prop :=
 ∀(pins:Nd) (s:ba) (σ:St) (H:Hp) (x:V) (v:as) (Q:Bool->Hp->Prop),Inv X pins σ H s->be x v->r x H Q ->
  kw (qb X.prog X.w) X.A (Ze v) (TP X pins σ Q) X.xe s
def tOp(r:R2)(ta tb:TE):TE:=λσ H Q=>ta σ H λx H1=>tb σ H1 λy a=>r x y a Q
def tUn(r:V->Hp->VK->Prop)(ta:TE):TE:=λσ H Q=>ta σ H λx H1=>r x H1 Q
def rI(C:Int->Int->Prop)(g:Int->Int->V):R2:=λx y H Q=>∃i j,x=.int i/\y=.int j/\C i j/\Q (g i j) H
def rI0(g:Int->Int->V):R2:=λx y H Q=>∃i j,x=.int i/\y=.int j/\Q (g i j) H
def rU(g:Int->V):V->Hp->VK->Prop:=λx H Q=>∃i,x=.int i/\Q (g i) H
section
variable{X:Cx}{a b:bb}{ta tb:TE}{pos:Pos}
def GK(j:PE X a ta)(k:PE X b tb){pins:Nd}{s:ba}{σ:St}{H:Hp}{R:V->V->Hp->Prop}(I:Inv X pins σ H s)
  (h : ta σ H λx H1=>tb σ H1 λy c=>R x y c) {Q:as->ba->Prop}{f:as->as->Sem as}
  (l:∀v u s2 x y c,Inv X pins σ c s2->be x v->be y u->R x y c->kw (qb X.prog X.w) X.A (f v u) Q X.xe s2) :
  kw (qb X.prog X.w) X.A (eval a X.env) (λv d=>kw (qb X.prog X.w) X.A (eval b X.env) (λu e=>kw (qb X.prog X.w) X.A (f v u) Q X.xe e) X.xe d) X.xe s:=by show thn (j pins s σ H _ I h) λv s1 g=>?_;let(x,H1,m,n,o):=g;show thn (k pins s1 σ H1 _ m o) λu s2 i=>?_;let(y,c,p,q,r):=i;show l v u s2 x y c p n q r
def AJ{op:Operator}{r:R2}(ho:OpR X (KN op) r)(c:PE X a ta)(d:PE X b tb):PE X (.BinOp a op b pos) (tOp r ta tb):=by intro pins s σ H Q I h;show wpAny_BinOp (GK c d I h λv u s2 x y e f g i q=>ho pins s2 σ e x y v u Q f g i q)
def Dl{op:UnaryOp}{r:V->Hp->VK->Prop}(ho:UnR X (unaryOp op) r)(b:PE X a ta):PE X (.UnaryOp op a pos) (tUn r ta):=by intro pins s σ H Q I h;show UnaryOp_ (thn (b pins s σ H _ I h) λv s1 ⟨x,H1,c,d,e⟩=>ho pins s1 σ H1 x v Q c d e)
def opI{f:as->as->Sem as}{C:Int->Int->Prop}{g:Int->Int->Int}
  (rule:∀(i j:Int) (t u:Tok) (s:ba) (Q:as->ba->Prop) (E:as->ba->Prop),C i j->Q (.int (g i j) s.toks) { s with toks:=s.toks+1 }->kw (qb X.prog X.w) X.A (f (.int i t) (.int j u)) Q E s) :
  OpR X f (rI C λi j=>.int (g i j)):=by
 intro pins s σ H x y v u Q I a b h
 cbv;let(i,j,rfl,rfl,hc,q):=h;let(t,rfl):=a;let(t',rfl):=b
 w_up;show rule i j t t' s _ _ hc (.int (g i j),H,I.tok _,(_,rfl),q)
def Hb{f:as->as->Sem as}{g:Int->Int->Int}
  (rule:∀(i j:Int) (t u:Tok) (s:ba) (Q:as->ba->Prop) (E:as->ba->Prop),Q (.int (g i j) s.toks) { s with toks:=s.toks+1 }->kw (qb X.prog X.w) X.A (f (.int i t) (.int j u)) Q E s) :
  OpR X f (rI0 λi j=>.int (g i j)):=by
 intro pins s σ H x y v u Q I a b h
 cbv;let(i,j,rfl,rfl,q):=h;let(t,rfl):=a;let(t',rfl):=b
 w_up;show rule i j t t' s _ _ (.int (g i j),H,I.tok _,(_,rfl),q)
def EU{f:as->as->Sem as}{g:Int->Int->Bool}
  (rule:∀(i j:Int) (t u:Tok) (s:ba) (Q:as->ba->Prop) (E:as->ba->Prop),Q (.bool (g i j)) s->kw (qb X.prog X.w) X.A (f (.int i t) (.int j u)) Q E s) :
  OpR X f (rI0 λi j=>.bl (g i j)):=by
 intro pins s σ H x y v u Q I a b h
 cbv;let(i,j,rfl,rfl,q):=h;let(t,rfl):=a;let(t',rfl):=b
 w_up;show rule i j t t' s _ _ (.bl (g i j),H,I,rfl,q)
def ID(i j:Int):Prop:=0<j/\j<1073741824
def ER(i j:Int):Prop:=(-(2 ^ 64)<i/\i<2 ^ 64)\/(-(2 ^ 64)<j/\j<2 ^ 64)
def ER.ok{i j:Int}(h:ER i j):IntMulOk i j:=by
 rcases h with⟨h1,h2⟩|⟨h1,h2⟩
 show .of_left (intBits_le_64 h1 h2);show .of_right (intBits_le_64 h1 h2)
def bY:OpR X (KN .Add) (rI0 λi j=>.int (i+j)):=Hb λY Y Y Y Y Y Y q=>add_int q
def ul:OpR X (KN .Sub) (rI0 λi j=>.int (i-j)):=Hb λY Y Y Y Y Y Y q=>sub_int q
def jD:OpR X (KN .Mult) (rI ER λi j=>.int (i*j)):=opI λY Y Y Y Y Y Y hc q=>mul_int q hc.ok
def cQ:OpR X (KN .FloorDiv) (rI ID λi j=>.int (i / j)):=opI λi j Y Y Y Y Y hc q=>by
 let h1:(0:Int)<j:=hc.1;let h2:j<1073741824:=hc.2;show floordiv_int (!0) (by rw[Lx i (!0)];show q) (.inl (PyProof.noPylong_small (!0)))
def bi:OpR X (KN .Mod) (rI (λY j=>0<j) λi j=>.int (i % j)):=opI λi j Y Y Y Y Y hc q=>by
 let h1:(0:Int)<j:=hc;show mod_int' (!0) (by rw[Int.fmod_eq_emod_of_nonneg i (!0)];show q)
def unI{f:as->Sem as}{g:Int->Int}
  (rule:∀(i:Int) (t:Tok) (s:ba) (Q:as->ba->Prop) (E:as->ba->Prop),Q (.int (g i) s.toks) { s with toks:=s.toks+1 }->kw (qb X.prog X.w) X.A (f (.int i t)) Q E s) :
  UnR X f (rU λi=>.int (g i)):=by intro pins s σ H x v Q I a h;let(i,rfl,q):=h;let(t,rfl):=a;show rule i t s _ _ (.int (g i),H,I.tok _,(_,rfl),q)
def kW:UnR X (unaryOp .USub) (rU λi=>.int (-(i))):=unI λY Y Y Y Y q=>neg_int q
end
noncomputable def GW:V->V->Bool
 |.non,.non=>NK|.non,.int _=>NK|.int _,.non=>NK|.non,.bl _=>NK|.bl _,.non=>NK|.non,.str _=>NK|.str _,.non=>NK
 |.int _,.int _=>NK|.bl _,.bl _=>NK|.str _,.str _=>NK|.byt _,.byt _=>NK
 |.int _,.str _=>NK|.str _,.int _=>NK|.bl _,.str _=>NK|.str _,.bl _=>NK
 |_,_=>NL
def rEq:R2:=λx y H Q=>GW x y=NK/\Q (.bl (decide (x=y))) H
def rNe:R2:=λx y H Q=>GW x y=NK/\Q (.bl (!decide (x=y))) H
def u9{i j:Int}:decide (V.int i=V.int j)=(i==j):=by rw[Kf];simp
def zc{i j:Bool}:decide (V.bl i=V.bl j)=(i==j):=by rw[Kf];simp
def u8{i j:bx}:decide (V.str i=V.str j)=(i==j):=by rw[Kf];simp
def vc{i j:Array UInt8}:decide (V.byt i=V.byt j)=(i.toList==j.toList):=by
 rw[Kf]
 cbv;cases i;cases j
 w_up;simp
section
variable{X:Cx}{a b c:bb}{ta tb tc:TE}{pos:Pos}
def aI{pins:Nd}{σ:St}{H:Hp}{s:ba}{Q:VK}{k k':Bool}(I:Inv X pins σ H s)(q:Q (.bl k) H)(e:k=k'):EP X pins σ Q (.bool k') s:=by subst e;show(.bl k,H,I,rfl,q)
def rJ:OpR X (q4 .Eq) rEq:=by
 intro pins s σ H x y v u Q I b a h;let(hs,q):=h;cases x with
 |non =>
  cases b;cases y with
  |non=>cases a;show PySem.EqNone.eq_none_none (aI I q (!1))
  |bl j=>cases a;show PySem.EqNone.eq_none_bool (aI I q (!1))
  |int j=>let(t',rfl):=a;show PySem.EqNone.eq_none_int (aI I q (!1))
  |str j=>let(t',rfl):=a;show PySem.EqNone.eq_none_str (aI I q (!1))
  |_=>show absurd (show NL=NK from hs) Ja
 |bl i =>
  cases b;cases y with
  |non=>cases a;show PySem.EqNone.eq_bool_none (aI I q (!1))
  |bl j=>cases a;show eq_bool (aI I q zc)
  |str j=>let(t',rfl):=a;show PySem.EqMixed.eq_bool_str (aI I q (!1))
  |_=>show absurd (show NL=NK from hs) Ja
 |int i =>
  let(t,rfl):=b;cases y with
  |non=>cases a;show PySem.EqNone.eq_int_none (aI I q (!1))
  |int j=>let(t',rfl):=a;show eq_int (aI I q u9)
  |str j=>let(t',rfl):=a;show PySem.EqMixed.eq_int_str (aI I q (!1))
  |_=>show absurd (show NL=NK from hs) Ja
 |str i =>
  let(t,rfl):=b;cases y with
  |non=>cases a;show PySem.EqNone.eq_str_none (aI I q (!1))
  |bl j=>cases a;show PySem.EqMixed.eq_str_bool (aI I q (!1))
  |int j=>let(t',rfl):=a;show PySem.EqMixed.eq_str_int (aI I q (!1))
  |str j=>let(t',rfl):=a;show eq_str (aI I q u8)
  |_=>show absurd (show NL=NK from hs) Ja
 |byt i =>
  let(t,rfl):=b;cases y with
  |byt j=>let(t',rfl):=a;show PySem.W.eq_bytes (aI I q vc)
  |_=>show absurd (show NL=NK from hs) Ja
 |_=>cases y <;> show absurd (show NL=NK from hs) Ja
def wY:OpR X (q4 .NotEq) rNe:=by
 intro pins s σ H x y v u Q I b a h;let(hs,q):=h;cases x with
 |non =>
  cases b;cases y with
  |non=>cases a;show PySem.EqNone.ne_none_none (aI I q (!1))
  |bl j=>cases a;show PySem.EqNone.ne_none_bool (aI I q (!1))
  |int j=>let(t',rfl):=a;show PySem.EqNone.ne_none_int (aI I q (!1))
  |str j=>let(t',rfl):=a;show PySem.EqNone.ne_none_str (aI I q (!1))
  |_=>show absurd (show NL=NK from hs) Ja
 |bl i =>
  cases b;cases y with
  |non=>cases a;show PySem.EqNone.ne_bool_none (aI I q (!1))
  |bl j=>cases a;show ne_bool (aI I q (congrArg not zc))
  |str j=>let(t',rfl):=a;show PySem.EqMixed.ne_bool_str (aI I q (!1))
  |_=>show absurd (show NL=NK from hs) Ja
 |int i =>
  let(t,rfl):=b;cases y with
  |non=>cases a;show PySem.EqNone.ne_int_none (aI I q (!1))
  |int j=>let(t',rfl):=a;show ne_int (aI I q (congrArg not u9))
  |str j=>let(t',rfl):=a;show PySem.EqMixed.ne_int_str (aI I q (!1))
  |_=>show absurd (show NL=NK from hs) Ja
 |str i =>
  let(t,rfl):=b;cases y with
  |non=>cases a;show PySem.EqNone.ne_str_none (aI I q (!1))
  |bl j=>cases a;show PySem.EqMixed.ne_str_bool (aI I q (!1))
  |int j=>let(t',rfl):=a;show PySem.EqMixed.ne_str_int (aI I q (!1))
  |str j=>let(t',rfl):=a;show ne_str (aI I q (congrArg not u8))
  |_=>show absurd (show NL=NK from hs) Ja
 |byt i =>
  let(t,rfl):=b;cases y with
  |byt j=>let(t',rfl):=a;show PySem.W.ne_bytes (aI I q (congrArg not vc))
  |_=>show absurd (show NL=NK from hs) Ja
 |_=>cases y <;> show absurd (show NL=NK from hs) Ja
def ur:OpR X (q4 .Lt) (rI0 λi j=>.bl (decide (i<j))):=EU λY Y Y Y Y Y Y q=>lt_int q
def ou:OpR X (q4 .LtE) (rI0 λi j=>.bl (decide (i<=j))):=EU λY Y Y Y Y Y Y q=>le_int q
def AU:OpR X (q4 .Gt) (rI0 λi j=>.bl (decide (j<i))):=EU λY Y Y Y Y Y Y q=>gt_int q
def FT:OpR X (q4 .GtE) (rI0 λi j=>.bl (decide (j<=i))):=EU λY Y Y Y Y Y Y q=>ge_int q
def ut:OpR X (q4 .In) (λx y H Q=>∃i j,x=.str i/\y=.str j/\Q (.bl (!(ej j i 0 (-j) 1).isEmpty)) H):=by
 intro pins s σ H x y v u Q I a b h
 cbv;let(i,j,rfl,rfl,q):=h;let(t,rfl):=a;let(t',rfl):=b
 w_up;show in_str (aI I q rfl)
def p8:OpR X (q4 .Is) (λx y H Q=>y=.non/\Q (.bl (decide (x=.non))) H):=by
 intro pins s σ H x y v u Q I a b h
 cbv;let(rfl,q):=h;cases b
 w_up;show is_none_gen (aI I q ?_);cases x <;> first
  |(cases a;rfl)
  |(let(t,rfl):=a;rfl)
def gj:OpR X (q4 .IsNot) (λx y H Q=>y=.non/\Q (.bl (!decide (x=.non))) H):=by
 intro pins s σ H x y v u Q I a b h
 cbv;let(rfl,q):=h;cases b
 w_up;show isnot_none_gen (aI I q ?_);cases x <;> first
  |(cases a;rfl)
  |(let(t,rfl):=a;rfl)
def yR(b:bb){op:CmpOp}(h:op≠.In:=by decide)(h2:op≠.NotIn:=by decide):Qh op b=false:=by
 let e1:(op==CmpOp.In)=NL:=by cases op <;> first|rfl|show absurd rfl h
 let e2:(op==CmpOp.NotIn)=NL:=by cases op <;> first|rfl|show absurd rfl h2
 cases b <;> simp[Qh,e1,e2]
def AO{op:CmpOp}{r:R2}(ho:OpR X (q4 op) r)(c:PE X a ta)(d:PE X b tb)(e:Qh op b=NL):PE X (.Compare a [op] [b] pos) (tOp r ta tb):=by intro pins s σ H Q I h;show wpAny_Compare1 (GK c d I h λv u s2 x y f g i j q=>ho pins s2 σ f x y v u Q g i j q) e
def zP(t:TE):TT:=λσ H Q=>t σ H λx H'=>∃k,x=.bl k/\Q k H'
def tU{op:CmpOp}{r:R2}(ho:OpR X (q4 op) r)(d:PE X a ta)(f:PE X b tb)(g:Qh op b=NL):PT X (.Compare a [op] [b] pos) (zP (tOp r ta tb)):=by
 intro pins s σ H Q I h;show wpAny_isTrue_Compare1 (thn (d pins s σ H _ I h) λv s1 ⟨x,H1,i,j,l⟩=>thn (f pins s1 σ H1 _ i l) λu s2 ⟨y,m,n,o,p⟩ =>
  thn (ho pins s2 σ m x y v u _ n j o p) λc B ⟨z,q,t,w,k,e,A⟩=>?_) g
 cbv;subst e;cases w
 w_up;show KB (q,t,A)
def yr(r r':R2)(ta tb tc:TE):TE:=λσ H Q=>ta σ H λx H1=>tb σ H1 λy b=>r x y b λz a=>∃k,z=.bl k /\
 (if k=NK then tc σ a λw' c=>r' y w' c Q else Q (.bl NL) a)
def wV{op f:CmpOp}{r r':R2}(ho:OpR X (q4 op) r)(g:OpR X (q4 f) r')(n:PE X a ta)(o:PE X b tb)(hc:PE X c tc)
  (p:lastMarks [op,f] [b,c]=false:=by with_unfolding_all rfl):PE X (.Compare a [op,f] [b,c] pos) (yr r r' ta tb tc):=by
 intro pins s σ H Q I h;show Compare_chain (thn (n pins s σ H _ I h) λv s1 ⟨x,H1,q,t,w⟩=>chain_link (thn (o pins s1 σ H1 _ q w) λu s2 ⟨y,A,B,i,C⟩ =>
  thn (ho pins s2 σ A x y v u _ B t i C) λd D ⟨z,j,l,E,k,e,m⟩=>?_)) p
 cbv;subst e;cases E
 w_up;show KB ?_;cases k with
 |false=>show ite_ff (.bl NL,j,l,rfl,m)
 |true=>show ite_tt (chain_last (thn (hc pins D σ j _ l m) λw' F ⟨G,J,K,L,M⟩=>g pins F σ J y G u w' Q K i L M))
def Fj(K:ca)(x:V)(H:Hp)(k:Bool):Prop :=
 match x with
 |.non=>k=NL
 |.bl b=>k=b
 |.int i=>k=(i != 0)
 |.str y=>-y<=sizeLine/\k=((-y:Int) != 0)
 |.byt y=>y.size<=sizeLine/\k=((y.size:Int) != 0)
 |.ref p=>(∃xs,SqL K H p xs/\k=!xs.isEmpty)\/(∃xs,SqT K H p xs/\k=!xs.isEmpty)\/∃kvs,H p=NI (.dK kvs)/\k=!kvs.isEmpty
 |_=>False
def rV{κ:Type}{kvs:List (κ×V)}{vs:List (κ×as)}(r:KV kvs vs):(!vs.isEmpty)=!kvs.isEmpty:=by cases r <;> rfl
def jH{xs:NH}{a:NC}(r:aH xs a):(!a.toArray.isEmpty)=!xs.isEmpty:=by cases r <;> simp
def iQ:(sizeLine:Nat)<2 ^ 63:=by rw[z0];decide
def Cz:IA X (λx H Q=>∃k,Fj X.K x H k/\Q k H):=by
 intro pins s σ H x v Q I c h;let(k,e,q):=h;let hl:=iQ;let hs:sizeLine=16777216:=z0;cases x with
 |non =>
  cbv;cases c;let e':k=NL:=e;subst e'
  w_up;show truthy_none (H,I,q)
 |bl b =>
  cbv;cases c;let e':k=b:=e;subst e'
  w_up;show KB (H,I,q)
 |int i =>
  let(t,rfl):=c;let e':k=(i != 0):=e;subst e';show PySem.P.truthy_int (H,I,q)
 |str y =>
  cbv;let(t,rfl):=c;obtain⟨f,e'⟩:-y<=sizeLine/\k=((-y:Int) != 0):=e;subst e'
  w_up;show PySem.P.truthy_str (!0) (H,I.tok _,q)
 |byt y =>
  cbv;let(t,rfl):=c;obtain⟨f,e'⟩:y.size<=sizeLine/\k=((y.size:Int) != 0):=e;subst e'
  w_up;show PySem.W.truthy_bytes (!0) (H,I.tok _,q)
 |ref p =>
  cases c;let e':(∃xs,SqL X.K H p xs/\k=!xs.isEmpty)\/(∃xs,SqT X.K H p xs/\k=!xs.isEmpty)\/∃kvs,H p=NI (.dK kvs)/\k=!kvs.isEmpty:=e;rcases e' with⟨xs,hx,e'⟩|⟨xs,hx,e'⟩|⟨kvs,hx,e'⟩
  subst e';let(d,r,pl,hz):=I.list hx;let a:=-r;show wpAny_truthy_list pl.isList (by simp only[IV];lia) (H,I.tok _,by rw[jH r];show q);subst e';let(d,r,pl,hz):=I.tuple hx;let a:=-r;show truthy_tuple pl (by simp only[IV];lia) (H,I.tok _,by rw[jH r];show q);subst e';obtain⟨hz,g,vs,r,m⟩:-kvs<=sizeLine/\(p==cf)=NL/\∃vs,KV kvs vs/\s.heap.DictOf (cR X.prog X.w) p vs:=I.hok p _ hx;let a:-kvs=-vs:=Paired.length r;show wpAny_truthy_dict g m (!0) (H,I.tok _,by rw[rV r];show q)
 |_=>show(show False from e).elim
def wL(c:PE X a ta)(d:∀b,QF a X.env b=(do let v <-b;K2 a.pos;KI [v] (Ze v))) :
  PT X a (λσ H Q=>ta σ H λx H'=>∃k,Fj X.K x H' k/\Q k H'):=by intro pins s σ H Q I h;show isTrue_plain (thn (c pins s σ H _ I h) λv s1 ⟨x,H1,e,f,g⟩=>Cz pins s1 σ H1 x v Q e f g) (d _)
def d5:OpR X (KN .Add) (λx y H Q=>∃i j,x=.str i/\y=.str j/\i.length+-j<=sizeLine/\Q (.str (i++j)) H):=by
 intro pins s σ H x y v u Q I a b h
 cbv;let(i,j,rfl,rfl,hz,q):=h;let(t,rfl):=a;let(t',rfl):=b
 w_up;show add_str (λt' tk=>(.str (i++j),H,I.tok _,(_,rfl),q)) hz
def fw{x:V}{us:NC}(r:aH [x] us):∃u,us=[u]/\be x u:=by
 cases r with
 |cons a b=>cases b;show(_,rfl,a)
def sJ{x y:V}{us:NC}(r:aH [x,y] us):∃u w',us=[u,w']/\be x u/\be y w':=by
 cases r with
 |cons a b =>
  cases b with
  |cons c d=>cases d;show(_,_,rfl,a,c)
def vB(hc:X.calm=NK):cZ X (.builtin "min") (λxs H Q=>∃i j,xs=[.int i,.int j]/\Q (.int (if j<i then j else i)) H):=by
 intro pins s σ H xs us Q I r h;let(i,j,rfl,q):=h;let(u,w',rfl,(t,rfl),(t',rfl)):=sJ r;show min_two_ints (I.ok.hd hc) λh' tk k=>(_,H,I.kept k,?_,q)
 by_cases hj:j<i;rw[M0 hj,M0 hj];show(_,rfl);rw[M1 hj,M1 hj];show(_,rfl)
def mQ:cZ X (.type "str") (λxs H Q=>∃i,xs=[.int i]/\i.natAbs.log2<1920/\Q (.str (toString i)) H):=by intro pins s σ H xs us Q I r h;let(i,rfl,hz,q):=h;let(u,rfl,t,rfl):=fw r;show PySem.P.str_of_int hz (.str _,H,I.tok _,(_,rfl),q)
end
structure B9(h:bd)(x dx C:ap)(mA:bx->Nm):Prop where
 obj:h.get? x=some (hE C dx)
 ns : h.Ns1 dx mA
 ne : dx≠x
set_option tactic.hygienic true in
def uH{h:bd}{dx:ap}{mA:bx->Nm}(n:h.Ns1 dx mA):∃od,h.get? dx=NI od/\∀name,ry name od=NI (mA name):=by
 let(o,es,ep,ho,hd,hk,_,c):=n;show(o,ho,λname=>?_);let e:=c name;unfold nsFind findBy at e;rw[<-Array.find?_toList]at e;unfold ry;rw[hd];dsimp only;split;rename_i y q;rw[q]at e;show congrArg NI e;rename_i q;rw[q]at e;let a:es.toList.any (·.refKey)=NL:=by rw[List.any_eq_false];intro y d;let(z,t,b):=hk y (L2.mp d);simp[DictEntry.refKey,b]
 let f:¬es.toList.any (·.refKey)=NK:=by rw[a];show Ja
 rw[M1 f];show congrArg NI e
def B9.look{h:bd}{x dx C:ap}{mA:bx->Nm}(I:B9 h x dx C mA):∃od,PySem.W.InstAt h x (hE C dx) C (NI od)/\∀name,ry name od=NI (mA name) :=
 let ⟨od,ho,hl⟩:=uH I.ns
 (od,(I.obj,rfl,rfl,ho),hl)
section
variable{prog:q3}{w:zb}{A:Around}{E:as->ba->Prop}{s:ba}{K:ca}{x dx C f:ap}{mA:bx->Nm}{name:bx}{v:as}
def Bp{a:Bool}{Q:as->ba->Prop}(X:K.In s.heap)(I:B9 s.heap x dx C mA)(hg:mj K C name=true)(c:ol K C=true)
  (d:et K (.ref C) name=some none) (hv:mA name=some v) (b:Ma v=true) (h:Q v { s with toks:=s.toks+1 }) :
  kw (qb prog w) A (getAttr (.ref x) name a) Q E s:=by let(od,J,hl):=I.look;show PySem.W.get_value X J (sh hg).1 (PySem.W.findObj_own c d rfl (by rw[hl,hv])) b h
def xH{pl:Sem Bool}{Q:as×NC->ba->Prop}(X:K.In s.heap)(I:B9 s.heap x dx C mA)(hg:mj K C name=NK)
  (a:et K (.ref C) name=NI (NI (.ref f))) (ht:tf K (.ref f)=NK) (hv:mA name=NJ) (h:Q (.ref f,[.ref x]) s) :
  kw (qb prog w) A (Qu (.ref x) name pl) Q E s:=by let(od,J,hl):=I.look;show PySem.W.method_fn X J (sh hg).1 (sh hg).2 a (beq_iff_eq.mp ht) (by show(ry name od).map (·.isSome)=NI NL;rw[hl,hv];rfl) h
def zZ{ns:ND}{Q:Unit->ba->Prop}(X:K.In s.heap)(I:B9 s.heap x dx C mA)
  (hs:et K (.ref C) "__setattr__" = some (some (.builtin "object.__setattr__"))) (i:sT K C=true) (ht:x2 K C name=some none) (j:ol K C=true)
  (hw:LJ mA ns) (hsz:ns.length<=sizeLine)
  (h : ∀h',B9 h' x dx C (λy=>if y=name then some v else mA y)->hY dx s.heap h'->Q () { s with heap:=h',toks:=s.toks+2 }) :
  kw (qb prog w) A (setAttr (.ref x) name v) Q E s:=by let(od,J,hl):=I.look;show PySem.W.set_plain X J hs (PySem.W.osa_open (s:={ s with toks:=s.toks+1 }) (r:=NJ) X J i ht λb=>?_);let(cd,hc,d):=PySem.W.any_some j;let hx:s.heap.get? x=NI (.ref C,NI dx,.plain,#[]):=I.obj;show jj (ke (jj (jj (wpAny_loadPart hx (jj (PySem.W.Looks.here (s:={ s with toks:=s.toks+1 }) (PySem.W.looks_clsIn X hc) ?_))))));rw[d];show ke (a:=NI dx) (jj (ke (jj ?_)));show wpAny_nsSet1 (s:={ s with toks:=s.toks+1 }) I.ns λh' hn2 c=>?_;let(m,k,l,e,f,g):=hn2.count (PySem.Within.cons name v hw);show jj (wpAny_lookBehind e (by rw[f];show pastItsLine_dict (IQ g (by rw[Jf];lia))) ?_);show ke (h _ ((c.2 _ (Ne.symm I.ne)).trans I.obj,hn2,I.ne) c)
def xm{R:Q2->ba->Prop}{vs:NC}{a:Nh}(X:K.In s.heap)(b:pu K C=true)
  (hi:et K (.ref C) "__init__" = some (some (.ref f))) (c:PySem.W.typeIn K (.ref f)=some (.type "function"))
  (h : KM (qb prog w) (A.under (.builtin "type.__call__" (.ref C::vs,a))) (.call (.ref f) (.ref (s.heap.objs.size+1)::vs,a)) (PySem.W.InitBack (s.heap.objs.size+1) R)
   { s with heap:=(s.heap.push eH).push (hE C s.heap.objs.size) }) :
  KM (qb prog w) A (.call (.ref C) (vs,a)) R s:=by let(e,g,d,t,os):=s;show PySem.W.make_core (PySem.W.makes_of X b) (PySem.W.looks_findIn X hi) (λself=>PySem.W.bind_fn X self c) (.inl rfl) h
end
def m9(f:bx)(v:V):Nj->Nj
 |[]=>[(f,v)]
 |(g,x)::r=>if g=f then (g,v)::r else (g,x)::m9 f v r
theorem iP(f g:bx)(v:V):∀fs:Nj,(m9 f v fs).lookup g=if g=f then NI v else fs.lookup g
 |[]=>by
  show fx g [(f,v)]=_;by_cases h:g=f;let a:(g==f)=NK:=beq_iff_eq.mpr h;simp only[fx,a,M0 h];let a:(g==f)=NL:=beq_eq_false_iff_ne.mpr h;simp only[fx,a,M1 h]
 |(k,x)::r=>by
  let b:=iP f g v r;rw[show m9 f v ((k,x)::r)=(if k=f then (k,v)::r else (k,x)::m9 f v r) from rfl];by_cases hk:k=f;rw[M0 hk];by_cases h:g=k;let a:(g==k)=NK:=beq_iff_eq.mpr h;simp only[fx,a,M0 (h.trans hk)];let a:(g==k)=NL:=beq_eq_false_iff_ne.mpr h;simp only[fx,a,M1 (λe:g=f=>h (e.trans hk.symm))];rw[M1 hk];by_cases h:g=k;let a:(g==k)=NK:=beq_iff_eq.mpr h;simp only[fx,a,M1 (λe:g=f=>hk (h.symm.trans e))];let a:(g==k)=NL:=beq_eq_false_iff_ne.mpr h;simp only[fx,a];show b
theorem iS(f:bx)(v:V):∀fs:Nj,f∈(m9 f v fs).map (·.1)/\∀g,g∈fs.map (·.1)->g∈(m9 f v fs).map (·.1)
 |[]=>(by simp[m9],λg h=>by simp at h)
 |(k,x)::r=>by
  let(i1,i2):=iS f v r;rw[show m9 f v ((k,x)::r)=(if k=f then (k,v)::r else (k,x)::m9 f v r) from rfl];by_cases hk:k=f;rw[M0 hk];subst hk;show(!1,λg h=>by simpa using h);rw[M1 hk];show(?_,λg h=>?_);rw[IU];show IM _ i1;rw[IU]at h ⊢;rcases IR.mp h with e|e;show IR.mpr (.inl e);show IM _ (i2 g e)
theorem iR(f:bx)(v:V):∀fs:Nj,(m9 f v fs).length<=-fs+1
 |[]=>by simp[m9]
 |(k,x)::r=>by
  let a:=iR f v r;rw[show m9 f v ((k,x)::r)=(if k=f then (k,v)::r else (k,x)::m9 f v r) from rfl];by_cases hk:k=f;rw[M0 hk,Jf,Jf];lia;rw[M1 hk,Jf,Jf];lia
def vV.some_of{v:V}{o:Nm}(r:vV (NI v) o):∃u,o=NI u/\be v u:=by
 cases o with
 |none=>show(show False from r).elim
 |some u=>show(u,rfl,r)
def vV.none_of{o:Nm}(r:vV NJ o):o=NJ:=by
 cases o with
 |none=>rfl
 |some u=>show(show False from r).elim
def uT{v:V}{u:as}(r:be v u):Ma u=NK:=by
 cases v with
 |non=>cases (show u=eC from r);rfl
 |bl b=>cases (show u=lv b from r);rfl
 |int i=>let(t,e):=(show ∃t,u=eh i t from r);cases e;rfl
 |str x=>let(t,e):=(show ∃t,u=xj x t from r);cases e;rfl
 |byt b=>let(t,e):=(show ∃t,u=MV b t from r);cases e;rfl
 |flt b=>let(t,e):=(show ∃t,u=MU b t from r);cases e;rfl
 |ref a=>cases (show u=da a from r);rfl
 |ty n=>cases (show u=nc n from r);rfl
section
variable{P:q3}{w:zb}{H:Hp}{h:bd}{a C dx:ap}{fs:Nj}
def oO(hok:HOk P w H h)(e:H a=NI (.ins C dx fs)):∃mA,B9 h a dx C mA/\(∀f,vV (fs.lookup f) (mA f))/\LJ mA (fs.map (·.1))/\fs.length<=1000/\H dx=NI (.own a):=by
 let(d,z,ne,ob,mA,n,r,q):=(show dB P w H h a (.ins C dx fs) from hok a _ e)
 show(mA,(ob,n,ne),r,q,z,d)
end
structure Cls(K:ca)(C:ap):Prop where
 pg : mj K C Str.empty=true
 hd : ol K C=true
 po : sT K C=true
 sa : et K (.ref C) "__setattr__" = some (some (.builtin "object.__setattr__"))
def Cls.get{K:ca}{C:ap}(c:Cls K C)(f:bx):mj K C f=NK:=c.pg
def cN(K:ca)(C:ap)(f:bx):Prop:=et K (.ref C) f=NI NJ
def cN.taker{K:ca}{C:ap}{f:bx}(n:cN K C f):x2 K C f=NI NJ:=by unfold x2;rw[show et K (.ref C) f=NI NJ from n];rfl
structure EK(K:ca)(C:ap)(m:bx)(f:ap):Prop where
 at_:et K (.ref C) m=some (some (.ref f))
 fn : tf K (.ref f)=true
 kp : eE K (.ref f)=true
section
variable{X:Cx}{pins:Nd}{σ:St}{H:Hp}{s:ba}{a C dx:ap}{fs:Nj}{f:bx}{v:V}{A:Around}{E:as->ba->Prop}
def rY{b:Bool}{Q:as->ba->Prop}(I:Inv X pins σ H s)(e:H a=NI (.ins C dx fs))(c:Cls X.K C)(n:cN X.K C f)(l:fs.lookup f=NI v)
  (h : ∀u s',Inv X pins σ H s'->be v u->Q u s'):kw (qb X.prog X.w) A (getAttr (.ref a) f b) Q E s:=by let(mA,O,r,_,_,_):=oO I.hok e;let(u,g,d):=vV.some_of (v:=v) (o:=mA f) (by rw[<-l];show r f);show Bp I.kIn O (c.get f) c.hd n g (uT d) (h u _ (I.tok _) d)
def jJ{m:bx}{g:ap}{pl:Sem Bool}{Q:as×NC->ba->Prop}(I:Inv X pins σ H s)(e:H a=NI (.ins C dx fs))(c:Cls X.K C)(k:EK X.K C m g)(l:fs.lookup m=NJ)
  (h : Q (.ref g,[.ref a]) s):kw (qb X.prog X.w) A (Qu (.ref a) m pl) Q E s:=by let(mA,O,r,_,_,_):=oO I.hok e;let hn:mA m=NJ:=vV.none_of (by rw[<-l];show r m);show xH I.kIn O (c.get m) k.at_ k.fn hn h
def rq{y:V}{u:as}{Q:Unit->ba->Prop}(I:Inv X pins σ H s)(e:H a=NI (.ins C dx fs))(c:Cls X.K C)(n:cN X.K C f)(hl:-fs<1000)(j:be y u)
  (h : ∀s',Inv X pins σ (upd H a (.ins C dx (m9 f y fs))) s'->Q () s'):kw (qb X.prog X.w) A (setAttr (.ref a) f u) Q E s:=by
 let(mA,O,r,i,_,ho):=oO I.hok e;let hz:(fs.map (·.1)).length<=sizeLine:=by rw[IF,z0];lia
 show zZ I.kIn O c.sa c.po n.taker c.hd i hz λh' d k=>h _ ?_;let hd:∃o,h'.get? dx=NI o:=let ⟨o,_,_,e',_⟩:=d.ns;(o,e')
 show I.write (x:=a) (e:=dx) (by rw[e];show True.intro) (.inr ho) (λb q l z=>(k.2 b l).trans z) hd ?_;show(by rw[al O.ne];show ho,?_,O.ne,d.obj,_,d.ns,λg=>?_,λg hg=>?_);let:=iR f y fs;lia;show vV ((m9 f y fs).lookup g) (if g=f then NI u else mA g);rw[iP];by_cases q:g=f;rw[M0 q,M0 q];show j;rw[M1 q,M1 q];show r g;by_cases q:g=f;rw[q];show(iS f y fs).1;show(iS f y fs).2 g (i g λz=>hg ?_);show(if g=f then NI u else mA g)=NJ;rw[M1 q];show z
def Inv.made(I:Inv X pins σ H s):Inv X pins σ (upd (upd H s.heap.objs.size (.own (s.heap.objs.size+1))) (s.heap.objs.size+1) (.ins C s.heap.objs.size []))
  { s with heap:=(s.heap.push eH).push (hE C s.heap.objs.size) }:=by
 let e1:(s.heap.push eH).get? (~~~s)=NI eH:=IW s.heap rfl;let e2:((s.heap.push eH).push (hE C (~~~s))).get? ((~~~s)+1)=NI (hE C (~~~s)):=by let:=IW (s.heap.push eH) (o:=hE C (~~~s)) rfl;rwa [JA]at this
 let e3:(s.heap.push eH).Ns (~~~s) (λY=>NJ):=(eH,#[],_,e1,rfl,(λe c=>absurd c (!1)),λY=>rfl)
 let d:=I.laid (a:=(~~~s)) (o:=.own ((~~~s)+1)) (h':=s.heap.push eH) (t':=s.toks) (λb u q=>IH _ q) (IS _) (_,e1);show d.laid (a:=(~~~s)+1) (o:=.ins C (~~~s) []) (t':=s.toks) (λb u q=>IH _ q) (Hs (JA _ _)) ?_;let ne:(~~~s)≠(~~~s)+1:=Jd (JO _);show(by rw[al ne,aq],Jb _,ne,e2,λY=>NJ,(Heap.Ns1.of_empty e3).at λo q=>IH _ q,λY=>True.intro,λy f=>absurd rfl f)
def B5{prog:q3}{w:zb}{env:Env}{e:bb}{f:bx}{pos:Pos}{s:ba}{Q:as->ba->Prop}(b:z5 e f env (eval e env)=eval e env)
  (h : kw (qb prog w) A (eval e env) (λo a=>kw (qb prog w) A (getAttr o f NK) Q E a) E s):kw (qb prog w) A (eval (.Attribute e f pos) env) Q E s :=
 Attribute_any_ h (by rw[arm_eval_Attribute,b])
end
def Ft(K:ca)(ta:TE)(f:bx):TE:=λσ H Q=>ta σ H λx H1=>∃a C dx fs v,x=.ref a/\H1 a=NI (.ins C dx fs)/\Cls K C/\cN K C f/\fs.lookup f=NI v/\Q v H1
def GX(K:ca)(ta tv:TE)(f:bx):TS:=λD σ H=>tv σ H λy H1=>ta σ H1 λx b=>∃a C dx fs,x=.ref a/\b a=NI (.ins C dx fs)/\Cls K C/\cN K C f/\fs.length<1000 /\
 D.nx σ (upd b a (.ins C dx (m9 f y fs)))
section
variable{X:Cx}{o e value:bb}{f:bx}{pos pos':Pos}{ta tv:TE}
def ue(d:PE X e ta)(g:z5 e f X.env (eval e X.env)=eval e X.env):PE X (.Attribute e f pos) (Ft X.K ta f):=by
 intro pins s σ H Q I h;show B5 g (thn (d pins s σ H _ I h) λu s1 b=>?_)
 cbv;let(x,H1,i,j,a,C,dx,fs,v,ex,k,c,n,l,q):=b;subst ex;obtain rfl:u=da a:=j
 w_up;show rY i k c n l λp s2 m o=>(v,H1,m,o,q)
def Dg(e:PE X o ta)(hv:PE X value tv)(hs:Qn value (NI (.Attribute o f pos')) pos.line X.env=pure NL):PS X (.Assign [.Attribute o f pos'] value pos) (GX X.K ta tv f):=by
 intro pins s σ H D I h;show plainObj_wpAny_Assign_Attribute (thn (hv pins s σ H _ I h) λu s1 b=>?_) hs;let(y,H1,g,i,q):=b;show thn (e pins s1 σ H1 _ g q) λov s2 d=>?_
 cbv;let(x,t,j,k,a,C,dx,fs,ex,m,c,n,l,p):=d;subst ex;obtain rfl:ov=da a:=k
 w_up;show rq j m c n l i λv r=>(σ,_,r,p)
end
structure b9(k:Nat)(A:Around):Prop where
 hd : A.handled=none
 dp : A.depth+3*k+5<recursionLimit
 un : A.units+16*k+200<KD
def b9.mono{j k:Nat}{A:Around}(r:b9 k A)(h:j<=k):b9 j A:=(r.hd,by let:=r.dp;lia,by let:=r.un;lia)
theorem b9.deeper{k:Nat}{A:Around}(r:b9 (k+1) A)(env:Env):b9 k (A.deeper env) :=
 (r.hd,by let:=r.dp;show A.depth+1+3*k+5<_;lia,by let:=r.un;show A.units+3+16*k+200<_;lia)
theorem b9.in1{k:Nat}{A:Around}(r:b9 (k+1) A):b9 k A.in1 :=
 (r.hd,by let:=r.dp;show A.depth+3*k+5<_;lia,by let:=r.un;show A.units+1+16*k+200<_;lia)
def rR{A:Around}{C:ap}{us:NC}{a:Nh}:(A.under (.builtin "type.__call__" (.ref C::us,a))).depth=A.depth+1:=by first|rfl|simp[Around.under,Code.weight,Code.isCreation,Code.isGuard,Code.isCaller,Code.frames,Code.isFrame,guardIds]
def rQ{A:Around}{C:ap}{us:NC}{a:Nh}:(A.under (.builtin "type.__call__" (.ref C::us,a))).units=A.units+1:=by first|rfl|simp[Around.under,Code.cUnits,Code.frames,Code.isFrame]
def b9.make{k:Nat}{A:Around}(r:b9 (k+1) A)(C:ap)(us:NC)(a:Nh):b9 k (A.under (.builtin "type.__call__" (.ref C::us,a))) :=
 (r.hd,by let:=r.dp;rw[rR];lia,by let:=r.un;rw[rQ];lia)
theorem b9.depth{k:Nat}{A:Around}(r:b9 k A):A.depth<recursionLimit:=by let:=r.dp;lia
theorem b9.units{k:Nat}{A:Around}(r:b9 k A):A.units+64<KD:=by let:=r.un;lia
def wb:TA:=λY H Q=>Q [] H
def nj(ta:TE)(tr:TA):TA:=λσ H Q=>ta σ H λx H1=>tr σ H1 λxs a=>Q (x::xs) a
section
variable{X:Cx}{e:bb}{es:NF}{te:TE}{t:TA}{pos:Pos}
def fM:PA X [] wb:=λY Y Y Y H Q I h=>Calls.spliced_nil ([],H,I,.nil,h)
def cB(b:PE X e te)(c:PA X es t)(hs:kq (e::es) X.env=(false,eval e X.env)::kq es X.env:=by rfl):PA X (e::es) (nj te t):=by intro pos pins s σ H Q I h;rw[hs];show kw _ _ (spliced ((NL,eval e X.env)::ze pos (kq es X.env))) _ _ s;show Calls.spliced_cons (thn (b pins s σ H _ I h) λu s1 a=>?_);let(x,H1,d,f,g):=a;show thn (c pos pins s1 σ H1 _ d g) λus s2 ⟨xs,i,j,k,l⟩=>(x::xs,i,j,.cons f k,l)
def HB(t:TA):TE:=λσ H Q=>t σ H λxs H1=>-xs<=sizeLine/\∀p,H1 p=NJ->Q (.ref p) (upd H1 p (.tup xs))
def HF(t:TA):TE:=λσ H Q=>t σ H λxs H1=>-xs<=sizeLine/\∀p,H1 p=NJ->Q (.ref p) (upd H1 p (.lst xs))
def yM{x1}(h:PA X es t):PE X (.Tuple es x1 pos) (HB t):=by intro pins s σ H Q I d;show wpAny_Tuple_spliced (thn (h pos pins s σ H _ I d) λus s1 a=>?_);let(xs,H1,c,r,z,q):=a;show(by rw[<- -r];show z,?_);let f:H1 (~~~s1)=NJ:=c.hok.fresh (IS _);show(.ref (~~~s1),upd H1 (~~~s1) (.tup xs),c.laid (t':=s1.toks) (λb u e=>IH _ e) (IS _) ?_,rfl,q _ f);show(z,us,r,(_,IW _ rfl,rfl,(_,rfl),rfl))
def yP(h:PA X es t):PE X (.List es pos) (HF t):=by intro pins s σ H Q I d;show wpAny_List_spliced (thn (h pos pins s σ H _ I d) λus s1 a=>?_);let(xs,H1,c,r,z,q):=a;show(by rw[<- -r];show z,?_);let f:H1 (~~~s1)=NJ:=c.hok.fresh (IS _);show(.ref (~~~s1),upd H1 (~~~s1) (.lst xs),c.laid (t':=s1.toks) (λb u e=>IH _ e) (IS _) ?_,rfl,q _ f);show(z,us,0,r,IW _ rfl)
end
abbrev Sp:=NH->Hp->VK->XK->Prop
abbrev CXT:=Nu->Hp->ba->XK->as->ba->Prop
structure sy(P:q3)(w:zb)(K:ca)(mg:bx->Nm)(base:bd)(A:Around)(outer:Nu)(s:ba)(H:Hp):Prop where
 frames:A.frames=some outer
 mod:Mod K mg base
 bs : ∀b o,base.get? b=some o->s.heap.get? b=some o/\H b=none
 bsz:base.objs.size<=s.heap.objs.size
 funs:s.heap.FunFrames base outer
 frf:∀b∈frs outer,H b=none
 hok:HOk P w H s.heap
 bare:Qx s.gens
 tab:zE K H
def CE(outer:Nu)(P:q3)(w:zb)(H:Hp)(s:ba)(Q:VK)(u:as)(s':ba):Prop :=
 ∃v H',s'.os=s.os/\Qx s'.gens/\Un (frs outer) [] H H' s.heap s'.heap/\HOk P w H' s'.heap/\be v u/\Q v H'
def CR(CX:CXT)(outer:Nu)(P:q3)(w:zb)(H:Hp)(s:ba)(Q:VK)(E:XK)(r:Q2)(s':ba):Prop :=
 match r with
 |.ok (.ret u)=>CE outer P w H s Q u s'
 |.ok _=>False
 |.error e=>CX outer H s E e s'
structure a9(P:q3)(w:zb)(K:ca)(mg:bx->Nm)(base:bd)(CX:CXT)(k:Nat)(f:ap)(fd:kN)(ps:ND)(sp:Sp):Prop where
 len:∀vs H Q E,sp vs H Q E->vs.length=ps.length
 run:∀(A:Around) (outer:Nu) (s:ba) (H:Hp) (args:Args) (us:NC) (vs:NH) (Q:VK) (E:XK),b9 k A->sy P w K mg base A outer s H->QJ s fd args (ps.zip us)->aH vs us->sp vs H Q E ->
  KM (qb P w) A (.call (.ref f) args) (CR CX outer P w H s Q E) s
theorem a9.mono{P:q3}{w:zb}{K:ca}{mg:bx->Nm}{base:bd}{CX:CXT}{j k:Nat}{f:ap}{fd:kN}{ps:ND}{sp:Sp}(F:a9 P w K mg base CX j f fd ps sp)(h:j<=k) :
  a9 P w K mg base CX k f fd ps sp:=(F.len,λA outer s H args us vs Q E a=>F.run A outer s H args us vs Q E (a.mono h))
def sy.make{P:q3}{w:zb}{K:ca}{mg:bx->Nm}{base:bd}{A:Around}{outer:Nu}{s:ba}{H:Hp}(e:sy P w K mg base A outer s H)(C:ap)(us:NC)(a:Nh) :
  sy P w K mg base (A.under (.builtin "type.__call__" (.ref C::us,a))) outer s H:=(by first|show e.frames|(simpa[Around.under,Code.envs,Code.isFrame,pushEnvs] using e.frames),e.mod,e.bs,e.bsz,e.funs,e.frf,e.hok,e.bare,e.tab)
theorem sy.in1{P:q3}{w:zb}{K:ca}{mg:bx->Nm}{base:bd}{A:Around}{outer:Nu}{s:ba}{H:Hp}(e:sy P w K mg base A outer s H) :
  sy P w K mg base A.in1 outer s H:=(e.frames,e.mod,e.bs,e.bsz,e.funs,e.frf,e.hok,e.bare,e.tab)
section
variable{X:Cx}{pins:Nd}{σ:St}{H:Hp}{s s':ba}
def Inv.env0(I:Inv X pins σ H s):sy X.prog X.w X.K X.mg X.base X.A X.stack s H :=
 (I.ok.frames,I.ok.mod,I.bs,IQ I.ok.bsz I.sz,I.stack,I.stkFree,I.hok,I.bare,λT q h=>I.base.tbls T q (I.ok.tab T q h))
def Inv.after{Q:VK}{u:as}(I:Inv X pins σ H s)(h:CE X.stack X.prog X.w H s Q u s'):EP X pins σ Q u s':=by
 cbv;let(v,H',os,bare,un,hok,r,q):=h;let(c,g,d,t,a):=s';obtain rfl:a=s.os:=os
 w_up;show(v,H',I.call (h':=c) (g':=g) (d':=d) (t':=t) (ch:=[]) un hok bare (λb z=>absurd z (!1)),r,q)
end
def nq(sp:Sp)(dvs:NH)(E:XK)(t:TA):TE:=λσ H Q=>t σ H λvs H1=>sp (vs++dvs) H1 Q E
def sQ(C:ap)(m:bx)(sp:Sp)(dvs:NH)(E:XK)(ta:TE)(t:TA):TE:=λσ H Q=>ta σ H λx H1=>∃a dx fs,x=.ref a/\H1 a=NI (.ins C dx fs)/\fs.lookup m=NJ /\
 t σ H1 λvs b=>sp (x::(vs++dvs)) b Q E
def zR(C:ap)(sp:Sp)(dvs:NH)(E:XK)(t:TA):TE:=λσ H Q=>t σ H λvs H1=>∀x dx,H1 x=NJ->H1 dx=NJ->dx≠x ->
 sp (.ref x::(vs++dvs)) (upd (upd H1 dx (.own x)) x (.ins C dx [])) (λv a=>v=.non/\Q (.ref x) a) E
def cV(K:ca)(fd:kN)(ps:ND)(ds:NC):Prop :=
 ∀(s:ba) (us:NC),K.In s.heap->(us++ds).length=-ps->QJ s fd (us,[]) (ps.zip (us++ds))
def cV.all{K:ca}{fd:kN}{ps:ND}(h:∀us:NC,-us=-ps->Qj fd (us,[])=pure (ps.zip us)):cV K fd ps []:=λs us Y hl=>by
 rw[Jh]at hl ⊢;show .of_eq (h us hl)
def ja(CX:CXT)(X:Cx)(E:XK):Prop:=∀(pins:Nd) (σ:St) (H:Hp) (s:ba) (e:as) (s':ba),Inv X pins σ H s->CX X.stack H s E e s'->X.xe e s'
section
variable{X:Cx}{CX:CXT}{k:Nat}{f C:ap}{fd:kN}{ps:ND}{sp:Sp}{dvs:NH}{ds:NC}{E:XK}{x m:bx}{p pos apos:Pos}{e o:bb}{es:NF}{ta:TE}{t:TA}
def tI{pins:Nd}{σ:St}{H:Hp}{s:ba}{Q:VK}{us:NC}{vs:NH}(F:a9 X.prog X.w X.K X.mg X.base CX k f fd ps sp)(c:b9 k X.A)(d:cV X.K fd ps ds)(hd:aH dvs ds)(hx:ja CX X E)
  (I : Inv X pins σ H s) (r:aH vs us) (h:sp (vs++dvs) H Q E):kw (qb X.prog X.w) X.A (call (.ref f) us) (EP X pins σ Q) X.xe s:=by
 let b:aH (vs++dvs) (us++ds):=r.append hd;let hl:(us++ds).length=-ps:=by rw[<- -b];show F.len _ _ _ _ h
 show Zd (Qw (F.run X.A X.stack s H (us,[]) (us++ds) (vs++dvs) Q E c I.env0 (d s us I.kIn hl) b h) λr s' a=>?_);cases r with
 |error e=>show hx pins σ H s e s' I a
 |ok fl =>
  cases fl with
  |ret u=>show I.after a
  |next=>show False.elim a
  |brk=>show False.elim a
  |cont=>show False.elim a
def AQ(F:a9 X.prog X.w X.K X.mg X.base CX k f fd ps sp)(g:b9 k X.A)(hg:Gl X x)(i:X.mg x=some (.ref f))(hk:eE X.K (.ref f)=true)(j:cV X.K fd ps ds)(hd:aH dvs ds)(hx:ja CX X E)
  (l:PA X (e::es) t) (a:(x==("__debug__" : bx))=false:=by decide) (m:kq (e::es) X.env=(false,eval e X.env)::kq es X.env:=by rfl) (b:(ze pos (kq es X.env)).any (·.1)=false:=by rfl) :
  PE X (.Call (.Name x p) (e::es) [] pos) (nq sp dvs E t):=by intro pins s σ H Q I h;show KZ (oK I hg i ?_ a);show LU (h₀:=X.base) I.ok.mod.kin hk (thn (l pos pins s σ H _ I h) λus s1 c=>?_) m b;let(vs,H1,d,r,q):=c;show(d.kIn,?_);show tI F g j hd hx d r q
def ub{pl:Sem Bool}(v:PE X o ta)(c:Cls X.K C)(j:EK X.K C m f)(F:a9 X.prog X.w X.K X.mg X.base CX k f fd ps sp)(y:b9 k X.A)(z:cV X.K fd ps ds)(hd:aH dvs ds)(hx:ja CX X E)(B:PA X (e::es) t)
  (b:kq (e::es) X.env=(false,eval e X.env)::kq es X.env:=by rfl) (d:(ze pos (kq es X.env)).any (·.1)=false:=by rfl)
  (ht:eval (.Call (.Attribute o m apos) (e::es) [] pos) X.env=(do
   let ov <-eval o X.env
   K2 apos.atName
   let (f,first) <-KI [ov] (Qu ov m pl)
   Zj pos f first (ze pos (kq (e::es) X.env)) (KU pos (KA [] X.env))):=by rfl) :
  PE X (.Call (.Attribute o m apos) (e::es) [] pos) (sQ C m sp dvs E ta t):=by
 intro pins s σ H Q I h;show LA (pl:=pl) (thn (v pins s σ H _ I h) λu s1 g=>?_) ht
 cbv;let(x,H1,n,D,a,dx,fs,ex,G,l,q):=g;subst ex;obtain rfl:u=da a:=D
 w_up;show jJ n G c j l ?_;show LU (first:=[.ref a]) (h₀:=X.base) I.ok.mod.kin j.kp (thn (B pos pins s1 σ H1 _ n q) λus s2 i=>?_) b d;let(vs,L,p,r,J):=i;show(p.kIn,?_);show tI (us:=.ref a::us) (vs:=.ref a::vs) F y z hd hx p (.cons rfl r) J
def wS{pl:Sem Bool}(g:PE X o ta)(c:Cls X.K C)(e:EK X.K C m f)(F:a9 X.prog X.w X.K X.mg X.base CX k f fd ps sp)(i:b9 k X.A)(j:cV X.K fd ps ds)(hd:aH dvs ds)(hx:ja CX X E)
  (ht:eval (.Call (.Attribute o m apos) [] [] pos) X.env=(do
   let ov <-eval o X.env
   K2 apos.atName
   let (f,first) <-KI [ov] (Qu ov m pl)
   Zj pos f first (ze pos (kq [] X.env)) (KU pos (KA [] X.env))):=by rfl) :
  PE X (.Call (.Attribute o m apos) [] [] pos) (sQ C m sp dvs E ta wb):=by
 intro pins s σ H Q I h;show LA (pl:=pl) (thn (g pins s σ H _ I h) λu s1 b=>?_) ht
 cbv;let(x,H1,d,n,a,dx,fs,ex,p,l,q):=b;subst ex;obtain rfl:u=da a:=n
 w_up;show jJ d p c e l ?_;show LO (first:=[.ref a]) d.kIn e.kp (tI (us:=[.ref a]) (vs:=[.ref a]) F i j hd hx d (.cons rfl .nil) q)
structure Mk(K:ca)(C f:ap):Prop where
 makes:pu K C=true
 init:et K (.ref C) "__init__" = some (some (.ref f))
 fn : tf K (.ref f)=true
 kp : eE K (.ref C)=true
def wC{pins:Nd}{σ:St}{H:Hp}{s:ba}{Q:VK}{us:NC}{vs:NH}(M:Mk X.K C f)(F:a9 X.prog X.w X.K X.mg X.base CX k f fd ps sp)(g:b9 (k+1) X.A)(i:cV X.K fd ps ds)(hd:aH dvs ds)
  (hx:ja CX X E) (I:Inv X pins σ H s) (r:aH vs us)
  (h : ∀x dx,H x=NJ->H dx=NJ->dx≠x->sp (.ref x::(vs++dvs)) (upd (upd H dx (.own x)) x (.ins C dx [])) (λv j=>v=.non/\Q (.ref x) j) E) :
  kw (qb X.prog X.w) X.A (call (.ref C) us) (EP X pins σ Q) X.xe s:=by
 let c:=h ((~~~s)+1) (~~~s) (I.hok.fresh (Kb _)) (I.hok.fresh (IS _)) (Jd (JO _));let b:=Inv.made (C:=C) I;let d:aH (V.ref ((~~~s)+1)::(vs++dvs)) (da ((~~~s)+1)::(us++ds)):=.cons rfl (r.append hd);let hl:(da ((~~~s)+1)::us++ds).length=-ps:=by let e:=-d;rw[F.len _ _ _ _ c]at e;show e.symm
 show Zd (xm (f:=f) I.kIn M.makes M.init (beq_iff_eq.mp M.fn) (Qw (F.run _ X.stack _ _ (da ((~~~s)+1)::us,[]) (da ((~~~s)+1)::(us++ds)) _ _ E (g.make C us [])
  (b.env0.make C us []) (i _ (da ((~~~s)+1)::us) b.kIn hl) d c) λr s' a=>?_))
 cases r with
 |error e=>show hx pins σ _ _ e s' b a
 |ok fl =>
  cases fl with
  |ret u =>
   let(v,H',l,rv,ev,m):=b.after a;subst ev;show(rv,(V.ref ((~~~s)+1),H',l,rfl,m))
  |next=>show False.elim a
  |brk=>show False.elim a
  |cont=>show False.elim a
def wT(M:Mk X.K C f)(F:a9 X.prog X.w X.K X.mg X.base CX k f fd ps sp)(b:b9 (k+1) X.A)(hg:Gl X x)(c:X.mg x=some (.ref C))(d:cV X.K fd ps ds)(hd:aH dvs ds)(hx:ja CX X E)
  (a:(x==("__debug__" : bx))=false:=by decide):PE X (.Call (.Name x p) [] [] pos) (zR C sp dvs E wb):=by intro pins s σ H Q I h;show KZ (oK I hg c ?_ a);show LO I.kIn M.kp (wC (us:=[]) M F b d hd hx I .nil h)
end
def PK(X:Cx)(kws:NG)(t:TA):Prop :=
 ∀(pos:Pos) (pins:Nd) (s:ba) (σ:St) (H:Hp) (Q:NH->Hp->Prop),Inv X pins σ H s->t σ H Q->kw (qb X.prog X.w) X.A (evalAll ((KU pos (KA kws X.env)).map (·.2))) (AP X pins σ Q) X.xe s
section
variable{X:Cx}{x:bx}{pos kpos:Pos}{e:bb}{kws:NG}{te:TE}{t:TA}{nm:Option bx}
def Dh:PK X [] wb:=λY Y Y Y H Q I h=>wpAny_evalAll_nil ([],H,I,.nil,h)
def AB(b:PE X e te)(c:PK X kws t):PK X ((nm,e,kpos)::kws) (nj te t):=by intro pos pins s σ H Q I h;show kw _ _ (evalAll ((do let v <-eval e X.env;K2 pos;pure v)::(KU pos (KA kws X.env)).map (·.2))) _ _ s;show wpAny_evalAll_cons (jj (thn (b pins s σ H _ I h) λu s1 a=>?_));let(x,H1,d,f,g):=a;show jj (Qp (ke ?_));show thn (c pos pins s1 σ H1 _ d g) λus s2 ⟨xs,i,j,k,l⟩=>(x::xs,i,j,.cons f k,l)
end
structure ak(N P:ND)(sc:KL):Prop where
 kind:sc.kind=.function:=by rfl
 co : sc.isCoroutine=false:=by rfl
 gen:sc.isGenerator=false:=by rfl
 nd : N.Nodup:=by decide +kernel
 pre:N.take P.length=P:=by rfl
 par:∀x∈P,sc.names.lookup x=some .local\/sc.names.lookup x=some .cell:=by decide +kernel
 nofree:∀y∈sc.names,y.2≠.free:=by decide +kernel
theorem mV{kindOf:bx->Option NameKind}{x:bx}:∀{binds:Nh}{m:bx->Nm},(∀v,(x,v) ∉ binds)->Zw kindOf binds m x=m x
 |[],_,_=>rfl
 |(n,v)::r,m,h=>by
  unfold Zw;rw[mV λw hw=>h w (IM _ hw)];split;let:x≠n:=by rintro rfl;show h v IL
  simp[this];rfl
theorem mX{kindOf:bx->Option NameKind}{x:bx}:∀{binds:Nh}{m:bx->Nm},(∀v,(x,v) ∉ binds)->Zx kindOf binds m x=m x
 |[],_,_=>rfl
 |(n,v)::r,m,h=>by
  unfold Zx;rw[mX λw hw=>h w (IM _ hw)];split;rfl;let:x≠n:=by rintro rfl;show h v IL
  simp[this]
theorem mW{kindOf:bx->Option NameKind}{x:bx}{v:as}:∀{P:ND}{vs:NC}{i:Nat}{m:bx->Nm},P.Nodup->P[i]?=NI x->vs[i]?=NI v->kindOf x=NI .local ->
  Zw kindOf (P.zip vs) m x=NI v
 |[],_,_,_,_,h,_,_=>by simp at h
 |_::_,[],_,_,_,_,h,_=>by simp at h
 |p::P,w::vs,0,m,nd,h1,h2,hk=>by
  simp at h1 h2;subst h1;subst h2;show Zw kindOf ((p,w)::P.zip vs) m p=_;unfold Zw;rw[mV λv hv=>(Jr.mp nd).1 (Kg hv).1,M0 hk];simp
 |p::P,w::vs,i+1,m,nd,h1,h2,hk=>by
  show Zw kindOf ((p,w)::P.zip vs) m x=_;unfold Zw;show mW (i:=i) (Jr.mp nd).2 (by simpa using h1) (by simpa using h2) hk
theorem mY{kindOf:bx->Option NameKind}{x:bx}{v:as}:∀{P:ND}{vs:NC}{i:Nat}{m:bx->Nm},P.Nodup->P[i]?=NI x->vs[i]?=NI v->kindOf x≠NI .local ->
  Zx kindOf (P.zip vs) m x=NI v
 |[],_,_,_,_,h,_,_=>by simp at h
 |_::_,[],_,_,_,_,h,_=>by simp at h
 |p::P,w::vs,0,m,nd,h1,h2,hk=>by
  simp at h1 h2;subst h1;subst h2;show Zx kindOf ((p,w)::P.zip vs) m p=_;unfold Zx;rw[mX λv hv=>(Jr.mp nd).1 (Kg hv).1,M1 hk];simp
 |p::P,w::vs,i+1,m,nd,h1,h2,hk=>by
  show Zx kindOf ((p,w)::P.zip vs) m x=_;unfold Zx;show mY (i:=i) (Jr.mp nd).2 (by simpa using h1) (by simpa using h2) hk
noncomputable def start(N:ND)(vs:NH):St:=vs.map NI++JN (-N- -vs) NJ
noncomputable def sC(CX:CXT)(P:q3)(w:zb)(K:ca)(mg:bx->Nm)(base:bd)(N:ND)(qual:bx)(scope:KL)(f:ap)(cd:as)(A:Around)(outer:Nu)(s:ba)(H:Hp)(E:XK):Cx where
 prog:=P
 w := w
 K := K
 mg := mg
 base:=base
 A := A.deeper (Qq qual scope (~~~s) f cd)
 N := N
 s₀ := s
 H₀ := H
 env:=Qq qual scope (~~~s) f cd
 outer:=outer
 stack:=Qq qual scope (~~~s) f cd::outer
 ex := []
 calm:=NK
 fn := λY=>NK
 pn := []
 xe := λe s'=>kw (qb P w) (A.deeper (Qq qual scope (~~~s) f cd)) (leaving (Qq qual scope (~~~s) f cd) e) (λY a=>CX outer H s E e a) (λe' a=>CX outer H s E e' a) s'
def kG{sc:KL}{n:Nat}{x:bx}(h:sc.names.lookup x=NI .cell):∃c,(Kx n sc.names []).lookup x=NI c:=by let q:=pc sc.names n [] (.inl h);show Ka.mp q
def mC{CX:CXT}{P:q3}{w:zb}{K:ca}{mg:bx->Nm}{base:bd}{N ps:ND}{qual:bx}{scope:KL}{f:ap}{cd:as}{A:Around}{outer:Nu}{s s1:ba}{H:Hp}{E:XK}{us:NC}{vs:NH}
  (S : ak N ps scope) (hd:A.handled=NJ) (d:sy P w K mg base A outer s H) (hl:-vs=-ps) (r:aH vs us)
  (x : InCallC s (~~~s) (Zw (Qq qual scope (~~~s) f cd).kindOf (ps.zip us) λY=>NJ) (Kx ((~~~s)+1) scope.names []) (Zx (Qq qual scope (~~~s) f cd).kindOf (ps.zip us) λY=>NJ) s1) :
  Inv (sC CX P w K mg base N qual scope f cd A outer s H E) [] (start N vs) H s1:=by
 let t:-ps<=-N:=by let:=congrArg np S.pre;rw[JC]at this;lia
 let(h1,tk,rfl,hk):=x.done;let g:∀b:ap,b ∉ (sC CX P w K mg base N qual scope f cd A outer s H E).ex:=λb z=>absurd (show b∈([]:NE) from z) (!1);show((d.mod,S.kind,rfl,rfl,IS _,λy z c h1 h2=>?_,λy j=>?_,λy c Y h=>?_,λY=>hd,Around.frames_deeper d.frames,.inr (rfl,rfl),λb z=>absurd z (g b),d.bs,d.bsz,λb Y Y=>g b,λb z=>absurd z (g b),d.funs,d.frf,d.tab),
  rfl,d.bare,Un.kept hk,(_,x.toInCall.ns,λi y v h1 h2 h3=>?_),λy c h=>(_,x.cell y c h),d.hok.fresh (IS _),λy c h=>?_,λp l=>absurd (show p∈([]:Nd) from l) (!1),d.hok.kept hk,?_)
 show name_of_addr x.apart (fj h1) (fj h2);let j:scope.names.lookup y=NI .cell\/scope.names.lookup y=NI .free:=j;rcases j with j|j;show kG j;show absurd rfl (S.nofree _ (fj j));show JW (x.above y c (fj h));let hi:i< -vs:=by unfold start at h2;by_cases hi:i< -vs;show hi;rw[JV (by simpa using hi)]at h2;rw[List.getElem?_replicate]at h2;split at h2 <;> cases h2
 let B:vs[i]?=NI v:=by
  unfold start at h2;rw[JM (by simpa using hi),Jt]at h2;cases e:vs[i]? with
  |none=>rw[e]at h2;cases h2
  |some a=>rw[e]at h2;cases h2;rfl
 let(u,o,rv):=r.get B;let l:ps[i]?=NI y:=by rw[<-S.pre,List.getElem?_take_of_lt (!0)];show h1
 let m:ps.Nodup:=by rw[<-S.pre];show S.nd.sublist (Mo _ _)
 show(u,rv,?_);rcases S.par y (J9 l) with k|k;show .inl (k,mW m l o k);let(c,e):=kG (n:=(~~~s)+1) k;show .inr (.inl k,c,e,?_);let q:=x.cell y c e;rw[mY m l o (by show scope.names.lookup y≠_;rw[k];decide)]at q;show q;show d.hok.fresh (JW (x.above y c (fj h)));unfold start;show _=-N;rw[Jg,IF,List.length_replicate];lia
def Ef{CX:CXT}{P:q3}{w:zb}{K:ca}{mg:bx->Nm}{base:bd}{k:Nat}{f:ap}{name qual:bx}{params:QK}{body:Nn}{scope:KL}{l kV doc pm cdv ct oc:as}{an od:No}
  {osl:M6}{N ps:ND}{sp:Sp} (p:K.lookup f=some (oc,od,.func (fy name qual params body scope l kV doc pm an cdv ct),osl)) (h:ip K cdv qual=true) (S:ak N ps scope)
  (len:∀vs H Q E,sp vs H Q E->vs.length=ps.length)
  (a:∀(A:Around) (outer:Nu) (s:ba) (H:Hp) (vs:NH) (Q:VK) (E:XK),b9 k (A.deeper (Qq qual scope s.heap.objs.size f cdv))->sp vs H Q E ->
   ∃t,PSs (sC CX P w K mg base N qual scope f cdv A outer s H E) body t/\t { nx:=λY H'=>Q .non H',rt:=Q } (start N vs) H) :
  a9 P w K mg base CX (k+1) f (fy name qual params body scope l kV doc pm an cdv ct) ps sp:=by
 show(len,λA outer s H args us vs Q E i d z r g=>?_);let hl:=len _ _ _ _ g;let m:K.In s.heap:=d.mod.kin.keeps λb o e=>(d.bs b o e).1;let j:s.heap.NoLimit:=d.mod.nolimit.keeps λb o e=>(d.bs b o e).1;let c:∀y∈ps.zip us,scope.names.lookup y.1=NI .local\/(scope.names.lookup y.1=NI .cell/\((Kx ((~~~s)+1) scope.names []).lookup y.1).isSome=NK):=λ⟨n,v⟩ B=>by
  rcases S.par n (Kg B).1 with q|q;show .inl q;show .inr (q,pc _ _ _ (.inl q))
 show codeAny_call_function i.depth (m _ _ p) rfl S.co S.gen rfl (PySem.W.codeRec_of m h) (z _ _ _ _ ?_);show Zc S.kind c λenv C s1 x=>?_;subst C;show(j.keeps x.toInCall.keep,codeAny_func ?_);let(t,ht,D):=a A outer s H vs Q E (i.deeper _) g;let I:Inv (sC CX P w K mg base N qual scope f cdv A outer s H E) [] (start N vs) H s1:=mC S i.hd d hl r x;show z3 (ht [] s1 (start N vs) H _ I D) (λfl s' hs=>?_) λe s' hs=>hs;let fin:∀{σ':St}{H':Hp}{v:V}{u:as},Inv (sC CX P w K mg base N qual scope f cdv A outer s H E) [] σ' H' s'->be v u->Q v H'->CE outer P w H s Q u s' :=
  λ{σ' H' v u} J rv q=>(v,H',J.os,J.bare,J.base,J.hok,rv,q)
 cases fl with
 |ret u =>
  let(v,σ',H',J,rv,q):=hs;show fin J rv q
 |next =>
  let(σ',H',J,q):=hs;show fin (v:=V.non) (u:=eC) J rfl q
 |brk =>
  let(_,_,_,q):=hs;show False.elim q
 |cont =>
  let(_,_,_,q):=hs;show False.elim q
section
variable{X:Cx}{x:bx}{p pos:Pos}{e:bb}{es:NF}{t:TA}{id T:String}{r:NH->Hp->VK->Prop}
def tCB(r:NH->Hp->VK->Prop)(t:TA):TE:=λσ H Q=>t σ H λvs H1=>r vs H1 Q
def gX(hc:cZ X (.builtin id) r)(hg:Gl X x)(c:X.mg x=none)(hv:KJ x=some (.builtin id))(d:PA X (e::es) t)(hn:x ≠ "__name__" := by decide)(a:(x==("__debug__" : bx))=false:=by decide)
  (f:kq (e::es) X.env=(false,eval e X.env)::kq es X.env:=by rfl) (b:(ze pos (kq es X.env)).any (·.1)=false:=by rfl):PE X (.Call (.Name x p) (e::es) [] pos) (tCB r t):=by intro pins s σ H Q I h;show KZ (fR I hg c hv ?_ hn a);show PyProof.Rows.callWith_builtin1 (thn (d pos pins s σ H _ I h) λus s1 ⟨vs,H1,g,i,j⟩=>hc pins s1 σ H1 vs us Q g i j) f b
def iJ(hc:cZ X (.type T) r)(hg:Gl X x)(c:X.mg x=none)(hv:KJ x=some (.type T))(d:PA X (e::es) t)(hn:x ≠ "__name__" := by decide)(a:(x==("__debug__" : bx))=false:=by decide)
  (f:kq (e::es) X.env=(false,eval e X.env)::kq es X.env:=by rfl) (b:(ze pos (kq es X.env)).any (·.1)=false:=by rfl):PE X (.Call (.Name x p) (e::es) [] pos) (tCB r t):=by intro pins s σ H Q I h;show KZ (fR I hg c hv ?_ hn a);show gl (thn (d pos pins s σ H _ I h) λus s1 ⟨vs,H1,g,i,j⟩=>hc pins s1 σ H1 vs us Q g i j) f b
end
end _L
namespace HT
open PySem PyProof.Rows
section
open PySem.SeqAt
open PySem.AutoSeq1 (wpAny_loadPart')
open PySem.MeetsSeq PySem.MeetsSeq2 PySem.MeetsSeq3
end
section
variable{prog:q3}{w:zb}{A:Around}{E:as->ba->Prop}{s:ba}
def cat_tup{t b:ap}{vs ws:NC}{Q:as->ba->Prop}(ht:IsTup s.heap t vs.toArray)(j:IsTup s.heap b ws.toArray)(hv:vs≠[])
  (h1:ws=[]->Q (.ref t) s) (h2:ws≠[]->Q (.ref s.heap.objs.size) { s with heap:=s.heap.push { cls:=.type "tuple",data:=.seq (vs++ws).toArray } })
  (hsz:vs.length+ws.length<=sizeLine):kw (qb prog w) A (KN .Add (.ref t) (.ref b)) Q E s:=by
 cbv;let((cls,dd,data,sl),ho,hc,n,hd):=id ht;let((h,c,data2,d),a,f,i,g):=id j;simp only at hc hd f g;subst hc hd f g
 w_up;let e:vs.toArray++ws.toArray=(vs++ws).toArray:=!1
 by_cases hw:ws=[]
 show QV (_,ho,rfl) (_,a,rfl) Q0 Zq ph o0 (oD _ _)
  (tuple_addW1 t b vs.toArray ws.toArray n i dd c sl d (by simpa using hv) (by simp[hw])) (ho,a,h1 hw)
 show QV (_,ho,rfl) (_,a,rfl) Q0 Zq ph o0 (oD _ _)
  (tuple_addW2 t b vs.toArray ws.toArray n i dd c sl d (by simpa using hv) (by simpa using hw) (by rw[IV,IV];show hsz)) (ho,a,?_)
 rw[e];show h2 hw
noncomputable def sIx(n d:Nat):Nk->Nat
 |none=>d
 |some v=>if v<0 then (v+(n:Int)).toNat else min v.toNat n
def sIx_none(n d:Nat):sIx n d NJ=d:=rfl
def sIx_nat(n d k:Nat):sIx n d (NI (k:Int))=min k n:=by show(if (k:Int)<0 then ((k:Int)+(n:Int)).toNat else min (k:Int).toNat n)=min k n;rw[M1 (!0),Jv]
def CK(n d:Nat)(hd:d<=n)(o:Nk):sIx n d o<=n:=by
 cases o with
 |none=>show hd
 |some v =>
  show(if v<0 then (v+(n:Int)).toNat else min v.toNat n)<=n;by_cases hv:v<0;rw[M0 hv];lia;rw[M1 hv];show Nat.min_le_right _ _
def vz(v:Int)(n d:Nat):(if v<0 then max (v+(n:Int)) 0 else min v (n:Int))=((sIx n d (NI v):Nat):Int):=by
 show(if v<0 then max (v+(n:Int)) 0 else min v (n:Int))=(((if v<0 then (v+(n:Int)).toNat else min v.toNat n):Nat):Int)
 by_cases hv:v<0;simp only[M0 hv];lia;simp only[M1 hv];lia
def sv(lo hi:Nk)(n:Nat):nn lo hi 1 (n:Int)=(((sIx n 0 lo:Nat):Int),((sIx n n hi:Nat):Int)):=by
 let h1:¬((1:Int)<0):=!0
 unfold nn;simp only[h1,if_false];show Prod.ext ?_ ?_;cases lo with
 |none=>rfl
 |some v=>show vz v n 0
 cases hi with
 |none=>rfl
 |some v=>show vz v n n
def rH(i j:Nat):ih (i:Int) (j:Int) 1=j-i:=by
 unfold ih;let h1:(1:Int)>0:=!0
 simp only[h1,if_true,Int.ediv_one];split <;> lia
def jt{v:as}{o:Nk}{Q:Nk->ba->Prop}(p:Q3 v o)(h:Q o s):kw (qb prog w) A (Builtin.Slice.slicePartIndex v) Q E s:=by
 cases p with
 |none=>show slicePart_none h
 |int i t=>show slicePart_int h
def gQ{sl:ap}{b c:as}{lo hi:Nk}{n:Nat}{Q:Int×Int×Nat->ba->Prop}(hs:s.heap.IsSliceOf sl b c .none)(pl:Q3 b lo)(d:Q3 c hi)
  (h : Q (Pm (((sIx n 0 lo:Nat):Int)) (Pm 1 (sIx n n hi-sIx n 0 lo))) s):kw (qb prog w) A (t0 (.ref sl) (pure (n:Int))) Q E s:=by let(os,a,e,hds):=id hs;unfold t0 Builtin.Slice.sliceFields;show jj (jj (Kz a hds (x:=b) rfl (jj (Kz a hds (x:=c) rfl (jj (Kz a hds (x:=.none) rfl (ke ?_)))))));show jj (slicePart_none ?_);show kw _ _ (if ((1:Int)==0)=NK then _ else _) _ _ s;rw[M1 (!2)];show jj (jt pl (jj (jt d (jj (ke ?_)))));show kw _ _ (match nn lo hi 1 (n:Int) with|(Pm lo hi)=>pure (Pm lo (Pm (1:Int) (ih lo hi 1)))) _ _ s;rw[sv lo hi n];show kw _ _ (pure (Pm (((sIx n 0 lo:Nat):Int)) (Pm (1:Int) (ih ((sIx n 0 lo:Nat):Int) ((sIx n n hi:Nat):Int) 1)))) _ _ s;rw[rH];show ke h
def wP(xs:Nq)(i k:Nat):((cp k).filterMap λ(m:Nat)=>xs[((i:Int)+(m:Int)*1).toNat]?).toArray=((xs.toList.drop i).take k).toArray:=by
 let e:(λ(m:Nat)=>xs[((i:Int)+(m:Int)*1).toNat]?)=λm=>xs[i+m]?:=by
  funext m;let:((i:Int)+(m:Int)*1).toNat=i+m:=!0
  rw[this]
 rw[e];let:=pick_run xs i k;rw[List.filterMap_map]at this;let e2:((λx=>xs[x]?) ∘ λx=>i+x)=λm=>xs[i+m]?:=rfl;rw[e2]at this;rw[this]
def getItem_tuple_cut{t sl:ap}{items:Nq}{f g:as}{lo hi:Nk}{Q:as->ba->Prop}(ht:IsTup s.heap t items)(hs:s.heap.IsSliceOf sl f g .none)(pl:Q3 f lo)(i:Q3 g hi)
  (hw:¬(sIx items.size 0 lo=0/\sIx items.size items.size hi=items.size))
  (h : Q (.ref s.heap.objs.size) { s with heap:=s.heap.push { cls:=.type "tuple",data:=.seq ((items.toList.drop (sIx items.size 0 lo)).take (sIx items.size items.size hi-sIx items.size 0 lo)).toArray } })
  (hsz:items.size<=sizeLine):kw (qb prog w) A (ZE (.ref t) (.ref sl)) Q E s:=by
 let a:sizeOk (.seq ((items.toList.drop (sIx items.size 0 lo)).take (sIx items.size items.size hi-sIx items.size 0 lo)).toArray):=by show((items.toList.drop (sIx items.size 0 lo)).take (sIx items.size items.size hi-sIx items.size 0 lo)).toArray.size<=sizeLine;rw[IV,JC,Kc,hh];lia
 let hj:sIx items.size items.size hi<=items.size:=CK _ _ (IS _) hi;let(os,b,c,hds):=id hs;let d:s.TypeIs (.ref sl) "slice" := (os,b,c)
 unfold ZE
 try with_reducible show zp ?_
 first|show jj (ke ?_)|skip
 show jj (wpAny_sequenceKey ht.typeIs (!2) ?_);show jj (z6 (name:=cq "__getitem__") ht.typeIs lu
  (z4 lu ht.typeIs entry_tuple_getitem ?_ (args_tuple_getitem _ _)))
 show kw _ _ (ti (.ref t) >>= _) _ _ s;show jj (tupleItemsOf_ ht ?_);show jj (Zz d ?_);rw[M0 (!2)];show jj (gQ hs pl i ?_);let e:¬((((sIx items.size 0 lo:Nat):Int)==0&&(1:Int)==1&&(sIx items.size items.size hi-sIx items.size 0 lo)==items.size)=NK):=by intro q;rw[Jw,Jw]at q;let j:((sIx items.size 0 lo:Nat):Int)=0:=eq_of_beq q.1.1;let k:sIx items.size items.size hi-sIx items.size 0 lo=items.size:=eq_of_beq q.2;show hw (!0,!0)
 show kw _ _ (if (((sIx items.size 0 lo:Nat):Int)==0&&(1:Int)==1&&(sIx items.size items.size hi-sIx items.size 0 lo)==items.size)=NK then _ else _) _ _ s;rw[M1 e,wP]
 first
  |show jj (m:=iy _) (zh (ke ⟨_,rfl,ke h⟩) a)
  |show jj (m:=iy _) (zh (jj (ke (ke ⟨_,rfl,ke h⟩))) a)
  |show jj (jj (m:=iy _) (zh (ke (ke ⟨_,rfl,ke h⟩)) a))
  |show jj (jj (m:=iy _) (zh (ke ⟨_,rfl,ke h⟩) a))
end
end HT
namespace _L
open PySem PySem.Spec PyProof.Rows
abbrev TO:=St->Hp->(Nk->Hp->Prop)->Prop
def PO(X:Cx)(e:Option bb)(t:TO):Prop :=
 ∀(pins:Nd) (s:ba) (σ:St) (H:Hp) (Q:Nk->Hp->Prop),Inv X pins σ H s->t σ H Q ->
  kw (qb X.prog X.w) X.A (evalPart e X.env) (λu s'=>∃o H',Inv X pins σ H' s'/\Q3 u o/\Q o H') X.xe s
def zQ:TO:=λY H Q=>Q NJ H
def Fr(t:TE):TO:=λσ H Q=>t σ H λx H1=>∃i,x=.int i/\Q (NI i) H1
section
variable{X:Cx}{e:bb}{te:TE}{lo hi:Option bb}{tl th:TO}{pos p2:Pos}
def Az:PO X NJ zQ:=by intro pins s σ H Q I h;rw[evalPart_none];show ke (NJ,H,I,.none,h)
def Ay(h:PE X e te):PO X (NI e) (Fr te):=by
 intro pins s σ H Q I hw;rw[evalPart_some];show thn (h pins s σ H _ I hw) λu s1 a=>?_
 cbv;let(x,H1,b,c,d):=a;let(i,rfl,q):=d;let(t,rfl):=c
 w_up;show(NI i,H1,b,.int i t,q)
def SlR(X:Cx)(r:V->Nk->Nk->Hp->VK->Prop):Prop :=
 ∀(pins:Nd) (s:ba) (σ:St) (H:Hp) (x:V) (v a b:as) (lo hi:Nk) (sl:ap) (Q:VK),Inv X pins σ H s->be x v->s.heap.IsSliceOf sl a b .none->Q3 a lo->Q3 b hi->r x lo hi H Q ->
  ∃T id,typeLookup (.type T) "__getitem__" = pure (NI (.builtin id))/\s.TypeIs v T/\kw (qb X.prog X.w) X.A (ZE v (.ref sl)) (EP X pins σ Q) X.xe s
def tSl(r:V->Nk->Nk->Hp->VK->Prop)(te:TE)(tl th:TO):TE:=λσ H Q=>te σ H λx H1=>tl σ H1 λl a=>th σ a λu b=>r x l u b Q
def pY{r:V->Nk->Nk->Hp->VK->Prop}(k:SlR X r)(m:PE X e te)(hl:PO X lo tl)(n:PO X hi th):PE X (.Subscript e (.Slice lo hi NJ p2) pos) (tSl r te tl th):=by intro pins s σ H Q I h;show Subscript_ (thn (m pins s σ H _ I h) λv s1 f=>?_);let(x,H1,o,p,t):=f;show wpAny_Slice (thn (hl pins s1 σ H1 _ o t) λc s2 g=>?_);let(l,y,z,pl,B):=g;show thn (n pins s2 σ y _ z B) λd a i=>?_;let(u,j,C,D,E):=i;rw[evalPart_none];show ke ?_;let F:Inv X pins σ j { a with heap:=a.heap.push { cls:=.type "slice",data:=.fields #[c,d,.none] } }:=C.kept (t':=a.toks) λb ob q=>IH _ q;let(T,id,G,ht,hg):=k pins { a with heap:=a.heap.push { cls:=.type "slice",data:=.fields #[c,d,.none] } } σ j x v c d l u (~~~a) Q F p (MZ ..) pl D E;show kw (qb X.prog X.w) X.A (QN e (.Slice lo hi NJ p2) v (.ref (~~~a))) (EP X pins σ Q) X.xe { a with heap:=a.heap.push { cls:=.type "slice",data:=.fields #[c,d,.none] } };show tail_any (ops:=[.ref (~~~a),v]) ht G hg (by with_unfolding_all rfl)
def zo(xs:NH)(lo hi:Nk):NH:=(xs.drop (HT.sIx (-xs) 0 lo)).take (HT.sIx (-xs) (-xs) hi-HT.sIx (-xs) 0 lo)
def iY(xs:NH)(lo hi:Nk):(zo xs lo hi).length<=-xs:=by unfold zo;rw[JC,Kc];lia
def GZ(K:ca):V->Nk->Nk->Hp->VK->Prop:=λx lo hi H Q=>∃a xs,x=.ref a/\SqT K H a xs /\
 ¬ (HT.sIx (-xs) 0 lo=0/\HT.sIx (-xs) (-xs) hi=-xs)/\∀p,H p=NJ->Q (.ref p) (upd H p (.tup (zo xs lo hi)))
def CI:SlR X (GZ X.K):=by
 intro pins s σ H x v g i lo hi sl Q I e hs pl f h
 cbv;let(a,xs,rfl,hx,hw,q):=h;cases e;let(d,r,ht,hz):=I.tuple hx
 w_up;let c:d.toArray.size=-xs:=by rw[IV];show r.length.symm
 show("tuple",_,lu.lookup,ht.typeIs,?_);show HT.getItem_tuple_cut ht hs pl f (by rw[c];show hw) ?_ (by rw[c];show hz);rw[c];show(.ref (~~~s),_,I.laid (t':=s.toks) (o:=.tup (zo xs lo hi)) (λb ob q=>IH _ q) (IS _) ?_,rfl,q _ (I.hok.fresh (IS _)));show(IQ (iY xs lo hi) hz,_,(r.drop (HT.sIx (-xs) 0 lo)).take (HT.sIx (-xs) (-xs) hi-HT.sIx (-xs) 0 lo),vL.new _ _)
def FM(K:ca):R2:=λx y H Q=>∃a b xs ys,x=.ref a/\y=.ref b/\SqT K H a xs/\SqT K H b ys/\xs≠[]/\xs.length+-ys<=sizeLine /\
 (ys=[]->Q (.ref a) H)/\(ys≠[]->∀p,H p=NJ->Q (.ref p) (upd H p (.tup (xs++ys))))
def aH.nil_iff{xs:NH}{us:NC}(r:aH xs us):us=[]↔xs=[]:=by
 cases r with
 |nil=>simp
 |cons _ _=>simp
def AV:OpR X (KN .Add) (FM X.K):=by
 intro pins s σ H x y v u Q I f g h
 cbv;let(a,b,xs,ys,rfl,rfl,i,j,hx,hz,k,l):=h;cases f;cases g;let(m,d,n,_):=I.tuple i;let(e,c,p2,_):=I.tuple j
 w_up;show HT.cat_tup n p2 (λz=>hx (d.nil_iff.mp z)) (λz=>(.ref a,H,I,rfl,k (c.nil_iff.mp z))) (λz=>?_) (by rw[<- -d,<- -c];show hz);show(.ref (~~~s),_,I.laid (t':=s.toks) (o:=.tup (xs++ys)) (λb ob q=>IH _ q) (IS _) ?_,rfl,l (λw=>z (c.nil_iff.mpr w)) _ (I.hok.fresh (IS _)));show(by rw[Jg];show hz,_,d.append c,vL.new _ _)
end
noncomputable def ixN(n:Nat)(i:Int):Nl:=if 0<=i then (if i<n then NI i.toNat else NJ) else if -(n:Int)<=i then NI (i+n).toNat else NJ
def atI{α:Type}(xs:List α)(i:Int):Option α:=(ixN (-xs) i).bind λj=>xs[j]?
def uN{n:Nat}{i:Int}{j:Nat}(h:ixN n i=NI j):Zt i n=NI j/\j<n/\-(n:Int)<=i/\i<n:=by unfold ixN at h;by_cases a:0<=i;rw[M0 a]at h;by_cases h1:i<n;rw[M0 h1]at h;let e:i.toNat=j:=di h;show(by rw[seqIndex_of a h1,e],!0,!0,h1);rw[M1 h1]at h;cases h;rw[M1 a]at h;by_cases h1:-(n:Int)<=i;rw[M0 h1]at h;let e:(i+n).toNat=j:=di h;show(by rw[seqIndex_neg (!0) h1,e],!0,h1,!0);rw[M1 h1]at h;cases h
def o8{α:Type}{xs:List α}{i:Int}{v:α}(h:atI xs i=NI v):∃j,Zt i (-xs)=NI j/\xs[j]?=NI v/\j< -xs/\-(-xs:Int)<=i/\i< -xs:=by
 unfold atI at h;cases e:ixN (-xs) i with
 |none=>rw[e]at h;cases h
 |some j =>
  rw[e]at h;let(h1,h2,h3,a):=uN e;show(j,h1,h,h2,h3,a)
def cU{α:Type}{xs:List α}{j:Nat}{v:α}(h:xs[j]?=NI v):atI xs (j:Int)=NI v:=by
 let hj:j< -xs:=(IN.mp h).1;let e:ixN (-xs) (j:Int)=NI j:=by unfold ixN;rw[M0 (!0),M0 (!0)];simp
 unfold atI;rw[e];show h
def dZ(b:bb):Prop:=∀o i,Q4 b NL o i=operate [o,i] (ZE o i)
def IxR(X:Cx)(r:R2):Prop :=
 ∀(value slice:bb) (pins:Nd) (s:ba) (σ:St) (H:Hp) (x y:V) (v u:as) (Q:VK),Inv X pins σ H s->be x v->be y u->r x y H Q ->
  Q4 slice NL v u=operate [v,u] (ZE v u)->kw (qb X.prog X.w) X.A (QN value slice v u) (EP X pins σ Q) X.xe s
def MtR(X:Cx)(id:String)(r:V->NH->Hp->VK->Prop):Prop :=
 ∀(pins:Nd) (s:ba) (σ:St) (H:Hp) (x:V) (xs:NH) (v:as) (us:NC) (Q:VK),Inv X pins σ H s->be x v->aH xs us->r x xs H Q ->
  kw (qb X.prog X.w) X.A (call (.builtin id) (v::us)) (EP X pins σ Q) X.xe s
section
variable{X:Cx}{a b:bb}{ta tb:TE}{pos:Pos}
def IxR.or{r r':R2}(h:IxR X r)(h':IxR X r'):IxR X (λx y H Q=>r x y H Q\/r' x y H Q):=by intro value slice pins s σ H x y v u Q I a b q hs;rcases q with q|q;show h value slice pins s σ H x y v u Q I a b q hs;show h' value slice pins s σ H x y v u Q I a b q hs
def uc{r:R2}(c:IxR X r)(d:PE X a ta)(e:PE X b tb)(hs:dZ b):PE X (.Subscript a b pos) (tOp r ta tb):=by intro pins s σ H Q I h;show Subscript_ (GK d e I h λv u s2 x y f g i j q=>c a b pins s2 σ f x y v u Q g i j q (hs _ _))
def G6(K:ca):R2:=λx y H Q=>∃p xs i v,x=.ref p/\y=.int i/\SqL K H p xs/\atI xs i=NI v/\Q v H
def G3(K:ca):R2:=λx y H Q=>∃p xs i v,x=.ref p/\y=.int i/\SqT K H p xs/\atI xs i=NI v/\Q v H
def G4:R2:=λx y H Q=>∃z i c,x=.str z/\y=.int i/\z.length<=sizeLine/\atI z.cps.toList i=NI c/\Q (.str ⟨#[c]⟩) H
def Bf:IxR X (G6 X.K):=by
 intro value slice pins s σ H x y v u Q I e f h hs
 cbv;let(p,xs,i,z,rfl,rfl,g,k,q):=h;cases e;let(t,rfl):=f;let(a,r,pl,hz):=I.list g;let(j,h1,h2,h3,l,m):=o8 k;let(w,c,b):=r.get h2
 w_up;let hl:=-r;let hn:=iQ;let fin:EP X pins σ Q w s:=(z,H,I,b,q)
 by_cases d:0<=i;let hj:i.toNat=j:=by rw[seqIndex_of d m]at h1;show di h1
 show item_listR pl.isList d (!0) (by rw[hj];simpa using c) fin hs;let hj:(i+(a.toArray.size:Int)).toNat=j:=by rw[seqIndex_neg (!0) l]at h1;rw[IV,<-hl];show di h1
 show ZB (x:=w) pl.isList.typeIs slot_list_getitem.lookup
  (wpAny_getItem_list_neg (Q:=λr s'=>r=w/\EP X pins σ Q r s') pl.isList (!0) (by rw[IV] <;> lia) (!0) (by rw[hj];simpa using c) (rfl,fin)) hs
def D6:IxR X (G3 X.K):=by
 intro value slice pins s σ H x y v u Q I b c h hs
 cbv;let(p,xs,i,z,rfl,rfl,d,e,q):=h;cases b;let(t,rfl):=c;let(f,r,pl,hz):=I.tuple d;let(j,h1,h2,h3,k,l):=o8 e;let(w,g,a):=r.get h2
 w_up;let hl:=-r;let hn:=iQ;let fin:EP X pins σ Q w s:=(z,H,I,a,q)
 show ZB (x:=w) pl.typeIs slot_tuple_getitem.lookup
  (getItem_tuple (j:=j) (Q:=λr s'=>r=w/\EP X pins σ Q r s') pl (!0) (!0) (by rw[IV,<-hl];show h1) (by simpa using g) (rfl,fin)) hs
def D7:IxR X G4:=by
 intro value slice pins s σ H x y v u Q I a b h hs
 cbv;let(z,i,c,rfl,rfl,hz,d,q):=h;let(t,rfl):=a;let(t',rfl):=b;let(j,h1,h2,h3,e,f):=o8 d
 w_up;let hl:z.cps.toList.length=-z:=by simp[nl]
 rw[hl]at h1 e f;let hn:=iQ;show tail_any (QR s z t) slot_str_getitem.lookup (getItem_str (c:=c) (by
  let e1:decide (i < -(2 ^ 63:Int))=NL:=decide_eq_false (!0);let e2:decide (i≥2 ^ 63)=NL:=decide_eq_false (!0);rw[e1,e2,MR]) (by rw[h1];simpa using h2) (.str ⟨#[c]⟩,H,I.tok _,(_,rfl),q)) hs
def rP(a:NC)(n j:Nat)(u:as):ew (·.setIfInBounds j u) { cls:=.type "list",data:=.seq a.toArray n }={ cls:=.type "list",data:=.seq (a.set j u).toArray n }:=by simp[ew]
theorem Inv.lst{pins:Nd}{σ:St}{H:Hp}{s:ba}{p:ap}{xs:NH}(I:Inv X pins σ H s)(h:H p=some (.lst xs)) :
  ∃(a:NC) (n:Nat),aH xs a/\s.heap.get? p=some { cls:=.type "list",data:=.seq a.toArray n }/\xs.length<=sizeLine:=by let(z,a,n,r,e):=I.hok p _ h;show(a,n,r,e,z)
def Inv.lstUpd{pins:Nd}{σ:St}{H:Hp}{s:ba}{p:ap}{xs ys:NH}{a its':NC}{n c:Nat}{f:Obj->Obj}(I:Inv X pins σ H s)(h:H p=some (.lst xs))
  (ho:s.heap.get? p=some { cls:=.type "list",data:=.seq a.toArray n }) (d:f { cls:=.type "list",data:=.seq a.toArray n }={ cls:=.type "list",data:=.seq its'.toArray c }) (r:aH ys its') (hz:ys.length<=sizeLine) (t:Nat) :
  Inv X pins σ (upd H p (.lst ys)) { s with heap:=s.heap.update p f,toks:=t }:=by
 let e:(s.heap.update p f).get? p=NI { cls:=.type "list",data:=.seq its'.toArray c }:=by rw[Jx f ho (by rw[d] <;> rfl),d]
 show I.write (x:=p) (e:=p) (by rw[h];trivial) (.inl rfl) (λb u g q=>(Jp _ _ (Ne.symm g)).trans q) (_,e) ?_;show(hz,its',c,r,e)
def FE:V->V->V->Hp->(Hp->Prop)->Prop:=λo i v H Q=>∃p xs k j,o=.ref p/\i=.int k/\H p=NI (.lst xs)/\ixN (-xs) k=NI j/\Q (upd H p (.lst (xs.set j v)))
def wv:Fk X FE:=by
 intro pins s σ H o i v ov iv u Q I f g rv h
 cbv;let(p,xs,k,j,rfl,rfl,b,hj,q):=h;cases f;let(t,rfl):=g;let(a,n,r,ho,hz):=I.lst b;let(h1,h2,h3,c):=uN hj
 w_up;let hl:=-r;let hn:=iQ;let d:Inv X pins σ (upd H p (.lst (xs.set j v))) { s with heap:=s.heap.update p (ew (·.setIfInBounds j u)) } :=
  I.lstUpd b ho (rP a n j u) (r.set rv j) (by rw[Kh];show hz) s.toks
 by_cases e:0<=k;let hk:k.toNat=j:=by rw[seqIndex_of e c]at h1;show di h1
 show PySem.W.ki_setAt ho e (!0) (by rw[IV,<-hl];show c) (by rw[hk];show(_,d,q));let hk:(k+(a.toArray.size:Int)).toNat=j:=by rw[seqIndex_neg (!0) h3]at h1;rw[IV,<-hl];show di h1
 show PySem.W.ki_setBack ho (!0) (by rw[IV,<-hl];show h3) (!0) (by rw[hk];show(_,d,q))
def lg(lo hi:Nk)(n:Nat):(Qi lo hi NJ n).1=((HT.sIx n 0 lo:Nat):Int)/\(Qi lo hi NJ n).2.1=((HT.sIx n n hi:Nat):Int)/\(Qi lo hi NJ n).2.2=1:=by
 show(?_,?_,rfl);cases lo with
 |none=>simp[Qi,HT.sIx]
 |some i =>
  simp only[Qi,HT.sIx,Mf,show(1:Int)>0 by decide,if_true];by_cases h:i<0;simp only[h,if_true] <;> lia
  simp only[h,if_false] <;> lia
 cases hi with
 |none=>simp[Qi,HT.sIx]
 |some i =>
  simp only[Qi,HT.sIx,Mf,show(1:Int)>0 by decide,if_true];by_cases h:i<0;simp only[h,if_true] <;> lia
  simp only[h,if_false] <;> lia
def jV(a:NC)(lo hi:Nk):slicePick a.toArray lo hi NJ=((a.drop (HT.sIx (-a) 0 lo)).take (HT.sIx (-a) (-a) hi-HT.sIx (-a) 0 lo)).toArray:=by let(h1,h2,h3):=lg lo hi a.toArray.size;unfold slicePick;rw[h1,h2,h3];simp only[sliceRange_one,pick_run,IV] <;> rfl
def G0(K:ca):V->Nk->Nk->Hp->VK->Prop:=λx lo hi H Q=>∃a xs,x=.ref a/\SqL K H a xs/\∀p,H p=NJ->Q (.ref p) (upd H p (.lst (zo xs lo hi)))
def zY:SlR X (G0 X.K):=by
 intro pins s σ H x v g i lo hi sl Q I d hs pl e h
 cbv;let(a,xs,rfl,hx,q):=h;cases d;let(f,r,ht,hz):=I.list hx
 w_up;let c:=-r;show("list",_,slot_list_getitem.lookup,ht.isList.typeIs,?_);show wpAny_getItem_list_slice ht.isList hs pl e .none (!1) ?_ (by rw[IV] <;> lia);rw[jV,<-c];show(.ref (~~~s),_,I.laid (t':=s.toks) (o:=.lst (zo xs lo hi)) (λb ob q=>IH _ q) (IS _) ?_,rfl,q _ (I.hok.fresh (IS _)));show(IQ (iY xs lo hi) hz,_,0,(r.drop (HT.sIx (-xs) 0 lo)).take (HT.sIx (-xs) (-xs) hi-HT.sIx (-xs) 0 lo),IW _ rfl)
def kz:V->Bool
 |.non=>NK
 |.bl _=>NK
 |.int _=>NK
 |.str _=>NK
 |_=>NL
noncomputable def eqV:V->V->Bool
 |.non,.non=>NK
 |.bl a,.bl b=>a==b
 |.bl a,.int b=>(if a then 1 else 0)==b
 |.int a,.bl b=>a==(if b then 1 else 0)
 |.int a,.int b=>a==b
 |.str a,.str b=>a==b
 |_,_=>NL
def Ep{A:Around}{s:ba}{y x:V}{u v:as}(d:be y u)(c:be x v)(f:kz y=NK)(e:kz x=NK):SeqAt.EqAt A s u v (eqV y x):=by
 cases y with
 |non =>
  cases d;cases x with
  |non=>cases c;show SeqAt.EqAt.same _
  |bl b=>cases c;show SeqAt.EqAt.none_bool b
  |int b=>let(t,rfl):=c;show SeqAt.EqAt.none_int b t
  |str b=>let(t,rfl):=c;show SeqAt.EqAt.none_str b t
  |_=>show absurd (show NL=NK from e) Ja
 |bl a =>
  cases d;cases x with
  |non=>cases c;show SeqAt.EqAt.bool_none a
  |bl b=>cases c;show SeqAt.EqAt.bool_bool a b
  |int b=>let(t,rfl):=c;show SeqAt.EqAt.bool_int a b t
  |str b=>let(t,rfl):=c;show SeqAt.EqAt.bool_str a b t
  |_=>show absurd (show NL=NK from e) Ja
 |int a =>
  let(t',rfl):=d;cases x with
  |non=>cases c;show SeqAt.EqAt.int_none a t'
  |bl b=>cases c;show SeqAt.EqAt.int_bool a t' b
  |int b=>let(t,rfl):=c;show SeqAt.EqAt.int_int a t' b t
  |str b=>let(t,rfl):=c;show Lz a t' b t
  |_=>show absurd (show NL=NK from e) Ja
 |str a =>
  let(t',rfl):=d;cases x with
  |non=>cases c;show SeqAt.EqAt.str_none a t'
  |bl b=>cases c;show SeqAt.EqAt.str_bool a t' b
  |int b=>let(t,rfl):=c;show Ly a t' b t
  |str b=>let(t,rfl):=c;show SeqAt.EqAt.str_str a t' b t
  |_=>show absurd (show NL=NK from e) Ja
 |_=>show absurd (show NL=NK from f) Ja
def eqU(x:V)(u:as):Bool:=match u with
 |.none=>eqV .non x
 |.bool b=>eqV (.bl b) x
 |.int i _=>eqV (.int i) x
 |.str z _=>eqV (.str z) x
 |_=>NL
def y9{x y:V}{u:as}(r:be y u)(f:kz y=NK):eqU x u=eqV y x:=by
 cases y with
 |non=>cases r;rfl
 |bl b=>cases r;rfl
 |int i=>let(t,rfl):=r;rfl
 |str z=>let(t,rfl):=r;rfl
 |_=>show absurd (show NL=NK from f) Ja
theorem i9{x:V}:∀{xs:NH}{us:NC},aH xs us->xs.all kz=NK->us.any (eqU x)=xs.any λy=>eqV y x
 |_,_,.nil,_=>rfl
 |y::xs,u::us,.cons r t,f=>by
  rw[MO,Jw]at f;rw[pa,pa,y9 r f.1,i9 t f.2]
theorem fQ{A:Around}{s:ba}{x:V}{v:as}(b:be x v)(c:kz x=NK):∀{xs:NH}{us:NC},aH xs us->xs.all kz=NK->∀u∈us,SeqAt.EqAt A s u v (eqU x u)
 |_,_,.nil,_=>λu a=>by cases a
 |y::xs,u::us,.cons r t,f=>λd a=>by
  rw[MO,Jw]at f;rcases IR.mp a with rfl|a;rw[y9 r f.1];show Ep r b f.1 c;show fQ b c t f.2 d a
def inV(x:V)(xs:NH):Bool:=xs.any λy=>eqV y x
def rIn(K:ca)(neg:Bool):R2:=λx y H Q=>∃p xs,y=.ref p/\(SqL K H p xs\/SqT K H p xs)/\kz x=NK/\xs.all kz=NK/\Q (.bl (if neg then !inV x xs else inV x xs)) H
def uu:OpR X (q4 .In) (rIn X.K NL):=by
 intro pins s σ H x y v u Q I c e h
 cbv;let(p,xs,rfl,b,d,fs,q):=h;cases e
 w_up;rcases b with b|b;let(a,r,pl,hz):=I.list b;show SeqAt.in_listAt (eqU x) pl.isList (λw hw=>fQ c d r fs w (by simpa using hw)) (.bl _,H,I,rfl,?_);rw[show a.toArray.any (eqU x)=a.any (eqU x) by simp,i9 r fs];show q;let(a,r,pl,hz):=I.tuple b;show SeqAt.in_tupleAt (eqU x) pl (λw hw=>fQ c d r fs w (by simpa using hw)) (.bl _,H,I,rfl,?_);rw[show a.toArray.any (eqU x)=a.any (eqU x) by simp,i9 r fs];show q
def lI:OpR X (q4 .NotIn) (rIn X.K NK):=by
 intro pins s σ H x y v u Q I c e h
 cbv;let(p,xs,rfl,b,d,fs,q):=h;cases e
 w_up;rcases b with b|b;let(a,r,pl,hz):=I.list b;show SeqAt.notIn_listAt (eqU x) pl.isList (λw hw=>fQ c d r fs w (by simpa using hw)) (.bl _,H,I,rfl,?_);rw[show a.toArray.any (eqU x)=a.any (eqU x) by simp,i9 r fs];show q;let(a,r,pl,hz):=I.tuple b;show SeqAt.notIn_tupleAt (eqU x) pl (λw hw=>fQ c d r fs w (by simpa using hw)) (.bl _,H,I,rfl,?_);rw[show a.toArray.any (eqU x)=a.any (eqU x) by simp,i9 r fs];show q
def mT:cZ X (.builtin "len") (λxs H Q=>∃p ys,xs=[.ref p]/\(SqL X.K H p ys\/SqT X.K H p ys)/\Q (.int (-ys)) H):=by
 intro pins s σ H xs us Q I r h
 cbv;let(p,ys,rfl,b,q):=h;let(u,rfl,d):=fw r;cases d
 w_up;let hn:=iQ;rcases b with b|b;let(c,r',pl,hz):=I.list b;let a:=-r';show Calls.call_len_list pl.isList (by simp only[IV] <;> lia) (.int (-ys),H,I.tok _,(s.toks+1,by rw[IV,a]),q);let(c,r',pl,hz):=I.tuple b;let a:=-r';show len_tuple pl (by simp only[IV] <;> lia) (.int (-ys),H,I.tok _,(s.toks+1,by rw[IV,a]),q)
def mS:cZ X (.builtin "len") (λxs H Q=>∃z,xs=[.str z]/\z.length<=sizeLine/\Q (.int (-z)) H):=by intro pins s σ H xs us Q I r h;let(z,rfl,hz,q):=h;let(u,rfl,t,rfl):=fw r;let hn:=iQ;show len_str (!0) (.int (-z),H,I.tok _,(_,rfl),q)
def mR:cZ X (.type "list") (λxs H Q=>∃p ys,xs=[.ref p]/\(SqL X.K H p ys\/SqT X.K H p ys)/\∀l,H l=NJ->Q (.ref l) (upd H l (.lst ys))):=by
 intro pins s σ H xs us Q I r h
 cbv;let(p,ys,rfl,c,q):=h;let(u,rfl,f):=fw r;cases f
 w_up;let fin:∀(a:NC),aH ys a->-ys<=sizeLine->∀(h':bd) (c':Nat),(∀b o',s.heap.get? b=NI o'->h'.get? b=NI o') ->
   h'.get? (~~~s)=NI { cls:=.type "list",dict:=NJ,data:=.seq a.toArray c',slots:=#[] }->EP X pins σ Q (.ref (~~~s)) { s with heap:=h' }:=λa r' hz h' c' kp e =>
  (.ref (~~~s),_,I.laid (t':=s.toks) kp (IS _) (show dB X.prog X.w _ h' _ (.lst ys) from(hz,a,c',r',e)),rfl,q _ (I.hok.fresh (IS _)))
 rcases c with c|c;let(a,r',pl,hz):=I.list c;let d:=-r';let(o,ho,hc,n,hd):=pl.isList;show call_list_seq p (.inl rfl) ho hc hd (λh' c' kp e=>fin a r' hz h' c' kp e) (by simp only[IV] <;> lia);let(a,r',pl,hz):=I.tuple c;let d:=-r';let(o,ho,hc,n,hd):=pl;show call_list_seq p (.inr rfl) ho hc hd (λh' c' kp e=>fin a r' hz h' c' kp e) (by simp only[IV] <;> lia)
def kI:cZ X (.type "tuple") (λxs H Q=>∃p ys,xs=[.ref p]/\((SqL X.K H p ys/\∀l,H l=NJ->Q (.ref l) (upd H l (.tup ys)))\/(SqT X.K H p ys/\Q (.ref p) H))):=by
 intro pins s σ H xs us Q I r h
 cbv;let(p,ys,rfl,h):=h;let(u,rfl,g):=fw r;cases g
 w_up;rcases h with⟨c,q⟩|⟨c,q⟩
 let(a,r',pl,hz):=I.list c;let d:=-r';show call_tuple_list pl.isList (λh' kp=>?_) (by simp only[IV] <;> lia);let f:Inv X pins σ H { s with heap:=h' }:=I.kept (t':=s.toks) kp;let i:Inv X pins σ (upd H h'.objs.size (.tup ys)) { s with heap:=h'.push { cls:=.type "tuple",data:=.seq a.toArray } } :=
  f.laid (t':=s.toks) (λb o e=>IH _ e) (IS _) (show dB X.prog X.w _ _ _ (.tup ys) from(hz,a,r',vL.new _ _))
 show(.ref h'.objs.size,_,i,rfl,q _ (f.hok.fresh (IS _)));let(a,r',pl,hz):=I.tuple c;show call_tuple_same pl (.ref p,H,I,rfl,q)
def tyV(K:ca)(T:String)(x:V)(H:Hp):Prop:=match x with
 |.str _=>T = "str"
 |.int _=>T = "int"
 |.ref p=>(T = "list" /\ ∃xs,SqL K H p xs)\/(T = "tuple" /\ ∃xs,SqT K H p xs) \/
   (T = "dict" /\ ((∃kvs,H p=NI (.dK kvs))\/∃kvs,H p=NI (.dT kvs)))\/(T = "set" /\ ∃S n,H p=NI (.set S n))
 |_=>False
def yn{pins:Nd}{σ:St}{H:Hp}{s:ba}{T:String}{x:V}{v:as}(I:Inv X pins σ H s)(r:be x v)(ty:tyV X.K T x H) :
  s.TypeIs v T/\∀a,v=.ref a->∃ob,s.heap.get? a=NI ob/\ob.dict=NJ:=by
 cases x with
 |str z =>
  let(t,rfl):=r;cases (show T = "str" from ty);show(QR s z t,λY e=>nomatch e)
 |int i =>
  let(t,rfl):=r;cases (show T = "int" from ty);show(typeIs_int s i t,λY e=>nomatch e)
 |ref p =>
  cases r;rcases ty with⟨rfl,xs,b⟩|⟨rfl,xs,b⟩|⟨rfl,hk⟩|⟨rfl,S,n,hk⟩
  .let(d,_,pl,_):=I.list b;show(pl.isList.typeIs,λa e=>?_)
   cbv;cases e;let(o,n,e,c,hd,_):=pl
   w_up;show(o,e,hd)
  let(d,_,o,e,hc,_,hd):=I.tupleN b;show((o,e,hc),λa e'=>?_);cases e';show(o,e,hd);let z:∃o,s.heap.get? p=NI o/\o.ExactDict:=by
   rcases hk with⟨kvs,hk⟩|⟨kvs,hk⟩
   let(_,_,_,_,o,_,_,e,ex,_):=I.hok p _ hk;show(o,e,ex);let(_,_,_,_,o,_,_,e,ex,_):=I.hok p _ hk;show(o,e,ex)
  let(o,e,ex):=z;show((o,e,ex.1),λa e2=>?_);cases e2;show(o,e,ex.2.1);let(o,_,_,_,e,ex,_):=I.hok p _ hk;show((o,e,ex.1),λa e2=>?_);cases e2;show(o,e,ex.2.1)
 |_=>show False.elim ty
def GV(K:ca)(T:String)(r:V->NH->Hp->VK->Prop)(to:TE):TE:=λσ H Q=>to σ H λx H1=>tyV K T x H1/\r x [] H1 Q
def tBM(K:ca)(T:String)(r:V->NH->Hp->VK->Prop)(to:TE)(t:TA):TE:=λσ H Q=>to σ H λx H1=>tyV K T x H1/\t σ H1 λxs a=>r x xs a Q
variable{o e:bb}{es:NF}{to:TE}{t:TA}{name:bx}{apos cpos:Pos}{T id:String}{r:V->NH->Hp->VK->Prop}
def Dq(g:Zl T)(slot:Slot T name id)(c:typeOf (.builtin id)=pure (.type "method_descriptor"))(i:MtR X id r)(ho:PE X o to)
  (a:z5 o name X.env (eval o X.env)=eval o X.env:=by rfl) (b:(apos.endLine==cpos.line)=true:=by rfl):PE X (.Call (.Attribute o name apos) [] [] cpos) (GV X.K T r to):=by intro pins s σ H Q I h;show wpAny_Call_method0_late a b (thn (ho pins s σ H _ I h) λv s1 d=>?_);let(x,H1,e,f,ty,j):=d;let(h1,h2):=yn e f ty;show(T,id,g,slot,c,h1,h2,Calls.callWith_builtin rfl (PySem.evalArgs_none (i pins s1 σ H1 x [] v [] Q e f .nil j)))
def FR(l:Zl T)(slot:Slot T name id)(f:typeOf (.builtin id)=pure (.type "method_descriptor"))(m:MtR X id r)(ho:PE X o to)(n:PA X (e::es) t)
  (b:z5 o name X.env (eval o X.env)=eval o X.env:=by rfl)
  (d:((ze cpos (kq (e::es) X.env)).all (λx=>!x.1)&&(KU cpos (KA [] X.env)).all (λx=>x.1.isSome)
   && decide ((e::es).length+([]:NG).length+(if ([]:NG).isEmpty then 0 else 1)<30))=true:=by rfl)
  (c:(apos.endLine==cpos.line)=true:=by rfl) (hs:kq (e::es) X.env=(false,eval e X.env)::kq es X.env:=by rfl) (a:(ze cpos (kq es X.env)).any (·.1)=false:=by rfl) :
  PE X (.Call (.Attribute o name apos) (e::es) [] cpos) (tBM X.K T r to t):=by intro pins s σ H Q I h;show wpAny_Call_method_late b d c rfl (thn (ho pins s σ H _ I h) λv s1 g=>?_);let(x,H1,i,j,ty,p):=g;let(h1,h2):=yn i j ty;show(T,id,l,slot,f,h1,h2,?_);let k:=n cpos pins s1 σ H1 _ i p;rw[hs]at k ⊢;show Calls.callWith_builtin (by show(NL ||(ze cpos (kq es X.env)).any (·.1))=NL;rw[a] <;> rfl) (Calls.evalArgs_plain ?_);show thn k λus s2 ⟨vs,q,u,w,y⟩=>m pins s2 σ q x vs v us Q u j w y
end
def MtM(X:Cx)(id:String)(r:V->NH->Hp->VK->Prop):Prop :=
 ∀(pins:Nd) (s:ba) (σ:St) (H:Hp) (x:V) (xs:NH) (v:as) (us:NC) (Q:VK),Inv X pins σ H s->be x v->aH xs us->r x xs H Q ->
  kw (qb X.prog X.w) X.A (call (.builtin id) (v::us)) (EP X pins σ Q) X.xe s
def aH.consI{x:V}{xs:NH}{us:NC}(h:aH (x::xs) us):∃u vs,us=u::vs/\be x u/\aH xs vs:=by
 cases h with
 |cons r q=>show(_,_,rfl,r,q)
def aH.zero{us:NC}(h:aH [] us):us=[]:=by cases h;rfl
def aH.one{x:V}{us:NC}(h:aH [x] us):∃u,us=[u]/\be x u:=by let(u,vs,rfl,r,q):=h.consI;rw[aH.zero q];show(u,rfl,r)
theorem aH.dropLast{xs:NH}{us:NC}(h:aH xs us):aH xs.dropLast us.dropLast:=by
 induction h with
 |nil=>show .nil
 |cons r t a =>
  cases t with
  |nil=>show .nil
  |cons q t'=>show .cons r a
theorem aH.eraseIdx:∀{xs:NH}{us:NC} (i:Nat),aH xs us->aH (xs.eraseIdx i) (us.eraseIdx i)
 |_,_,_,.nil=>.nil
 |_,_,0,.cons _ t=>t
 |_,_,i+1,.cons r t=>.cons r (aH.eraseIdx i t)
def rZ{α:Type}(l:List α):l.eraseIdx (-l-1)=l.dropLast:=by
 induction l with
 |nil=>rfl
 |cons a r c =>
  cases r with
  |nil=>rfl
  |cons b r =>
   let e:(a::b::r).length-1=((b::r).length-1)+1:=by let h1:(a::b::r).length=-r+2:=rfl;let h2:(b::r).length=-r+1:=rfl;lia
   rw[e,List.eraseIdx_cons_succ,c]
   all_goals rfl
theorem l9{α:Type}:∀(l:List α) (i:Nat),(l.eraseIdx i).length<=-l
 |[],_=>IS _
 |_::_,0=>Kb _
 |_::r,i+1=>MA (l9 r i)
section
variable{X:Cx}{pins:Nd}{σ:St}{H:Hp}{s:ba}{l:ap}{xs ys:NH}
def Inv.lset{a its':NC}{n:Nat}{f:Nq->Nq}{t':Nat}(I:Inv X pins σ H s)(b:H l=some (.lst xs))
  (e : s.heap.get? l=some { cls:=.type "list",data:=.seq a.toArray n }) (c:f a.toArray=its'.toArray) (hv:aH ys its') (hz:ys.length<=sizeLine) :
  Inv X pins σ (upd H l (.lst ys)) { s with heap:=s.heap.update l (ew f),toks:=t' }:=by let q:=PySem.IsL.update e f;rw[c]at q;show I.write (x:=l) (e:=l) (by rw[b];show trivial) (.inl rfl) (λh u d g=>(Jp s.heap (ew f) (Ne.symm d)).trans g) (_,q) ?_;show(hz,its',_,hv,q)
def Inv.lnew{a:NC}{t':Nat}(I:Inv X pins σ H s)(hv:aH ys a)(hz:ys.length<=sizeLine) :
  Inv X pins σ (upd H s.heap.objs.size (.lst ys)) { s with heap:=s.heap.push { cls:=.type "list",data:=.seq a.toArray },toks:=t' } :=
 I.laid (λY Y q=>IH _ q) (IS _) (hz,a,0,hv,IW _ rfl)
theorem Inv.fresh(I:Inv X pins σ H s):H (~~~s)=NJ:=I.hok.fresh (IS _)
def Inv.lstM(I:Inv X pins σ H s)(b:H l=some (.lst xs)):xs.length<=sizeLine/\∃(a:NC) (n:Nat),aH xs a/\xs.length=a.length/\s.heap.get? l=some { cls:=.type "list",data:=.seq a.toArray n }:=by let(z,a,n,r,e):=I.hok l _ b;show(z,a,n,r,-r,e)
def xg{n:Nat}(h:n<=sizeLine):nA n=NL:=by unfold nA;show decide_eq_false (!0)
end
section
variable{X:Cx}
def Ag:V->NH->Hp->VK->Prop:=λx vs H Q=>∃l xs y,x=.ref l/\vs=[y]/\H l=NI (.lst xs)/\xs.length<sizeLine/\Q .non (upd H l (.lst (xs++[y])))
def lZ:MtM X "list.append" Ag:=by
 intro pins s σ H x vs v us Q I c rv h
 cbv;let(l,xs,y,rfl,rfl,b,hz,q):=h;cases c;let(u,rfl,d):=rv.one;let(z,a,n,r,hl,e):=I.lstM b
 w_up;show Qd F.slot_list_append (_,e,rfl) F.entry_list_append (F.args_list_append_2 _ _) (PySem.list_append l a.toArray n u (by rw[IV];lia)) (e,?_);show(.non,_,I.lset (its':=a++[u]) b e (!1) (r.append (.cons d .nil)) ?_,rfl,q);rw[Jg,JD];lia
def Af:V->NH->Hp->VK->Prop:=λx vs H Q=>∃l b xs a,x=.ref l/\vs=[.ref b]/\H l=NI (.lst xs)/\H b=NI (.lst a)/\xs.length+-a<=sizeLine/\Q .non (upd H l (.lst (xs++a)))
def uC:MtM X "list.extend" Af:=by
 intro pins s σ H x vs v us Q I g rv h
 cbv;let(l,b,xs,p,rfl,rfl,f,i,hz,q):=h;cases g;let(u,rfl,j):=rv.one;cases j;let(z,c,n,r,hl,e):=I.lstM f;let(z2,a,k,m,o,e2):=I.lstM i
 w_up;let hsz:c.toArray.size+a.toArray.size<=sizeLine:=by rw[IV,IV];lia
 let d:¬(!c.toArray.isEmpty&&nA (c.toArray.size+a.toArray.size))=NK:=by rw[xg hsz,Bool.and_false];show Ja
 show Qd F.slot_list_extend (_,e,rfl) F.entry_list_extend (F.args_list_extend_2 _ _)
  (AutoSeq1.list_extend_list_list_0 l c.toArray n b a.toArray k d (by rw[IV];lia) (!0)) (e,e2,?_)
 show(.non,_,I.lset (its':=c++a) f e (!1) (r.append m) ?_,rfl,q);rw[Jg];lia
def HJ:V->NH->Hp->VK->Prop:=λx vs H Q=>∃l xs y,x=.ref l/\vs=[]/\H l=NI (.lst xs)/\xs[xs.length-1]?=NI y/\Q y (upd H l (.lst xs.dropLast))
def yS:MtM X "list.pop" HJ:=by
 intro pins s σ H x vs v us Q I f rv h
 cbv;let(l,xs,y,rfl,rfl,d,g,q):=h;cases f;let b:=rv.zero;subst b;let(z,a,n,r,hl,e):=I.lstM d;let(u,i,j):=r.get g
 w_up;let c:a.toArray[a.toArray.size-1]?=NI u:=by show a.toArray[a.length-1]?=NI u;rw[<-r2,<-hl];show i
 show Qd F.slot_list_pop (_,e,rfl) F.entry_list_pop (F.args_list_pop_1 _) (MeetsSeq.list_pop_last l a.toArray n u c (by rw[IV];lia)) (e,?_);show(y,_,I.lset (its':=a.dropLast) d e ?_ r.dropLast ?_,j,q);show a.toArray.eraseIdxIfInBounds (a.toArray.size-1)=a.dropLast.toArray;rw[IV,H7,rZ];rw[List.length_dropLast];lia
def CO:V->NH->Hp->VK->Prop:=λx vs H Q=>∃l xs i k y,x=.ref l/\vs=[.int i]/\H l=NI (.lst xs)/\-(2 ^ 63)<=i/\i<2 ^ 63/\Zt i (-xs)=NI k/\xs[k]?=NI y/\Q y (upd H l (.lst (xs.eraseIdx k)))
def xl:MtM X "list.pop" CO:=by
 intro pins s σ H x vs v us Q I d rv h
 cbv;let(l,xs,i,k,y,rfl,rfl,c,h1,h2,hk,f,q):=h;cases d;let(u,rfl,g):=rv.one;let(t,rfl):=g;let(z,a,n,r,hl,e):=I.lstM c;let(w,hw,b):=r.get f
 w_up;show Qd F.slot_list_pop (_,e,rfl) F.entry_list_pop (F.args_list_pop_2 _ _)
  (MeetsSeq.list_pop_at l a.toArray n i t k w (fitsIndex_both h1 h2) (by rw[IV,<-hl];show hk) (by rw[<-r2];show hw) (by rw[IV];lia)) (e,?_)
 show(y,_,I.lset (its':=a.eraseIdx k) c e ?_ (r.eraseIdx k) ?_,b,q);show a.toArray.eraseIdxIfInBounds k=(a.eraseIdx k).toArray;rw[H7];let:=l9 xs k;lia
end
end _L
namespace Att
open PySem PySem.W PySem.Calls PyProof.Rows
def iU{P:Params}{h:bd}:∀(ns:Np) (vs:NC),WellAll P h vs (ns.map WData.int)->ZF vs ns:=by
 intro ns
 induction ns with
 |nil =>
  intro vs w;rw[J5]at w;cases w;show .nil
 |cons n ns c =>
  intro vs w;rw[IU]at w;cases w with
  |cons a b =>
   cases a;show .cons _ _ (c _ b)
def tD{l:OpenLaw}{n:Nat}(hn:l.most=some n){P:Params}{h:bd}{args:List WData}{b:NC}
  (c:l.row.toRowW.claim.pre args=true) (j:WellAll P h b args) :
  ∃a vs ns,b=[da a]/\args=[WData.list (ns.map WData.int)]/\h.get? a=some { cls:=.type "list",data:=.seq vs.toArray }/\ZF vs ns/\ns.length<=n:=by
 let k:WShape.hasAll [] args [.list .int]=NK:=(pre_splitW c).1;let hc:l.pre.holds [] { args:=args }=NK:=(pre_splitW c).2
 cbv;let(d,r,rfl,h1,h2):=hasAllW_cons k;obtain rfl:=hasAllW_nil h2;let(xs,rfl,h3):=hasW_list h1;let(ns,rfl):=items_int h3
 w_up;let e:-ns<=n:=by
  unfold OpenLaw.pre at hc;let g:(WTm.not (.lt (.lit (.int (n:Int))) (.len (.arg 0)))).holds [] { args:=[.list (ns.map .int)] }=NK:=by let g:=(holds_andW hc).1;rw[hn]at g;show g
  let i:=condW_of g (w_not (w_lt w_lit (w_len_list (w_arg rfl))));rw[IF]at i;show Nat.le_of_not_lt λq=>?_;let m:(n:Int)<((-ns:Nat):Int):=!0
  first
   |(rw[decide_eq_true m]at i;show absurd i (!2))
   |(simp at i;lia)
 cases j with
 |cons o p =>
  cases p;cases o with
  |list ho f=>show(_,_,ns,rfl,rfl,ho,iU ns _ f,e)
def tZ(l:OpenLaw)(args:List WData):l.row.toRowW.claim.post args (.bool NK) args=NK :=
 postW_of (r:=l.row.toRowW) (X:=(NK==NK))
  (show WShape.has [] (.bool NK) .bool=NK by first|rfl|decide|simp[WShape.has,WShape.arms,WShape.armsAll])
  (show(WTm.eq .res (.lit (.bool NK))).value [] { args:=args,res:=NI (.bool NK),after:=args }=NI (.bool (NK==NK)) from w_eq_bool (w_res rfl) w_lit) rfl
def attach_call{l:OpenLaw}{n:Nat}{q:q3}{c:ND}{s:(bx->Nm)->bd->Prop}{t:zb->bd->Prop}{d:DefRec}
  (hn:l.most=some n) (j:d.params.defaults=[])
  (call:∀(w:zb) (s₀ b:ba) (mg mb:bx->Nm) (fa:ap) (o:Obj) (pm cd doc:as) (a:ap) (vs:NC) (ns:Np),
   Ground q c [] s w s₀ mg mb b.heap->t w b.heap ->
   b.heap.get? fa=some o->o.data=.func (docDef d.name d.params d.body d.scope pm cd doc)->b.heap.CodeRec cd d.name->mg d.name=some (.ref fa) ->
   b.heap.get? a=some { cls:=.type "list",data:=.seq vs.toArray }->ZF vs ns->ns.length<=n->b.gens=#[] ->
   KM (qb l.prog w) QW (.call (.ref fa) ([.ref a],[])) (λr s'=>r=.ok (.ret (.bool true))/\OldK b.heap s'.heap/\s'.os=b.os/\Qx s'.gens) b) :
  WalkO q c s t l.row.toRowW d [] (λf vs=>Lm f vs):=by
 intro w s₀ b mg mb G Y fa o pm cd doc x kV ho hd k hD m hg args u D g v y p z
 cbv;obtain rfl:x=.none:=Dflts.none hD j;obtain rfl:kV=.none:=Dflts.noKw hD;let(a,vs,ns,rfl,rfl,h,e,i):=tD hn g p
 w_up;show enter_call (Qw (call w s₀ b mg mb fa o pm cd doc a vs ns G Y ho (fd_plain hd) k m h e i hg) λr s' A=>?_);let(rfl,h2,h3,B):=A;show(.inl (.bool NK,.bool NK,[],rfl,λZ=>rfl,.bool NK,tZ l _,λZ=>(Lu,λZ C=>(nomatch C))),h2,h3,B)
end Att
namespace _L
open PySem PySem.Spec PyProof.Rows
theorem kT:∀{vs:NC}{ns:Np},ZF vs ns->aH (ns.map V.int) vs
 |_,_,.nil=>.nil
 |_,_,.cons n t h=>.cons (t,rfl) (kT h)
def GL(H:Hp):Prop:=∀b,H b=NJ\/(∃o xs,H b=NI (.frz o (.lst xs)))\/∃q,H b=NI (.tbl q)
def xu{P:q3}{w:zb}{K:ca}{mg mb:bx->Nm}{CX:CXT}{k:Nat}{fa a:ap}{fd:kN}{x:bx}{sp:Sp}{f:ba}{vs:NC}{ns:Np}{tb:List (ap×bx)}
  (A:∀b q,tb.lookup b=some q->f.heap.get? b=some { cls:=.none,data:=.fields #[] }/\K.lookup b=none/\∃c,f.heap.TableAt c b #[]) (O:∀T q,jb K T q->tb.lookup T=some q)
  (KX:K.In f.heap) (D:f.heap.Ns ky mg) (i:f.heap.Ns K3 mb) (Q:∀x:bx,x ≠ "__name__" -> mb x=KJ x) (E:f.heap.NoLimit) (R:∃bm ob,mg "__builtins__" = some (.ref bm)/\bm≠K3/\f.heap.get? bm=some ob/\ob.cls=.type "module" /\ ob.dict=some K3/\ob.data=.plain) (hg:f.gens=#[])
  (B:f.heap.get? a=some { cls:=.type "list",data:=.seq vs.toArray }) (hi:ZF vs ns) (hl:ns.length<=sizeLine) (hr:b9 k QW)
  (F : ∀base:bd,K.In base->base.Ns ky mg->a9 P w K mg base CX k fa fd [x] sp) (C:∀(s:ba) (u:as),QJ s fd ([u],[]) [(x,u)])
  (S:∀H:Hp,GL H->SqL K H a (ns.map V.int)->sp [.ref a] H (λv W=>v=.bl true) λW W W=>False)
  (U:∀H e s',CX [] H f (λW W W=>False) e s'->False) :
  KM (qb P w) QW (.call (.ref fa) ([.ref a],[])) (λr s'=>r=.ok (.ret (.bool true))/\OldK f.heap s'.heap/\s'.os=f.os/\Qx s'.gens) f:=by
 let rv:=kT hi;let G:=-hi;let t:∀H:Hp,GL H->SqL K H a (ns.map V.int)->HOk P w H f.heap->(∀b u,H b=NI u->(b=a/\K.lookup a=NJ)\/∃q,tb.lookup b=NI q/\u=.tbl q)->(∀b q,tb.lookup b=NI q->H b=NI (.tbl q)) ->
   KM (qb P w) QW (.call (.ref fa) ([.ref a],[])) (λr s'=>r=.ok (.ret (.bool NK))/\OldK f.heap s'.heap/\s'.os=f.os/\Qx s'.gens) f:=by
  intro H hO hS hok M hB;let g:∀{b:ap}{o:Obj},f.heap.get? b=NI o->H b=NJ->(vU f.heap H).get? b=NI o:=λe n=>xD e n;let X:∀{b:ap}{o:Obj}{es:Array DictEntry}{ep:Nat},f.heap.get? b=NI o->o.data=.dict es ep->H b=NJ:=λ{b o es ep} e d=>by
   cases q:H b with
   |none=>rfl
   |some u =>
    rcases M b u q with⟨e',_⟩|⟨j,e',_⟩
    .cbv;subst e';rw[B]at e;cases e
     w_up;let d':Data.seq vs.toArray _=Data.dict es ep:=d;cases d'
    rw[(A b j e').1]at e;cases e;let d':Data.fields _=Data.dict es ep:=d;cases d'
  let l:∀{b:ap}{m:bx->Nm},f.heap.Ns b m->(vU f.heap H).Ns b m:=λ{b m} ⟨o,es,ep,e,d,r⟩=>(o,es,ep,g e (X e d),d,r)
  let I:K.In (vU f.heap H):=λb o e=>g (KX b o e) (by
   cases q:H b with
   |none=>rfl
   |some u =>
    rcases M b u q with⟨e',hk⟩|⟨j,e',_⟩
    subst e';rw[hk]at e;cases e;rw[(A b j e').2.1]at e;cases e)
  let J:∃bm ob,mg "__builtins__" = NI (.ref bm)/\bm≠K3/\(vU f.heap H).get? bm=NI ob/\ob.cls=.type "module" /\ ob.dict=NI K3/\ob.data=.plain:=by
   let(bm,ob,b1,b2,L,b4,b5,Y):=R;show(bm,ob,b1,b2,g L ?_,b4,b5,Y);cases q:H bm with
   |none=>rfl
   |some u =>
    rcases M bm u q with⟨e',_⟩|⟨j,e',_⟩
    subst e';rw[B]at L;cases L;cases Y;rw[(A bm j e').1]at L;cases L;cases Y
  let hM:Mod K mg (vU f.heap H):=(I,l D,(mb,l i,Q),let ⟨mc,h1,h2⟩:=E;(mc,l h1,h2),J)
  let N:sy P w K mg (vU f.heap H) QW [] f H:=(rfl,hM,λb o e=>A0 e,Hs (uS _ _),trivial,λb i=>absurd (show b∈([]:NE) from i) (!1),hok,.of_eq hg,λT q h=>hB T q (O T q h))
  show Qw ((F _ I (l D)).run QW [] f H ([.ref a],[]) [.ref a] [.ref a] _ _ hr N (C f (.ref a)) (.cons rfl .nil) (S H hO hS)) λr s' h=>?_;cases r with
  |error e=>show(U H e s' h).elim
  |ok fl =>
   cases fl with
   |next=>show False.elim h
   |brk=>show False.elim h
   |cont=>show False.elim h
   |ret u =>
    cbv;let(v,H',os,bare,un,y,r',q):=h;let j:v=.bl NK:=q;subst j;obtain rfl:u=lv NK:=r'
    w_up;show(rfl,(λb o e=>?_,λb o e=>un.there b o e (!1)),os,bare);cases q:H b with
    |none=>show .inl (un.keep b o e q (by intro z;show absurd (show b∈([]:NE) from z) (!1)) (!1))
    |some u =>
     rcases hO b with z|⟨ob,xs,z⟩|⟨j,z⟩
     rw[q]at z;cases z
     .let z2:=un.frzs b ob _ z
      cbv;let(e1,_):=hok b _ z;let(e2,_):=y b _ z2;rw[e]at e1;cases e1
      w_up;show .inl e2
     .let(ps,e2,_):=y b _ (un.tbls b j z);rcases M b _ z with⟨e',_⟩|⟨q2,e',_⟩
      let(a4,N,_):=hok b _ z;subst e';rw[B]at N;cases N
      .cbv;let(t1,_,c,t2):=A b q2 e';rw[e]at t1;cases t1
       w_up;show .inr (.inl (t2.isCodeTable,rfl,#[],ps,rfl,by simpa using e2))
 cases hk:K.lookup a with
 |some o =>
  let e:=KX a o hk;rw[B]at e;cases e;show t (λb=>(tb.lookup b).map .tbl) (λb=>?_) (.inr (_,vs.toArray,_,hk,rfl,rfl,rfl,by rw[IV,G];show hl,by simpa using rv)) (λb u z=>?_) (λb u z=>?_) λb q z=>by show(tb.lookup b).map HO.tbl=_;rw[z];rfl
  cases z:tb.lookup b with
  |none=>show .inl (by show(tb.lookup b).map HO.tbl=_;rw[z];rfl)
  |some q=>show .inr (.inr (q,by show(tb.lookup b).map HO.tbl=_;rw[z];rfl))
  let z:(tb.lookup b).map HO.tbl=NI u:=z;cases q:tb.lookup b with
  |none=>rw[q]at z;cases z
  |some j =>
   rw[q]at z;cases z;show(#[],(A b j q).1,trivial,λpos cv h=>by cases (show(NJ:Nm)=NI cv from h))
  let z:(tb.lookup b).map HO.tbl=NI u:=z;cases q:tb.lookup b with
  |none=>rw[q]at z;cases z
  |some j=>rw[q]at z;cases z;show .inr (j,rfl,rfl)
 |none =>
  let Z:tb.lookup a=NJ:=by
   cases z:tb.lookup a with
   |none=>rfl
   |some q =>
    let e:=(A a q z).1;rw[B]at e;cases e
  let p:∀b,b≠a->(if b=a then NI (HO.frz { cls:=.type "list",data:=.seq vs.toArray } (.lst (ns.map V.int))) else (tb.lookup b).map .tbl)=(tb.lookup b).map .tbl:=λb i=>M1 i;show t (λb=>if b=a then NI (.frz { cls:=.type "list",data:=.seq vs.toArray } (.lst (ns.map V.int))) else (tb.lookup b).map .tbl) (λb=>?_) (.inl (.inr ({ cls:=.type "list",data:=.seq vs.toArray },M0 rfl))) (λb u z=>?_) (λb u z=>?_) λb q z=>?_;by_cases i:b=a;show .inr (.inl (_,_,M0 i));dsimp only;rw[p b i];cases z:tb.lookup b with
  |none=>show .inl rfl
  |some q=>show .inr (.inr (q,rfl))
  .by_cases i:b=a
   .let z':=(M0 i).symm.trans z
    cbv;cases z';subst i
    w_up;show(B,by rw[IF];show hl,vs,_,rv,B)
   let z:(tb.lookup b).map HO.tbl=NI u:=(p b i).symm.trans z;cases q:tb.lookup b with
   |none=>rw[q]at z;cases z
   |some j =>
    rw[q]at z;cases z;show(#[],(A b j q).1,trivial,λpos cv h=>by cases (show(NJ:Nm)=NI cv from h))
  by_cases i:b=a;show .inl (i,hk);let z:(tb.lookup b).map HO.tbl=NI u:=(p b i).symm.trans z;cases q:tb.lookup b with
  |none=>rw[q]at z;cases z
  |some j=>rw[q]at z;cases z;show .inr (j,rfl,rfl)
  let i:b≠a:=λe=>by subst e;rw[Z]at z;cases z
  show(p b i).trans (by rw[z];rfl)
def zM{l:py}{n k:Nat}{q:q3}{i:ND}{E:(bx->Nm)->bd->Prop}{I:zb->bd->Prop}{d:DefRec}{K:Params->ca}{CX:zb->CXT}{sp:zb->Sp}{x:bx}
  (hn:l.most=some n) (hn2:n<=sizeLine) (t:d.params.defaults=[]) (J:b9 k QW)
  (y:∀(w:zb) (s₀:ba) (mg mb:bx->Nm) (h:bd),Lc q i [] E w s₀ mg mb h->(K w.params).In h->∃tb:List (ap×bx),(∀b q,tb.lookup b=some q->h.get? b=some { cls:=.none,data:=.fields #[] }/\(K w.params).lookup b=none/\∃c,h.TableAt c b #[])/\∀T q,jb (K w.params) T q->tb.lookup T=some q)
  (L:∀(w:zb) (h:bd),I w h->(K w.params).In h)
  (F : ∀(w:zb) (mg:bx->Nm) (fa:ap) (h:bd),(K w.params).In h->h.Ns ky mg->mg d.name=some (.ref fa) ->
   ∃fd:kN,(∀(s:ba) (u:as),QJ s fd ([u],[]) [(x,u)]) /\
    ∀base:bd,(K w.params).In base->base.Ns ky mg->a9 l.prog w (K w.params) mg base (CX w) k fa fd [x] (sp w))
  (z:∀(w:zb) (H:Hp) (a:ap) (ns:Np),ns.length<=n->GL H->SqL (K w.params) H a (ns.map V.int)->sp w [.ref a] H (λv Z=>v=.bl true) λZ Z Z=>False)
  (A:∀(w:zb) (H:Hp) (s:ba) (e:as) (s':ba),CX w [] H s (λZ Z Z=>False) e s'->False) :
  Mr q i E I l.row.toRowW d [] (λf vs=>Lm f vs):=by show Att.attach_call hn t λw s₀ p mg mb fa o pm cd doc a vs ns G Y ho hd M B r m j hg=>?_;let C:=L w _ Y;let(fd,N,hF):=F w mg fa _ C G.T.g B;let(tb,O,D):=y w s₀ mg mb _ G C;show xu O D C G.T.g G.T.b G.T.builtins G.T.nolimit G.T.bmain hg r m (IQ j hn2) J hF N (λH P Q=>z w H a ns j P Q) λH e s'=>A w H p e s'
def fg(s:Stmt)(j:Nat):Stmt:=match s with
 |.ClassDef _ _ _ body _ _ _ _ _ _ _=>body.getD j (.Pass (0,0,0,0))
 |_=>.Pass (0,0,0,0)
def cT(s:Stmt):QK:=match s with
 |.FunctionDef _ a _ _ _ _ _ _ _ _=>a
 |_=>{ posonlyargs:=[],args:=[],vararg:=NJ,kwonlyargs:=[],kw_defaults:=[],kwarg:=NJ,defaults:=[] }
def bI(s:Stmt):Nn:=match s with
 |.FunctionDef _ _ b _ _ _ _ _ _ _=>b
 |_=>[]
def ac(s:Stmt):KL:=match s with
 |.FunctionDef _ _ _ _ _ _ sc _ _ _=>sc
 |_=>{ kind:=.function,names:=[],isGenerator:=NL,isCoroutine:=NL }
abbrev CX0:CXT:=λY Y Y Y Y Y=>False
abbrev E0:XK:=λY Y Y=>False
def uf{X:Cx}:ja CX0 X E0:=λY Y Y Y Y Y Y h=>h.elim
structure Fun(K:ca)(x qual:bx)(st:Stmt)(f:ap)(fd:kN):Prop where
 ex : ∃(oc:as) (od:No) (kV doc pm:as) (an:No) (cdv ct:as) (osl:M6),
  fd = fy x qual (cT st) (bI st) (ac st) .none kV doc pm an cdv ct/\K.lookup f=some (oc,od,.func fd,osl)/\ip K cdv qual=true
 kp : eE K (.ref f)=true
section
variable{P:q3}{w:zb}{K:ca}{mg:bx->Nm}{base:bd}
def Fun.ok{x qual:bx}{st:Stmt}{f:ap}{fd:kN}{N ps:ND}{k:Nat}{sp:Sp}(F:Fun K x qual st f fd)(S:ak N ps (ac st))(len:∀vs H Q E,sp vs H Q E->vs.length=ps.length)
  (a:∀(cdv:as) (A:Around) (outer:Nu) (s:ba) (H:Hp) (vs:NH) (Q:VK) (E:XK),b9 k (A.deeper (Qq qual (ac st) s.heap.objs.size f cdv))->sp vs H Q E ->
   ∃t,PSs (sC CX0 P w K mg base N qual (ac st) f cdv A outer s H E).nox (bI st) t/\t { nx:=λY H'=>Q .non H',rt:=Q } (start N vs) H):a9 P w K mg base CX0 (k+1) f fd ps sp:=by let(oc,od,kV,doc,pm,an,cdv,ct,osl,rfl,d,b):=F.ex;show Ef d b S len λA outer s H vs Q E e c=>?_;let(t,h,q):=a cdv A outer s H vs Q E e c;show(t,h.nox,q)
def Fun.binds{x qual:bx}{st:Stmt}{f:ap}{fd:kN}{ps:ND}(F:Fun K x qual st f fd)
  (h : ∀(kV doc pm:as) (an:No) (cdv ct:as) (us:NC),-us=-ps->Qj (fy x qual (cT st) (bI st) (ac st) .none kV doc pm an cdv ct) (us,[])=pure (ps.zip us)):cV K fd ps []:=by let(oc,od,kV,doc,pm,an,cdv,ct,osl,rfl,b,a):=F.ex;show .all (h kV doc pm an cdv ct)
def uW{x qual:bx}{st:Stmt}{f:ap}{oc:as}{od an:No}{osl:M6}{kV doc pm cdv ct:as}(l:K.lookup f=NI (oc,od,.func (fy x qual (cT st) (bI st) (ac st) .none kV doc pm an cdv ct),osl))
  (c : ip K cdv qual=NK) (k:eE K (.ref f)=NK):Fun K x qual st f (fy x qual (cT st) (bI st) (ac st) .none kV doc pm an cdv ct):=((oc,od,kV,doc,pm,an,cdv,ct,osl,rfl,l,c),k)
end
def kP{c A B:Prop} [Decidable c](h1:c->A)(h2:¬c->B):if c then A else B:=by by_cases h:c;rw[M0 h];show h1 h;rw[M1 h];show h2 h
def aS(H H':Hp):Prop:=∀b o,H b=NI o->H' b=NI o
def aS.refl(H:Hp):aS H H:=λY Y h=>h
def aS.trans{H H1 d:Hp}(a:aS H H1)(b:aS H1 d):aS H d:=λc o h=>b c o (a c o h)
def aS.seq{K:ca}{H H':Hp}{a:ap}{xs:NH}(e:aS H H')(h:SqL K H a xs):SqL K H' a xs:=by rcases h with (h|⟨o,h⟩)|h;show .inl (.inl (e _ _ h));show .inl (.inr (o,e _ _ h));show .inr h
end _L
set_option maxHeartbeats 4000000
namespace _L
open PySem PySem.Spec PyProof.Rows
noncomputable def cg(env:Env):M4->Ng->Ng
 |[],a=>a
 |(n,k)::r,a=>if (k==.free)=NK then cg env r ((n,(env.cells.lookup n).getD 0)::a) else cg env r a
theorem gv{env:Env}(f:bx×NameKind->Ng->Sem (ForInStep Ng))
  (b:∀name kind cs,f (name,kind) cs=if (kind==.free)=NK then (do let c <-cellOf env name;pure (.yield ((name,c)::cs))) else pure (.yield cs)) :
  ∀(names:M4) (a:Ng),(∀y∈names,y.2=.free->(env.cells.lookup y.1).isSome=NK)->forIn names a f=(pure (cg env names a):Sem _)
 |[],a,_=>by rw[Kl];rfl
 |(n,k)::r,a,h=>by
  rw[Kr,b];unfold cg;by_cases hk:(k==dm)=NK;rw[M0 hk,M0 hk];let(c,hc):=Ka.mp (h (n,k) IL (by simpa using hk));let e:cellOf env n=pure c:=by unfold cellOf;rw[hc]
  rw[e,hc];simp only[pure_bind];show gv f b r _ λy d=>h y (IM _ d);rw[M1 hk,M1 hk];simp only[pure_bind];show gv f b r _ λy d=>h y (IM _ d)
def kF{scope:KL}{env:Env}(h:∀y∈scope.names,y.2=.free->(env.cells.lookup y.1).isSome=NK):Qc scope env=pure (cg env scope.names []):=by simp only[Qc];rw[gv (env:=env) _ (λname kind cs=>by cases hk:kind==dm <;> simp[hk]) scope.names [] h];rfl
theorem cm(env:Env)(x:bx):∀(names:M4) (a:Ng),(cg env names a).lookup x=if (x,dm)∈names then NI ((env.cells.lookup x).getD 0) else a.lookup x
 |[],a=>by simp[cg]
 |(n, k)::r,a=>by
  unfold cg;by_cases hk:(k==dm)=NK;let c:k=dm:=by simpa using hk
  subst c;rw[M0 hk,cm env x r];by_cases b:(x,dm)∈r;rw[M0 b,M0 (IM _ b)];rw[M1 b,Js];by_cases hx:x=n;subst hx;simp;let e1:(x==n)=NL:=beq_eq_false_iff_ne.mpr hx;rw[e1];let e2:¬(x,dm)∈(n,dm)::r:=by intro z;rcases IR.mp z with z|z;show hx (ir z).1;show b z
  rw[M1 e2];rw[M1 hk,cm env x r];let e2:(x,dm)∈(n,k)::r↔(x,dm)∈r:=by constructor;intro z;rcases IR.mp z with z|z;show absurd (by rw[(ir z).2.symm];rfl) hk;show z;show IM _
  by_cases b:(x,dm)∈r;rw[M0 b,M0 (e2.mpr b)];rw[M1 b,M1 (λz=>b (e2.mp z))]
theorem aZ:∀(names:M4) (n:Nat) (a:Ng),Kx n names a=Kx n names []++a
 |[],n,a=>by simp[Kx]
 |(x,k)::r,n,a=>by
  unfold Kx;split;rw[aZ r (n+1) ((x,n)::a),aZ r (n+1) [(x,n)]];simp;show aZ r n a
theorem bJ:∀(names:M4) (n:Nat) (x:bx) (c:ap),(Pm x c)∈Kx n names []->(Pm x hI)∈names/\n<=c
 |[],n,x,c,h=>by simp[Kx]at h
 |(Pm y k)::r,n,x,c,h=>by
  unfold Kx at h;split at h
  .rename_i hk;rw[aZ]at h;rcases II.mp h with h|h;let q:=bJ r (n+1) x c h;show⟨IM _ q.1,!0⟩
   .let e:(Pm x c)=(Pm y n):=by simpa using h
    cbv;cases e;let a:k=hI:=by simpa using hk
    subst a
    w_up;show⟨IL,IS _⟩
  let q:=bJ r n x c h;show⟨IM _ q.1,q.2⟩
theorem aG{α:Type}:∀{l:List (bx×α)}{x:bx}{k:α},(l.map (·.1)).Nodup->(x,k)∈l->l.lookup x=NI k
 |(y,j)::r,x,k,nd,h=>by
  rw[Js];rcases IR.mp h with e|h;cases e;simp;let a:=Jr.mp nd;let this:x≠y:=λz=>a.1 (by
   rw[<-z];show IZ.mpr ((x,k),h,rfl))
  rw[beq_eq_false_iff_ne.mpr this];show aG a.2 h
def oI{M:Model}{A:Around}{E:as->ba->Prop}{s:ba}{scope:KL}{globals:ap}{cl:Ng}{qual:bx}{env:Env}{Q:Env->ba->Prop}
  (h : Q (newEnv scope s.heap.objs.size globals (Kx (s.heap.objs.size+1) scope.names cl) qual none .none (some env) K3) { s with heap:=Qt (s.heap.push { cls:=.type "dict",data:=.dict #[] }) scope.names }) :
  kw M A (Zg scope globals cl [] qual none .none (some env)) Q E s:=by simp only[Zg,Option.isSome_some,if_true];show jj (wpAny_alloc ?_);show jj (wpAny_layCells _ (λname kind cells=>by cases hkc:kind==hI <;> simp[hkc]) _ _ _ _ ?_);rw[show({ s with heap:=s.heap.push { cls:=.type "dict",data:=.dict #[] } }:ba).heap.objs.size=(~~~s)+1 from JA ..];rw[Kl];show jj (ke (ke h))
structure cF(N:ND)(env:Env)(N':ND)(ix:M5)(sc:KL):Prop where
 kind:sc.kind=.function
 ndn:(sc.names.map (·.1)).Nodup
 free:∀y∈sc.names,y.2=.free->env.kindOf y.1=some .cell\/env.kindOf y.1=some .free
 len:ix.length=N'.length
 cap:∀(i j:Nat),ix[i]?=some (some j)->∃x,N'[i]?=some x/\N[j]?=some x/\sc.names.lookup x=some .free
theorem cF.names{N:ND}{env:Env}{N':ND}{ix:M5}{sc:KL}(S:cF N env N' ix sc):∀y∈sc.names,y.2=.local->sc.names.lookup y.1=NI .local:=λy a e=>by
 cbv;let(x,k):=y;cases e
 w_up;show aG S.ndn a
noncomputable def c5(σ:St)(ix:M5):St:=ix.map λo=>o.bind λj=>(σ[j]?).join
def sD(sc:KL)(C:ap)(env:Env):Env:=compEnvC sc (Kx (C+1) sc.names (cg env sc.names [])) C env
def bCx(X:Cx)(N':ND)(sc:KL)(s:ba)(H:Hp)(C:ap)(fp:NE):Cx where
 prog:=X.prog
 w := X.w
 K := X.K
 mg := X.mg
 base:=X.base
 A := X.A
 N := N'
 s₀ := s
 H₀ := H
 env:=sD sc C X.env
 outer:=X.stack
 stack:=X.stack
 ex := fp
 fn := λx=>decide (sc.names.lookup x=NI .cell)
 calm:=X.calm
 pn := []
 xe := λY Y=>False
theorem eN{env:Env}:∀{names:M4}{x:bx}{k:NameKind},names.lookup x=NI k ->
  (names.map λ(n,k)=>if (k==dm&&env.scope.kind==.function&&env.kindOf n==NI .cell) then (n,hI) else (n,k)).lookup x=NI (if (k==dm&&env.scope.kind==.function&&env.kindOf x==NI .cell)=NK then .cell else k)
 |[],_,_,h=>by simp at h
 |(n,j)::r,x,k,h=>by
  let a:=@eN env r x k;show fx x ((if (j==dm&&env.scope.kind==.function&&env.kindOf n==NI .cell)=NK then (n,hI) else (n,j))::_)=_;cases hx:x==n with
  |true =>
   let e:x=n:=by simpa using hx
   subst e;simp only[Js,hx]at h;let b:j=k:=di h;subst b;by_cases hc:(j==dm&&env.scope.kind==.function&&env.kindOf x==NI .cell)=NK;rw[M0 hc,M0 hc];simp[Js];rw[M1 hc,M1 hc];simp[Js]
  |false =>
   simp only[Js,hx]at h;by_cases hc:(j==dm&&env.scope.kind==.function&&env.kindOf n==NI .cell)=NK;rw[M0 hc];simp only[Js,hx];show a h;rw[M1 hc];simp only[Js,hx];show a h
theorem cC{env:Env}:∀{names:M4}{x:bx},names.lookup x=NJ ->
  (names.map λ(n,k)=>if (k==dm&&env.scope.kind==.function&&env.kindOf n==NI .cell) then (n,hI) else (n,k)).lookup x=NJ
 |[],_,_=>rfl
 |(n,j)::r,x,h=>by
  let a:=@cC env r x;show fx x ((if (j==dm&&env.scope.kind==.function&&env.kindOf n==NI .cell)=NK then (n,hI) else (n,j))::_)=_;cases hx:x==n with
  |true=>simp only[Js,hx]at h;cases h
  |false =>
   simp only[Js,hx]at h;by_cases hc:(j==dm&&env.scope.kind==.function&&env.kindOf n==NI .cell)=NK;rw[M0 hc];simp only[Js,hx];show a h;rw[M1 hc];simp only[Js,hx];show a h
def i7{sc:KL}{C:ap}{env:Env}{x:bx}{k:NameKind}(h:sc.names.lookup x=NI k):(sD sc C env).kindOf x=NI (if (k==dm&&env.scope.kind==.function&&env.kindOf x==NI .cell)=NK then .cell else k):=eN h
def vF{sc:KL}{C:ap}{env:Env}{x:bx}(h:sc.names.lookup x=NJ):(sD sc C env).kindOf x=NJ:=cC h
section
variable{X:Cx}{N':ND}{ix:M5}{sc:KL}
def i8(S:cF X.N X.env N' ix sc){C:ap}{x:bx}{c:ap}(h:(sD sc C X.env).cells.lookup x=NI c) :
  (sc.names.lookup x=NI .cell/\C+1<=c/\(x,c)∈Kx (C+1) sc.names [])\/(sc.names.lookup x=NI .free/\c=(X.env.cells.lookup x).getD 0):=by
 let e:(sD sc C X.env).cells=Kx (C+1) sc.names []++cg X.env sc.names []:=aZ _ _ _;rw[e]at h;rcases II.mp (mem_of_lookup h) with q|q;let(a,b):=bJ _ _ _ _ q;show .inl (aG S.ndn a,b,q);let fr:(x,dm)∈sc.names:=by
  let z:∀(names:M4) (f:Ng),(x,c)∈cg X.env names f->(x,c)∈f\/(x,dm)∈names:=by
   intro names
   induction names with
   |nil=>intro f h;show .inl h
   |cons y r g =>
    let(n,k):=y;intro f h;unfold cg at h;split at h;rename_i hk;let j:k=dm:=by simpa using hk
    subst j;rcases g _ h with h|h;rcases IR.mp h with h|h;cases h;show .inr IL;show .inl h;show .inr (IM _ h);rcases g _ h with h|h;show .inl h;show .inr (IM _ h)
  rcases z _ _ q with q|q;simp at q;show q
 let i:=aG S.ndn fr;let hn:(Kx (C+1) sc.names []).lookup x=NJ:=by
  cases z:(Kx (C+1) sc.names []).lookup x with
  |none=>rfl
  |some d =>
   let l:=bJ _ _ _ _ (mem_of_lookup z);let:=aG S.ndn l.1;rw[i]at this;cases this
 rw[vl,hn,cm,M0 fr]at h;show .inr (i,(di (by simpa using h)).symm)
def ft(S:cF X.N X.env N' ix sc){C:ap}{x:bx}(h:sc.names.lookup x=NI .free):(sD sc C X.env).cells.lookup x=NI ((X.env.cells.lookup x).getD 0):=by
 let e:(sD sc C X.env).cells=Kx (C+1) sc.names []++cg X.env sc.names []:=aZ _ _ _;let hn:(Kx (C+1) sc.names []).lookup x=NJ:=by
  cases z:(Kx (C+1) sc.names []).lookup x with
  |none=>rfl
  |some d =>
   let a:=bJ _ _ _ _ (mem_of_lookup z);let:=aG S.ndn a.1;rw[h]at this;cases this
 rw[e,vl,hn,cm,M0 (mem_of_lookup h)];rfl
def si{C:ap}{env:Env}{x:bx}(h:sc.names.lookup x=NI .cell):∃c,(sD sc C env).cells.lookup x=NI c:=by let e:(sD sc C env).cells=Kx (C+1) sc.names []++cg env sc.names []:=aZ _ _ _;let(c,hc):=kG (n:=C+1) h;show(c,by rw[e,vl,hc];rfl)
def o6{pins:Nd}{σ:St}{H:Hp}{s:ba}{fp:NE}(S:cF X.N X.env N' ix sc)(I:Inv X pins σ H s)(B:∀b∈fp,hV X pins H b)(w:∀b∈fp,b<s.heap.objs.size) :
  Inv (bCx X N' sc s H (s.heap.objs.size+1) fp) [] (c5 σ ix) H
   { s with heap:=Qt ((s.heap.push { cls:=.type "list",data:=.seq #[] }).push { cls:=.type "dict",data:=.dict #[] }) sc.names }:=by
 let l:(s.heap.push { cls:=.type "list",data:=.seq #[] }).objs.size=(~~~s)+1:=JA ..;let keep:∀b o,s.heap.get? b=NI o->(Qt ((s.heap.push { cls:=.type "list",data:=.seq #[] }).push { cls:=.type "dict",data:=.dict #[] }) sc.names).get? b=NI o:=λb o e =>
  Qz _ _ b o (IH _ (IH _ e))
 let ok:=cellsFrom_ok sc.names ((s.heap.push { cls:=.type "list",data:=.seq #[] }).push { cls:=.type "dict",data:=.dict #[] }) ((~~~s)+2) [] (λY Y O=>(nomatch O),Lu) (by rw[JA,l];show IS _);rw[JA,l]at ok;let a:∀x c,sc.names.lookup x=NI .free->c=(X.env.cells.lookup x).getD 0->X.env.cells.lookup x=NI c:=λx c h1 h2=>by
  let(d,hd):=I.ok.has x (S.free (x,.free) (mem_of_lookup h1) rfl);rw[hd]at h2 ⊢;rw[h2];rfl
 let g:∀x c,X.env.cells.lookup x=NI c->c<(~~~s):=λx c e=>by
  let(v,q):=I.cell x c e;show q.lt
 show((I.ok.mod,S.kind,I.ok.glob,I.ok.blt,Kb _,λx y c h1 h2=>?_,λx hx=>?_,λx c hx h=>?_,I.ok.hd,I.ok.frames,.inl rfl,λb n=>(?_,λx c h=>?_),I.bs,IQ I.ok.bsz I.sz,λb o e n=>?_,λb n=>?_,I.stack,I.stkFree,λT q h=>I.base.tbls T q (I.ok.tab T q h)),
  rfl,I.bare,Un.kept keep,(λY=>NJ,?_,λi x v e1 e2 e3=>?_),λx c h=>?_,I.hok.fresh (Kb _),λx c h=>?_,λp P=>absurd (show p∈([]:Nd) from P) (!1),I.hok.kept keep,?_)
 rcases i8 S h1 with⟨a1,f,Q⟩|⟨a1,f⟩ <;> rcases i8 S h2 with⟨a2,A,R⟩|⟨a2,A⟩
 show name_of_addr ok.apart Q R;show absurd (g y c (a y c a2 A)) (Nat.not_lt.mpr (IQ (JP _ 2) f));show absurd (g x c (a x c a1 f)) (Nat.not_lt.mpr (IQ (JP _ 2) A));show I.ok.inj x y c (a x c a1 f) (a y c a2 A);cases q:sc.names.lookup x with
 |none =>
  let z:=vF (C:=(~~~s)+1) (env:=X.env) q;rcases hx with hx|hx;show absurd (hx.symm.trans z) (!1);show absurd (hx.symm.trans z) (!1)
 |some k =>
  let z:=i7 (C:=(~~~s)+1) (env:=X.env) q;cases k with
  |free=>show(_,ft S q)
  |cell=>show si q
  |_ =>
   rcases hx with hx|hx;let:=hx.symm.trans z;simp at this;let:=hx.symm.trans z;simp at this
 let D:sc.names.lookup x=NI .cell:=of_decide_eq_true hx;rcases i8 S h with⟨_,f,_⟩|⟨a1,_⟩
 show IQ (by lia:(~~~s)<=(~~~s)+1+1) f;rw[D]at a1;cases a1;show Jd (Hh (w b n));let(L,E,F,r,G,M):=B b n;rcases i8 S h with⟨_,f,_⟩|⟨a1,f⟩
 show JR (IY (w b n) (IQ (JP _ 2) f));show G x c (a x c a1 f);let(L,E,F,r,G,M):=B b n;rcases r with r|r;show I.ok.noex b o e r;show absurd (IY (IX e) (IQ I.ok.bsz r)) (JL _);let(L,E,F,r,G,M):=B b n;intro z;rcases IR.mp (I.stkSub b z) with z|z;show E z;show F z;let q:=(Heap.Ns.new (s.heap.push { cls:=.type "list",data:=.seq #[] }) (.type "dict")).keeps (Qz sc.names _);rw[l]at q;show q
 .let hi:i< -ix:=by
   let z:=(IN.mp e2).1;simpa[c5] using z
  let J:(c5 σ ix)[i]?=(ix[i]?).map λo=>o.bind λj=>(σ[j]?).join:=Jt ..;rw[J,IK hi]at e2;let e2:(ix[i]).bind (λj=>(σ[j]?).join)=NI v:=di e2;cases q:ix[i] with
  |none=>rw[q]at e2;cases e2
  |some j =>
   rw[q]at e2;let e2:(σ[j]?).join=NI v:=e2;let e2:σ[j]?=NI (NI v):=by
    cases z:σ[j]? with
    |none=>rw[z]at e2;cases e2
    |some w'=>rw[z]at e2;let e2:w'=NI v:=e2;rw[e2]
   cbv;let(y,c1,c2,c3):=S.cap i j (by rw[IK hi,q]);let K:x=y:=di (e1.symm.trans c1);subst K;let kd:=S.free (x,.free) (mem_of_lookup c3) rfl;let(m,hn,hl):=I.loc;let(u,U,V):=hl j x v c2 e2 (by rcases kd with k|k;show .inr (.inl k);show .inr (.inr k))
   w_up;show(u,U,.inr (?_,?_));rw[show(bCx X N' sc s H ((~~~s)+1) fp).env.kindOf x=_ from i7 (C:=(~~~s)+1) (env:=X.env) c3];split;show .inl rfl;show .inr rfl;rcases V with⟨k,_⟩|⟨_,c,hc,t⟩
   rcases kd with k'|k' <;> rw[k]at k' <;> cases k'
   show(c,?_,t.keeps keep);let:=ft S (C:=(~~~s)+1) c3;rw[hc]at this;show this
 rcases i8 S h with⟨_,f,q⟩|⟨a1,f⟩
 show(NJ,(ok.empty x c q).1);let(v,q):=I.cell x c (a x c a1 f);show(v,q.keeps keep);rcases i8 S h with⟨_,f,q⟩|⟨a1,f⟩
 show I.hok.fresh (IQ (JP _ 2) f);show I.freeC x c (a x c a1 f);show(c5 σ ix).length=-N';simp[c5,S.len]
def i6{pins pins':Nd}{σ d:St}{H H':Hp}{s s':ba}{fp:NE}{C:ap}(S:cF X.N X.env N' ix sc)(I:Inv X pins σ H s)(l:∀b∈fp,hV X pins H b)
  (a:Inv (bCx X N' sc s H C fp) pins' d H' s'):Inv (bCx X N' sc s H C fp) pins' (c5 σ ix) H' s':=by
 show(a.ok,a.os,a.bare,a.base,?_,a.cell,a.free,a.freeC,a.pin,a.hok,by show(c5 σ ix).length=-N';simp[c5,S.len]);let(n,f,_):=a.loc;show(n,f,λi x v e1 e2 e3=>?_);let hi:i< -ix:=by let z:=(IN.mp e2).1;simpa[c5] using z
 let g:(c5 σ ix)[i]?=(ix[i]?).map λo=>o.bind λj=>(σ[j]?).join:=Jt ..;rw[g,IK hi]at e2;let e2:(ix[i]).bind (λj=>(σ[j]?).join)=NI v:=di e2;cases q:ix[i] with
 |none=>rw[q]at e2;cases e2
 |some j =>
  rw[q]at e2;let e2:(σ[j]?).join=NI v:=e2;let e2:σ[j]?=NI (NI v):=by
   cases z:σ[j]? with
   |none=>rw[z]at e2;cases e2
   |some w'=>rw[z]at e2;let e2:w'=NI v:=e2;rw[e2]
  cbv;let(y,c1,c2,c3):=S.cap i j (by rw[IK hi,q]);let h:x=y:=di (e1.symm.trans c1);subst h;let kd:=S.free (x,.free) (mem_of_lookup c3) rfl;let(m,hn,hl):=I.loc;let(u,p,r):=hl j x v c2 e2 (by rcases kd with k|k;show .inr (.inl k);show .inr (.inr k))
  w_up;show(u,p,.inr (?_,?_));rw[show(bCx X N' sc s H C fp).env.kindOf x=_ from i7 (C:=C) (env:=X.env) c3];split;show .inl rfl;show .inr rfl;rcases r with⟨k,_⟩|⟨_,c,hc,o,ho,hd⟩
  rcases kd with k'|k' <;> rw[k]at k' <;> cases k'
  show(c,?_,?_);let:=ft S (C:=C) c3;rw[hc]at this;show this;let(sl,e):=a.base.any ho (I.freeC x c hc) λz=>(l c z).2.2.2.2.1 x c hc rfl;show(_,e,hd)
def PIf(X:Cx)(ifs:NF)(t:TT):Prop :=
 ∀(pins:Nd) (s:ba) (σ:St) (H:Hp) (Q:Bool->Hp->Prop),Inv X pins σ H s->t σ H Q ->
  kw (qb X.prog X.w) X.A (forIn ifs NK λc r=>if r=NK then do let ok <-QF c X.env (eval c X.env);pure (ForInStep.yield ok) else pure (ForInStep.yield r)) (TP X pins σ Q) X.xe s
def HA:TT:=λY H Q=>Q NK H
def AD{X:Cx}:PIf X [] HA:=λY Y Y H Y I h=>wpAny_tests_nil (H,I,h)
def AC{X:Cx}{c:bb}{t:TT}(h:PT X c t):PIf X [c] t:=λpins s σ H Q I hw=>wpAny_tests_one (h pins s σ H Q I hw)
def mJ{prog:q3}{w:zb}{A:Around}{R:Q2->ba->Prop}{s:ba}{elt a iter:bb}{ifs:NF}{scope:KL}{pos:Pos}{it k:as}{env:Env}(I:Nat->ba->Prop)
  (turn : ∀n s,I n s->kw (qb prog w) A (Qo it) (λr b=>match r with
   |none=>R (.ok .next) b
   |some v=>kw (qb prog w) A (QA a it v) (λY d=>kw (qb prog w) A (Qm a env v) (λY f =>
     kw (qb prog w) A (forIn ifs NK λc r=>if r=NK then do let ok <-QF c env (eval c env);pure (ForInStep.yield ok) else pure (ForInStep.yield r)) (λok e =>
      if ok=NK then kw (qb prog w) A (eval elt env) (λx g =>
       kw (qb prog w) A (call (.builtin "list.append") [k,x]) (λY i=>∃m,m<n/\I m i) (λY Y=>False) g) (λY Y=>False) e
      else ∃m,m<n/\I m e) (λY Y=>False) f) (λY Y=>False) d) (λY Y=>False) b) (λY Y=>False) s)
  (n : Nat) (h:I n s):KM (qb prog w) A (.compLoop (.ListComp elt [(a,iter,ifs,0)] scope pos) 0 it k env) R s:=by
 show codeAny_loop rfl I (λn s t=>?_) n h;show kw _ A ((compTurn (.ListComp elt [(a,iter,ifs,0)] scope pos) 0 it k env).onRaise (λx=>do noteFrame x env;theTreesLotGoes x)) _ _ s;show wpAny_noted ?_;rw[compTurn_list];show jj (Qp (jj (z3 (turn n s t) (λr b h₁=>?_) λY Y h'=>h'.elim)));cases r with
 |none=>show ke h₁
 |some v =>
  show jj (z3 h₁ (λY d l=>jj (z3 l (λY f o=>jj (z3 o (λok e j=>?_) λY Y h'=>h'.elim)) λY Y h'=>h'.elim)) λY Y h'=>h'.elim);cases ok with
  |false=>show ke (rfl,j)
  |true =>
   show jj (jj (z3 j (λx g p=>jj (z3 p (λY i q=>ke (ke (rfl,q))) λY Y h'=>h'.elim)) λY Y h'=>h'.elim))
def yq(J:It)(σ0:St)(g:TG)(tt:TT)(te:TE)(H1:Hp)(f:NH->Hp->Prop):Prop :=
 ∃W : Nat->Nat->NH->Hp->Prop,(∃m,W 0 m [] H1)/\∀i m ys H,W i m ys H ->
  (J.stop i H/\f ys H) \/
  (J.go i H/\ys.length<sizeLine/\∃N:NH->Hp->Prop,(∀a H',N a H'->∃d,d<m/\W (i+1) d a H') /\
   ∀x H',J.yld i H x H'->g x σ0 H' λc h=>tt c h λb e=>if b=NK then te c e λy j=>N (ys++[y]) j else N ys e)
def qT{tg iter elt:bb}{ifs:NF}{pos:Pos}{g:TG}{tt:TT}{te:TE}{pins:Nd}{σ:St}{H:Hp}{s:ba}{it:ap}{fp:NE}{tn:Nat->bd->Prop}{J:It}{Qe:NH->Hp->Prop}
  {RR:as->ap->Q2->ba->Prop}{E:as->ba->Prop}
  (hc:X.calm=true) (S:cF X.N X.env N' ix sc) (hg:∀s H C fp,PG (bCx X N' sc s H C fp) tg g) (ht:∀s H C fp,PIf (bCx X N' sc s H C fp) ifs tt) (he:∀s H C fp,PE (bCx X N' sc s H C fp) elt te)
  (I : Inv X pins σ H s) (T:zD X.prog X.w X.K tg J fp it tn) (st:tn 0 s.heap) (Z:∀b∈fp,hV X pins H b) (hw:yq J (c5 σ ix) g tt te H Qe)
  (fin:∀s' H' ys m,s'.heap.Ns (s.heap.objs.size+1) m->H' s.heap.objs.size=none->H' (s.heap.objs.size+1)=none->Qe ys H'->Inv X pins σ (upd H' s.heap.objs.size (.lst ys)) s'->RR (.ref s.heap.objs.size) (s.heap.objs.size+1) (.ok .next) s') :
  kw (qb X.prog X.w) X.A (newList []) (λa4 a5=>kw (qb X.prog X.w) X.A (Zg sc X.env.globals (cg X.env sc.names []) [] X.env.qual none .none (some X.env)) (λG a6 =>
   KM (qb X.prog X.w) X.A (.compStart (.ListComp elt [(tg,iter,ifs,0)] sc pos) 0 (.ref it) a4 { G with scope:=relabel sc X.env }) (RR a4 G.locals) a6) E a5) E s:=by
 let a7:∀b∈fp,b<(~~~s):=λb f=>by
  let(o,e,_):=T.obj _ _ st b f;show IX e
 show zh (oI ?_);let c6:(s.heap.push { cls:=.type "list",dict:=NJ,data:=.seq ([]:NC).toArray }).objs.size=(~~~s)+1:=JA ..;let I0:=o6 S I Z a7;let(W,(m0,w0),turn):=hw;let nD:∀b∈fp,(~~~s)≠b:=λb f=>JR (a7 b f);let F:H (~~~s)=NJ:=I.hok.fresh (IS _);let M:∀x c,(sD sc ((~~~s)+1) X.env).cells.lookup x=NI c->c≠(~~~s):=λx c h=>by
  rcases i8 S h with⟨_,b1,_⟩|⟨a1,b1⟩
  show JR (IY (Hh (JO _)) b1);let(d,hd):=I.ok.has x (S.free (x,.free) (mem_of_lookup a1) rfl);rw[hd]at b1;let(v,q):=I.cell x d hd;let e:c=d:=b1;rw[e];show Jd q.lt
 let b0:(~~~s) ∉ frs X.stack:=λz=>by
  rcases IR.mp (I.stkSub _ z) with z|z;show absurd I.lt (by rw[<-z];show JL _);show I.nofs (IS _) z
 let b2:∀{pins':Nd}{H':Hp},(∀b∈fp,H' b=NJ)->(∀p∈pins',∀b∈fp,p.1≠b)->∀b∈fp,hV (bCx X N' sc s H ((~~~s)+1) fp) pins' H' b:=λ{pins' H'} h1 h2 b f =>
  (h1 b f,(I0.ok.exf b f).1,I0.ok.exfs b f,.inl f,(I0.ok.exf b f).2,λp t=>h2 p (by simpa[bCx] using t) b f)
 let O:(Qt ((s.heap.push { cls:=.type "list",data:=.seq #[] }).push { cls:=.type "dict",data:=.dict #[] }) sc.names).get? (~~~s)=NI { cls:=.type "list",data:=.seq #[] } :=
  Qz _ _ _ _ (IH _ (IW _ rfl))
 let d0:Inv (bCx X N' sc s H ((~~~s)+1) fp) [((~~~s),{ cls:=.type "list",data:=.seq #[] })] (c5 σ ix) H _:=I0.pins_of (pins':=[((~~~s),{ cls:=.type "list",data:=.seq #[] })]) λp t=>by
  let e:p=((~~~s),{ cls:=.type "list",data:=.seq #[] }):=by simpa using t
  subst e;show(O,F,Jd (JO _),b0,λv z=>by cases z)
 let b3:tn 0 (Qt ((s.heap.push { cls:=.type "list",data:=.seq #[] }).push { cls:=.type "dict",data:=.dict #[] }) sc.names):=T.keep _ _ _ st λb f o e=>Qz _ _ _ _ (IH _ (IH _ e));let loop:∀U:ba,U={ s with heap:=Qt ((s.heap.push { cls:=.type "list",data:=.seq #[] }).push { cls:=.type "dict",data:=.dict #[] }) sc.names } ->
   KM (qb X.prog X.w) X.A (.compLoop (.ListComp elt [(tg,iter,ifs,0)] sc pos) 0 (.ref it) (.ref (~~~s)) (sD sc ((~~~s)+1) X.env)) (RR (.ref (~~~s)) ((~~~s)+1)) U:=by
  rintro U rfl;show mJ (λn s'=>∃(i:Nat) (ys:NH) (a:NC) (k:Nat) (H':Hp),Inv (bCx X N' sc s H ((~~~s)+1) fp) [((~~~s),{ cls:=.type "list",data:=.seq a.toArray k })] (c5 σ ix) H' s' /\
   tn i s'.heap/\(∀b∈fp,H' b=NJ)/\aH ys a/\ys.length<=sizeLine/\W i n ys H') ?_ m0 (0,[],[],0,H,d0,b3,λb f=>(Z b f).1,.nil,Jb _,w0)
  rintro n s3 ⟨i,ys,a,k,H3,I3,b4,d3,rv,hz,w3⟩;let b5:=b2 (pins':=[((~~~s),{ cls:=.type "list",data:=.seq a.toArray k })]) d3 (λp t b f=>by
   let e:p=((~~~s),{ cls:=.type "list",data:=.seq a.toArray k }):=by simpa using t
   rw[e];show nD b f)
  rcases turn i n ys H3 w3 with⟨stop,qe⟩|⟨go,h0,N,hN,step⟩
  .show thn (T.done (bCx X N' sc s H ((~~~s)+1) fp) rfl rfl rfl hc i _ s3 _ H3 (λV V=>False) I3 b5 b4 stop) λr U e0=>?_
   cbv;let(hr,B):=e0;subst hr;let(pg,pn,_):=B.pin ((~~~s),{ cls:=.type "list",data:=.seq a.toArray k }) (IE _ IL);let(m,hm,_):=B.loc
   w_up;show fin U H3 ys m hm pn B.free qe ?_;show I.call' (ch:=fp) B.os (B.base.keep,B.base.slot,λb o e n hx=>?_,B.base.there,λb xs q=>?_,λb o u q=>?_,λb ps q=>?_) (λb o e=>?_) B.bare λb f=>?_;rw[al (Jd (IX e))];show B.base.free b o e n hx;let L:=B.base.tups b xs q;rw[al (au L pn)];show L;let L:=B.base.frzs b o u q;rw[al (au L pn)];show L;let L:=B.base.tbls b ps q;rw[al (au L pn)];show L
   .by_cases f:b=(~~~s)
    .cbv;subst f;rw[aq]at e;cases e
     w_up;show(hz,a,k,rv,pg)
    rw[al f]at e;show(B.hok b o e).stay (λc v V q=>q) (λc q=>by rw[al (au q pn)];show q) λc xs V q=>by rw[al (au q pn)];show q
   let(f0,f1,f2,f3,f4,f5):=Z b f;show(f3,f1,f4,f5)
  .show thn (T.item (bCx X N' sc s H ((~~~s)+1) fp) rfl rfl rfl hc i _ s3 _ H3 (λV V=>False) I3 b5 b4 go) λr U e4=>?_;let(u,hr,h4):=e4;subst hr;show thn h4 λV s5 e5=>?_;let(x,H5,I5,r5,y5,P,e6):=e5;let e7:=b2 (pins':=[((~~~s),{ cls:=.type "list",data:=.seq a.toArray k })]) e6 (λp t b f=>by
    let e:p=((~~~s),{ cls:=.type "list",data:=.seq a.toArray k }):=by simpa using t
    rw[e];show nD b f)
   let e8:=I5.pinned e7 (T.obj _ _ P);show thn (hg s H _ fp _ s5 _ H5 x u _ e8 r5 (step x H5 y5)) λV s6 e9=>?_;let(D,H6,I6,q6):=e9;let j:∀{b6:St}{Y:Hp}{s7:ba},Inv (bCx X N' sc s H ((~~~s)+1) fp) ([((~~~s),{ cls:=.type "list",data:=.seq a.toArray k })]++gG fp s5.heap) b6 Y s7 ->
     tn (i+1) s7.heap/\(∀b∈fp,Y b=NJ):=λ{b6 Y s7} Q=>by
    show(T.keep _ _ _ P λb f o e=>(Q.pin (b,o) (IE _ (IE _ (d7 f e)))).1,λb f=>?_);let(o,e,d):=T.obj _ _ P b f;show(Q.pin (b,o) (IE _ (IE _ (d7 f e)))).2.1
   show thn (ht s H _ fp _ s6 D H6 _ I6 q6) λok s7 g0=>?_;let(Y,Q,q7):=g0;cases ok with
   |false =>
    rw[M1 Ja]at q7 ⊢;let(m',R,w7):=hN _ _ q7;show(m',R,i+1,ys,a,k,Y,i6 S I Z Q.unpinned,(j Q).1,(j Q).2,rv,hz,w7)
   |true =>
    rw[M0 rfl]at q7 ⊢;show thn (he s H _ fp _ s7 D Y _ Q q7) λxv s8 g4=>?_
    cbv;let(y,H8,I8,r8,q8):=g4;let(m',R,w8):=hN _ _ q8;let(pg,pn,_):=I8.pin ((~~~s),{ cls:=.type "list",data:=.seq a.toArray k }) (IE _ (IJ _ IL))
    w_up;show wpAny_list_append_plain (l:=(~~~s)) (items:=a.toArray) (k,pg) (λh9 g5 c4=>?_) (by let:=-rv;simp;lia);let(k9,g9):=g5;let g6:Inv (bCx X N' sc s H ((~~~s)+1) fp) (gG fp s5.heap) D H8 s8:=I8.pins_of λp t=>I8.pin p (IE _ (IE _ t));let I9:Inv (bCx X N' sc s H ((~~~s)+1) fp) (gG fp s5.heap) D H8 { s8 with heap:=h9 }:=g6.turned (t':=s8.toks) (it:=(~~~s)) (λb o f e=>c4.extBut b o f e) pn (Jd (JO _)) (.inr (IS _)) M
     λp t=>by
      let g7:p∈gG fp s5.heap:=by simpa[bCx] using t
      show(nD _ (lW g7).1).symm
    let g8:Inv (bCx X N' sc s H ((~~~s)+1) fp) [((~~~s),{ cls:=.type "list",data:=.seq (a++[xv]).toArray k9 })] D H8 { s8 with heap:=h9 }:=I9.pins_of λp t=>by
     let e:p=((~~~s),{ cls:=.type "list",data:=.seq (a++[xv]).toArray k9 }):=by simpa using t
     subst e;show(?_,pn,Jd (JO _),b0,λv z=>by cases z);simpa using g9
    show(m',R,i+1,ys++[y],a++[xv],k9,H8,i6 S I Z g8,?_,(j I8).2,rv.append (.cons r8 .nil),by simp;lia,w8);show T.keep _ _ _ (j I8).1 λb f o e=>c4.extBut b o (nD b f).symm e
 let key:=codeAny_compStart_list (iter:=iter) (loop _ rfl) (T.self X.A 0 { s with heap:=Qt ((s.heap.push { cls:=.type "list",data:=.seq #[] }).push { cls:=.type "dict",data:=.dict #[] }) sc.names } _ _ b3 (loop _ rfl));simpa only[newEnv,c6,sD,compEnvC] using key
def sR(b:TI)(ix:M5)(g:TG)(tt:TT)(te:TE):TE:=λσ H Q=>b σ H λJ H1=>yq J (c5 σ ix) g tt te H1 λys a=>∀p,a p=NJ->Q (.ref p) (upd a p (.lst ys))
def cF.clos{pins:Nd}{σ:St}{H:Hp}{s:ba}(S:cF X.N X.env N' ix sc)(I:Inv X pins σ H s):Qc sc X.env=pure (cg X.env sc.names []) :=
 kF λy a e=>by
  let(c,hc):=I.ok.has y.1 (S.free y a e);rw[hc];rfl
def oq{tg iter elt:bb}{ifs:NF}{pos:Pos}{i:TI}{g:TG}{tt:TT}{te:TE}(hc:X.calm=true)(S:cF X.N X.env N' ix sc)(hi:PI X tg iter i)
  (hg:∀s H C fp,PG (bCx X N' sc s H C fp) tg g) (ht:∀s H C fp,PIf (bCx X N' sc s H C fp) ifs tt) (l:∀s H C fp,PE (bCx X N' sc s H C fp) elt te)
  (hs:∀x,KC iter X.env x=pure x:=by intro _;rfl):PE X (.ListComp elt [(tg,iter,ifs,0)] sc pos) (sR i ix g tt te):=by
 intro pins s σ H Q I h;rw[eval_ListComp];show Zn (use:=NJ) rfl hs (S.clos I) S.kind S.names (thn (hi pins s σ H _ I h) λv s1 h1=>thn h1 λn s2 a=>?_);let(it,fp,tn,J,F,e,j,T,c,k,hw):=a;subst e;show qT (RR:=λd C=>compPost (qb X.prog X.w) X.A X.xe NJ (EP X pins σ Q) d C) hc S hg ht l j T c k hw λs' H' ys m hn hD p q r=>?_;show(m,hn,λh' f=>?_);let t:(upd H' (~~~s2) (.lst ys)) ((~~~s2)+1)=NJ:=by rw[al (JR (JO _))];show p
 let(u,y,k,z,B,D):=j.fpOk (H':=upd H' (~~~s2) (.lst ys)) (b:=(~~~s2)+1) (Kb _) t;show(.ref (~~~s2),_,r.turned (t':=s'.toks) (it:=(~~~s2)+1) (λb o E e=>f.extBut b o E e) u y z B D,rfl,q _ hD)
def jC{i:Nat}{y:bx}{tg iter elt:bb}{ifs:NF}{pos c d:Pos}{E:TI}{g:TG}{tt:TT}{te:TE}(hN:X.N.Nodup)(f:X.N[i]?=some y)(F:X.env.scope.names.lookup y=some .local)
  (hc:X.calm=true) (S:cF X.N X.env N' ix sc) (hi:PI X tg iter E)
  (hg:∀s H C fp,PG (bCx X N' sc s H C fp) tg g) (ht:∀s H C fp,PIf (bCx X N' sc s H C fp) ifs tt) (O:∀s H C fp,PE (bCx X N' sc s H C fp) elt te)
  (j:Qn (.ListComp elt [(tg,iter,ifs,0)] sc pos) (some (.Name y d)) c.line X.env=pure true:=by rfl)
  (hs:∀x,KC iter X.env x=pure x:=by intro _;rfl):PS X (.Assign [.Name y d] (.ListComp elt [(tg,iter,ifs,0)] sc pos) c) (Cd (sR E ix g tt te) (uV i)):=by
 intro pins s σ H D I h;rw[exec_Assign_Name_used _ _ _ _ j];show jj (Qp (jj ?_));show kw _ X.A (do let _ <-comprehension (.ListComp elt [(tg,iter,ifs,0)] sc pos) sc X.env _ (newList []) NL (eval iter X.env) (NI (Qm (.Name y d) X.env))) _ _ s;show jj (z3 (Zn (use:=NI (Qm (.Name y d) X.env)) (Q:=λ_ s'=>SP X pins D .next s') rfl hs (S.clos I) S.kind S.names
  (thn (hi pins s σ H _ I h) λv s1 h1=>thn h1 λP s2 ⟨it,fp,tn,J,H2,e,G,T,k,K,hw⟩=>?_)) (λ_ s' R=>ke (ke R)) λ_ _ e=>e)
 subst e;show qT (RR:=λl C=>compPost (qb X.prog X.w) X.A X.xe (NI (Qm (.Name y d) X.env)) (λ_ s'=>SP X pins D .next s') l C) hc S hg ht O G T k K hw λs' H' ys m hn hD U q V=>?_;let W:(upd H' (~~~s2) (.lst ys)) ((~~~s2)+1)=NJ:=by rw[al (JR (JO _))];show U
 let(Y,L,K,Z,M,f5):=G.fpOk (H':=upd H' (~~~s2) (.lst ys)) (b:=(~~~s2)+1) (Kb _) W;show kw _ X.A (Qm (.Name y d) X.env (.ref (~~~s2))) _ _ _;show wpAny_assign_Name (lf (v:=.ref (~~~s2)) V hN f (.inl F) rfl (λn p r=>?_) (.inr F));let(a,t,u):=r;let ne:(~~~s2)+1≠a:=by
  rcases u with rfl|u;show L
  exactλz=>M y a u z.symm
 show(m,hn.sameBut t ne,λh' B=>?_);show(_,_,p.turned (t':=n.toks) (it:=(~~~s2)+1) (λb o hb e=>B.extBut b o hb e) Y L Z M f5,q _ hD)
end
open Sem (wp)
section
variable{prog:q3}{w:zb}
def cY(prog:q3)(w:zb)(h:bd)(k:Int×Np)(a:ap):Prop :=
 ∃o t b n,h.get? a=NI o/\o.cls=.type "tuple" /\ o.data=.seq #[.int k.1 t,.ref b] n/\IsTupleKey (K7 prog w) h k.2 b
def d9(i:Int)(t:Tok):(K7 prog w).is i (.int i t)=NK:=by simp[K7,MT]
def cY.typeIs{s:ba}{k:Int×Np}{a:ap}(x:cY prog w s.heap k a):s.TypeIs (.ref a) "tuple" := let ⟨o,_,_,_,ho,hc,_⟩:=x;(o,ho,hc)
theorem cY.inj{h:bd}{a:ap}{x y:Int×Np}(hx:cY prog w h x a)(f:cY prog w h y a):x=y:=by
 cbv;let(x1,g):=x;let(y1,i):=y;let(o,t,b,n,ho,_,hd,hi):=hx;let(o',t',j,k,d,_,c,e):=f;obtain rfl:o=o':=di (ho.symm.trans d);rw[hd]at c;injection c with h1 _;simp only[Array.mk.injEq,gf,Value.int.injEq,Value.ref.injEq,and_true]at h1;let((e1,_),e2):=h1;subst e2
 w_up;let e3:g=i:=hi.inj e;rw[e1,e3]
theorem cY.keeps{h h':bd}{k:Int×Np}{a d:ap}{o:Obj}{es ep}(x:cY prog w h k a)(ho:h.get? d=NI o)(hd:o.data=.dict es ep)(hs:hY d h h') :
  cY prog w h' k a:=by
 let(o',t,b,n,e,hc,c,hi):=x;let f:a≠d:=by rintro rfl;obtain rfl:o'=o:=di (e.symm.trans ho);rw[hd]at c;show nomatch c
 show(o',t,b,n,(hs.2 a f).trans e,hc,c,hi.keeps ho hd hs)
noncomputable def nt(prog:q3)(w:zb)(k:Int×Np):Int:=Zf (ek [QU k.1,ZA (K7 prog w) k.2])
variable{A:Around}{E:as->ba->Prop}{s:ba}
def rh{k:Int×Np}{a:ap}{Q:Int->ba->Prop}(l:A.units+1<KD)(hk:cY prog w s.heap k a)(h:Q (nt prog w k) { s with toks:=s.toks+(k.2.length+3) }) :
  kw (qb prog w) A (pyHash (.ref a)) Q E s:=by
 let i:=hk.typeIs;let(g,f):=k;let(o,t,j,n,ho,_,hd,hi):=hk;unfold pyHash
 first|unfold pyHashByItsType|skip
 first|show jj (wpAny_cRoomFor_or (.inr (!0)) ?_)|skip
 show jj (K0 i F.slot_tuple_hash.lookup ?_);show kw _ _ (if (NI (Value.builtin "tuple.__hash__")==NI eC)=NK then _ else _) Q E s;rw[M1 (by rw[beq_builtin_none];show Ja)];show jj (K0 i F.slot_tuple_hash.lookup ?_);show kw _ _ (callSpecialIfBoundUnlessNone? (.ref a) "__hash__" _ >>= _) Q E s;show jj (wpAny_callSpecialIfBoundUnlessNone?_slot i F.slot_tuple_hash (z4 F.slot_tuple_hash i F.entry_tuple_hash ?_ (F.args_tuple_hash_1 _)));show kw _ _ (ti (.ref a) >>= _) _ _ s;show jj (QQ ho hd ?_);show jj ?_;rw[<-vb];show Qs _
  (λrest (b:Array Int) s'=>(rest=[.int g t,.ref j]/\b.toList=[]/\s'=s)\/(rest=[.ref j]/\b.toList=[QU g]/\s'={ s with toks:=s.toks+1 })\/(rest=[]/\b.toList=[QU g,ZA (K7 prog w) f]/\s'={ s with toks:=s.toks+1+(-f+1) }))
  _ ?_ ?_ _ _ (.inl (rfl,rfl,rfl))
 rintro x rest b s' (⟨c,d,rfl⟩|⟨c,d,rfl⟩|⟨c,d,rfl⟩);injection c with e1 e2;subst e1 e2;show jj ((K7 prog w).pyHash (d9 g t) ?_)
 first
  |show ke (.inr (.inl ⟨rfl,by simp[d,K7],rfl⟩))
  |show jj (ke (ke (.inr (.inl ⟨rfl,by simp[d,K7],rfl⟩))))
 injection c with e1 e2;subst e1 e2;show jj (wpAny_pyHash_tuple (knd:=K7 prog w) l hi ?_)
 first
  |show ke (.inr (.inr ⟨rfl,by simp[d],rfl⟩))
  |show jj (ke (ke (.inr (.inr ⟨rfl,by simp[d],rfl⟩))))
 cases c;rintro b s' (⟨c,d,rfl⟩|⟨c,d,rfl⟩|⟨c,d,rfl⟩);cases c;cases c;show kw _ _ (retInt (ek b.toList)) _ _ _;rw[d];show wpAny_ret_mkInt ?_;show kw _ _ (if (decide (-(2:Int) ^ 63<=ek _)&&decide (ek _<2 ^ 63))=NK then _ else _) Q E _;unfold nt Zf at h;generalize ek [QU g,ZA (K7 prog w) f]=z at *;by_cases c:(decide (-(2:Int) ^ 63<=z)&&decide (z<2 ^ 63))=NK;rw[M0 c];rw[M0 c]at h;show ke ?_;let e:s.toks+1+(-f+1)+1=s.toks+(-f+3):=!0
 simpa[e] using h;rw[M1 c];rw[M1 c]at h;show jj (KO (ke ?_));let e:s.toks+1+(-f+1)+1=s.toks+(-f+3):=!0
 simpa[e] using h
def nr{x y:Int×Np}{a b:ap}{P:Fin->ba->Prop}(t:A.units<KD)(hx:cY prog w s.heap x a)(o:cY prog w s.heap y b)(h:P (.done (.ret (.bool (decide (x=y))))) s) :
  kw (qb prog w) A (Builtin.«tuple.__eq__» ⟨[.ref a,.ref b],[]⟩) P E s:=by
 let e:=o.typeIs
 cbv;let(x1,c):=x;let(y1,d):=y;let(z,ta,p,na,f,_,g,i):=hx;let(ob,tb,q,nb,j,_,k,l):=o
 w_up;show kw _ _ (isInstance (.ref b) (.type "tuple") >>= _) _ _ s;show jj (KT e QC ?_);simp only[J7,Jj,if_false];show jj (QQ f g ?_);show jj (QQ j k ?_);show jj ?_;show Qs _
  (λrest r s'=>r.1=NJ/\s'=s/\(rest=[(Pm (.int x1 ta) (.int y1 tb)),(Pm (.ref p) (.ref q))]\/(rest=[(Pm (.ref p) (.ref q))]/\x1=y1)\/(rest=[]/\x1=y1/\c=d)))
  _ ?_ ?_ _ _ ⟨rfl,rfl,.inl rfl⟩
 rintro⟨u,v⟩ rest r s' ⟨m,rfl,(hz|⟨hz,e1⟩|⟨hz,_⟩)⟩;simp only[gf,lc]at hz;let((rfl,rfl),rfl):=hz;show jj ((K7 prog w).eqBool (d9 x1 ta) (d9 y1 tb) ?_);by_cases hk:x1=y1;subst hk;rw[decide_eq_true rfl];simp only[J7,Jj,if_false];show ke ⟨rfl,rfl,.inr (.inl (!1))⟩;rw[decide_eq_false hk];simp only[MK,if_true];let n:decide ((Pm x1 c)=(Pm y1 d))=NL:=by simp[hk]
 rw[n]at h;show jj (ke (ke (ke h)));simp only[gf,lc]at hz;let((rfl,rfl),rfl):=hz;show jj (wpAny_eqBool_tuple t i l ?_);by_cases hk:c=d;rw[decide_eq_true hk];simp only[J7,Jj,if_false];show ke ⟨rfl,rfl,.inr (.inr (by simp[e1,hk]))⟩;rw[decide_eq_false hk];simp only[MK,if_true];let n:decide ((Pm x1 c)=(Pm y1 d))=NL:=by simp[hk]
 rw[n]at h;show jj (ke (ke (ke h)));cases hz;rintro⟨B,C⟩ s' ⟨m,rfl,(hz|⟨hz,e1⟩|⟨hz,e1,e2⟩)⟩;cases hz;cases hz;simp only at m;subst m;show ke ?_;rw[decide_eq_true (by rw[e1,e2])]at h;show h
def rm{x y:Int×Np}{a b:ap}{Q:Bool->ba->Prop}(f:A.units+1<KD)(hx:cY prog w s.heap x a)(d:cY prog w s.heap y b)(h:Q (decide (x=y)) s) :
  kw (qb prog w) A (eqBool (.ref a) (.ref b)) Q E s:=by
 unfold eqBool
 try with_reducible show zp ?_
 show kw _ _ (if (da a==da b)=NK then _ else _) Q E s;by_cases c:(da a==da b)=NK;rw[M0 c];let e:a=b:=by let:=eq_of_beq c;injection this
 subst e;obtain rfl:=hx.inj d;show jj (KO (ke (by simpa using h)));rw[M1 c];show jj (wpAny_richCompare_same_room (op:=.Eq) hx.typeIs d.typeIs F.slot_tuple_eq
  (z4 F.slot_tuple_eq hx.typeIs F.entry_tuple_eq (nr f hx d (_,rfl,(λe=>nomatch e),KB h)) (F.args_tuple_eq_2 _ _)) (!0))
def tL{n:Nat}{ks:Np}{a:ap}{Q:Bool->ba->Prop}(hk:IsTupleKey (K7 prog w) s.heap ks a)(h:Q NK s):kw (qb prog w) A (Zv (n+1) (.ref a)) Q E s:=by let e:=hk.typeIs;let(o,items,m,ho,_,hd,hi):=hk;unfold Zv;show jj (K0 e F.slot_tuple_eq.lookup ?_);show kw _ _ (isInstance (.ref a) (.type "tuple") >>= _) _ _ s;show jj (KT e QC ?_);simp only[J7,Jj,if_false];show jj (Ky ho hd ?_);show jj ?_;show kw _ _ (forIn items _ _) _ _ s;rw[<-vb];show Qs _ (λrest r s'=>r.1=NJ/\s'=s/\∀v∈rest,carriedByValue v=NK) _ ?_ ?_ _ _ (rfl,rfl,hi.byValue);rintro v rest r s' ⟨c,rfl,b⟩;rw[eqIsQuiet_byValue _ (b v IL)];show jj (ke ?_);simp only[J7,Jj,if_false];show ke (rfl,rfl,λu d=>b u (IM _ d));rintro⟨f,g⟩ s' ⟨c,rfl,_⟩;simp only at c;subst c;show ke h
def sS{k:Int×Np}{a:ap}{Q:Bool->ba->Prop}(hk:cY prog w s.heap k a)(h:Q NK s):kw (qb prog w) A (Zv 8 (.ref a)) Q E s:=by let f:=hk.typeIs;let(o,t,b,n,ho,_,hd,hi):=hk;unfold Zv;show jj (K0 f F.slot_tuple_eq.lookup ?_);show kw _ _ (isInstance (.ref a) (.type "tuple") >>= _) _ _ s;show jj (KT f QC ?_);simp only[J7,Jj,if_false];show jj (Ky ho hd ?_);show jj ?_;show kw _ _ (forIn _ _ _) _ _ s;rw[<-vb];show Qs _ (λrest r s'=>r.1=NJ/\s'=s/\∀v∈rest,carriedByValue v=NK\/v=.ref b) _ ?_ ?_ _ _ (rfl,rfl,λv hv=>?_);rintro v rest r s' ⟨e,rfl,c⟩;rcases c v IL with hv|rfl;rw[eqIsQuiet_byValue _ hv];show jj (ke ?_);simp only[J7,Jj,if_false];show ke (rfl,rfl,λu d=>c u (IM _ d));show jj (tL hi ?_);simp only[J7,Jj,if_false];show ke (rfl,rfl,λu d=>c u (IM _ d));rintro⟨g,i⟩ s' ⟨e,rfl,_⟩;simp only at e;subst e;show ke h;simp at hv;rcases hv with rfl|rfl;show .inl rfl;show .inr rfl
end
def bD(prog:q3)(w:zb):HeapKind prog w (Int×Np) where
 is := cY prog w
 hash:=nt prog w
 draws:=λk=>k.2.length+3
 room:=λA=>A.units+1<KD
 inj:=λhx a=>hx.inj a
 keeps:=λx ho hd hs=>x.keeps ho hd hs
 pyHash:=λb hk h=>rh b hk h
 eqBool:=λb hx a h=>rm b hx a h
 quiet:=λhk h=>sS hk h
abbrev aL:=Int×Np
abbrev Na:=List (aL×ap×as)
abbrev Nb:=List (aL×ap×V)
abbrev Nf:=List (aL×ab)
noncomputable def wl(k:aL):Int:=Zf (ek [QU k.1,Zf (ek (k.2.map QU))])
def qC(x:aL×ap×as):DictEntry:=(wl x.1,.ref x.2.1,x.2.2)
def gS{prog:q3}{w:zb}{A:Around}(a:A.units+2<KD):(bD prog w).room A.in1:=a
section
variable{prog:q3}{w:zb}{A:Around}{E:as->ba->Prop}{s:ba}{d a:ap}{xs:Na}{k:aL}{v:as}
def o9(prog:q3)(w:zb)(h:bd)(d:ap)(xs:Na):Prop :=
 ∃o ds ep,h.get? d=NI o/\o.ExactDict/\o.data=.dict ds ep/\ds.toList=xs.map qC/\(∀x∈xs,cY prog w h x.1 x.2.1)/\(xs.map (·.1)).Nodup/\ep=-xs
def o9.of{h:bd}(x:o9 prog w h d xs):h.DictOfH (bD prog w) d xs:=by let(o,ds,ep,h1,h2,h3,a,b,c,_):=x;show(o,ds,ep,h1,h2,h3,a,b,c)
def mF{Q:Unit->ba->Prop}(m:A.units+1<KD)(b:cY prog w s.heap k a)(q:o9 prog w s.heap d xs)
  (n:∀h',o9 prog w h' d (storedH xs k a v)->hY d s.heap h'->Q () { s with heap:=h',toks:=s.toks+(k.2.length+3) }) (hsz:xs.length<=sizeLine) :
  kw (qb prog w) A (dictSet d (.ref a) v) Q E s:=by
 let(o,es,ep,ho,hc,hd,h,c,hn,hl):=q;unfold dictSet
 try with_reducible show zp ?_
 show jj ((bD prog w).pyHash m b ?_);unfold dictSetHashed
 try with_reducible show zp ?_
 show jj (wpAny_dictFind_heap (knd:=bD prog w) (s:={ s with toks:=s.toks+(bD prog w).draws k }) m b ho hd h c hn ?_ ?_)
 .intro f;let g:k ∉ xs.map (·.1):=not_mem_keys_of_get f;show jj (KO (wpAny_updateDictKeys (hz:=by let e:=size_of_entries (knd:=bD prog w) h;lia) (s:={ s with toks:=s.toks+(bD prog w).draws k }) ho hd (n _ (_,_,ep+1,Jx _ ho (Mg (Mb hd _)),
   hc.mapDictKeys _,Mb hd _,?_,?_,?_,?_) (dt ..))))
  all_goals rw[storedH_new (atKey_none_of_get f)]
  simp[h,qC,entryOfKey];rfl;intro x hx;rcases II.mp hx with hx|hx;show(bD prog w).keeps (c x hx) ho hd (dt ..);simp only[IG]at hx;subst hx;show(bD prog w).keeps b ho hd (dt ..);rw[Jm,IT];show(hn,!1,λx hx y i=>?_);simp only[IU,J5,IG]at i;subst i
  exactλe=>g (e▸hx)
  rw[hl];simp
 .intro j p hj;show jj (KO (jj (wpAny_updateDict (s:={ s with toks:=s.toks+(bD prog w).draws k }) ho hd (wpAny_point (n _ (_,_,ep,Jx _ ho (Mg (Mz hd _)),
   hc.mapDict _,Mz hd _,?_,?_,?_,?_) (dt ..))))))
  all_goals rw[storedH_old (atKey_of_get hn hj)]
  let:=modify_map_putAt qC (λe:DictEntry=>{ e with val:=v }) k v (λY Y=>rfl) hn hj;rw[<-h]at this;let⟨l⟩:=es;simpa using this;intro x hx;let(y,i,rfl):=IZ.mp hx;unfold putAt;split <;> show(bD prog w).keeps (c y i) ho hd (dt ..)
  rw[keys_map_putAt];show hn;rw[hl];simp
def tz{Q:Unit->ba->Prop}(h:A.in1.units+1<KD)(b:cY prog w s.heap k a)(g:o9 prog w s.heap d xs)
  (i:∀h',o9 prog w h' d (storedH xs k a v)->hY d s.heap h'->Q () { s with heap:=h',toks:=s.toks+(k.2.length+3) }) (hsz:xs.length<=sizeLine) :
  kw (qb prog w) A (Q9 (.ref d) (.ref a) v) Q E s:=by
 let c:=g.of.typeIs;unfold Q9
 try with_reducible show zp ?_
 show jj (wpAny_sequenceKey c (!2) ?_);show jj (z6 (name:=cq "__setitem__") c slot_dict_setitem (z4 slot_dict_setitem c entry_dict_setitem ?_ (args_dict_setitem _ _ _)));show kw _ _ (Builtin.Dict.notOrdered "__setitem__" ([.ref d,.ref a,v],[]) >>= _) _ _ s;show jj (wpAny_notOrdered_dict c ?_);show kw _ _ (dictSet d (.ref a) v >>= _) _ _ s;show jj (mF h b g (λh' e f=>ke (.none,rfl,ke (i h' e f))) hsz)
variable{o od:Obj}{es:Array DictEntry}{ep i:Nat}{it:ap}
def uP{Q:as->ba->Prop}(b:(d==cf)=false)(ho:s.heap.get? d=some o)(hc:o.ExactDict)(a:o.data=.dict es ep)
  (e:Q (.ref s.heap.objs.size) { s with heap:=s.heap.push { cls:=.type "dict_keyiterator",data:=.fields #[.ref d,.int 0 0,.int es.size 0,.int ep 0] } }) :
  kw (qb prog w) A (ZC (.ref d)) Q E s:=by
 let c:s.TypeIs (.ref d) "dict" := (o,ho,hc.1)
 show wpAny_pyIter_slot c F.slot_dict_iter (z4 F.slot_dict_iter c F.entry_dict_iter ?_ (F.args_dict_iter_1 _));unfold Builtin.«dict.__iter__»;show jj ?_;unfold Builtin.Dict.dictSlotNone;show jj (wpAny_notOrdered_dict c ?_);show kw _ _ (pure (da d)) _ _ s;show ke ?_;show kw _ _ (Li d >>= _) _ _ s;unfold Li;rw[M1 (by rw[b];show Ja)];show jj (ke ?_);show jj (QS ho a ?_);show jj (Q8 ho a ?_);show jj (zh (ke (_,rfl, "dict_keyiterator",_,(_,IW _ rfl,rfl),F.slot_dict_keyiterator_next.lookup,?_)));simpa[K4] using e
def xi{Q:Nm->ba->Prop}(a:s.heap.IsKeyIter it d i es.size ep)(c:s.heap.get? d=some od)(e:od.data=.dict es ep)(g:i<es.size)
  (h:∀h',h'.IsKeyIter it d (i+1) es.size ep->hY it s.heap h'->Q (some es[i].key) { s with heap:=h' }) :
  kw (qb prog w) A (Qo (.ref it)) Q E s:=by
 let(o,ho,hc,hd):=id a;unfold Qo;show jj (Qf (z6 (name:=cq "__next__") a.typeIs F.slot_dict_keyiterator_next
  (z4 F.slot_dict_keyiterator_next a.typeIs F.entry_dict_keyiterator_next ?_ (F.args_dict_keyiterator_next_1 _))))
 show jj (ke ?_);show jj ?_;show jj ?_
 first|show jj (KW a.typeIs (ke ?_))|show jj (K6 a.typeIs (ke ?_))
 show jj (wpAny_fieldsOf ho hd ?_);let f:ro "dict_keyiterator" = NL:=!2
 simp only[f,Jj,if_false];show kw _ _ (if (da d==eC)=NK then _ else _) _ _ s;rw[M1 (show ¬((da d==eC)=NK) from Ja)];show jj (ke ?_);show jj (QS c e ?_);rw[M1 (!1)];show jj (ke ?_);show jj (Q8 c e ?_);rw[M1 (!1)];show ke ?_;simp only[show ¬((i:Int)<0) from by lia,if_false,Jv,Array.getElem?_eq_getElem g];show jj ?_
 first|show jj (KW a.typeIs (ke ?_))|show jj (K6 a.typeIs (ke ?_))
 show jj (wpAny_isOneOf_keyiter a.typeIs ?_);show kw _ _ (setField (.ref it) 1 (K4 ((i:Int)+1)) >>= _) _ _ s;show jj (QE ho hd (!1) ?_);let b:(s.heap.update it (MW (·.setIfInBounds 1 (K4 ((i:Int)+1))))).IsKeyIter it d (i+1) es.size ep :=
  (_,Jx _ ho (L5 (oL hd _)),(Ms ..).trans hc,by rw[oL hd];simp[K4])
 show jj (zp ?_);show jj (wpAny_isOneOf_keyiter (s:={ s with heap:=s.heap.update it (MW (·.setIfInBounds 1 (K4 ((i:Int)+1)))) }) b.typeIs ?_);show kw _ _ (pure es[i].key) _ _ _;show ke (ke (_,rfl,ke (h _ b (dt ..))))
def xR{Q:Nm->ba->Prop}(j:A.handled=none)(c:s.heap.IsKeyIter it d i es.size ep)(e:s.heap.get? d=some od)(f:od.data=.dict es ep)(h:es.size<=i)
  (k:∀h',Lh it s.heap h'->Q none { s with heap:=h' }):kw (qb prog w) A (Qo (.ref it)) Q E s:=by
 let(o,ho,hc,hd):=id c;unfold Qo;show jj (Qf (z6 (name:=cq "__next__") c.typeIs F.slot_dict_keyiterator_next
  (z4 F.slot_dict_keyiterator_next c.typeIs F.entry_dict_keyiterator_next ?_ (F.args_dict_keyiterator_next_1 _))))
 show jj (ke ?_);show jj ?_;show jj ?_
 first|show jj (KW c.typeIs (ke ?_))|show jj (K6 c.typeIs (ke ?_))
 show jj (wpAny_fieldsOf ho hd ?_);let g:ro "dict_keyiterator" = NL:=!2
 simp only[g,Jj,if_false];show kw _ _ (if (da d==eC)=NK then _ else _) _ _ s;rw[M1 (show ¬((da d==eC)=NK) from Ja)];show jj (ke ?_);show jj (QS e f ?_);rw[M1 (!1)];show jj (ke ?_);show jj (Q8 e f ?_);rw[M1 (!1)];show ke ?_;simp only[show ¬((i:Int)<0) from by lia,if_false,Jv,Array.getElem?_eq_none h];show jj ?_
 first|show jj (KW c.typeIs (ke ?_))|show jj (K6 c.typeIs (ke ?_))
 show kw _ _ (setField (.ref it) 0 .none >>= _) _ _ s;show jj (QE ho hd (!1) ?_);show kw _ _ (newExc (.type "StopIteration") [] >>= _) _ _ _;show jj ?_;simp only[newExc,newTuple];show jj (zh ?_ (by size_fits));show jj (m:=QG _ _) (wpAny_of_eq (a:=eC) (by first|rfl|(simp only[QG];rfl)) ?_);show zh ?_ (by size_fits);simp only[raiseNew];show jj (wpAny_handled ?_);rw[show A.in1.handled=NJ from j];show jj (ke (wpAny_throw ?_));show jj (KT (T := "StopIteration") (b:=NK) (_,IW _ rfl,rfl) Zh ?_);show ke (k _ (((dt ..).extBut.push _).push _))
end
def ce(a:ap)(es:Nb)(h:bd):Prop :=
 (-es)<=sizeLine/\(a==cf)=NL/\∃xs:Na,Paired (λ(p:aL×ap×V) (q:aL×ap×as)=>p.1=q.1/\p.2.1=q.2.1/\be p.2.2 q.2.2) es xs /\
  ∃o ds ep,h.get? a=NI o/\o.ExactDict/\o.data=.dict ds ep/\ds.toList=xs.map qC/\(xs.map (·.1)).Nodup/\ep=-xs
abbrev dD(k:aL):ab:=.tuple [.int k.1,.tuple (k.2.map .int)]
abbrev eD(kvs:Nf):ab:=.dict (kvs.map λp=>(dD p.1,p.2))
abbrev fzD(ds:Nz):ab:=.dict [(.none,.list ds)]
abbrev qt(x:bx)(d:ab):ab:=.dict [(.none,.none),(.str x,d)]
abbrev jK(C:ap)(x:bx)(d:ab):ab:=.dict [(.none,.int (C:Nat)),(.str x,d)]
def FY{α:Type}{n:Nat}{l:List α}(h:-l=n+1):∃a t,l=a::t:=List.exists_cons_of_length_eq_add_one h
def sB{α:Type}{l:List α}(h:-l=1):∃a,l=[a]:=List.length_eq_one_iff.mp h
def EZ{α:Type}{l:List α}(h:-l=2):∃a b,l=[a,b]:=by let(a,t,rfl):=FY h;let(b,rfl):=sB (l:=t) (Mt h);show(a,b,rfl)
def HZ{α:Type}{l:List α}(h:-l=3):∃a b c,l=[a,b,c]:=by let(a,t,rfl):=FY h;let(b,c,rfl):=EZ (l:=t) (Mt h);show(a,b,c,rfl)
mutual
inductive DV (K:ca) (H:Hp):V->ab->Prop
 |non:DV K H .non .none
 |bl (b:Bool):DV K H (.bl b) (.bool b)
 |int (i:Int):DV K H (.int i) (.int i)
 |str (x:bx):DV K H (.str x) (.str x)
 |lst {a:ap}{xs:NH}{ds:Nz}:SqL K H a xs->DVs K H xs ds->DV K H (.ref a) (.list ds)
 |tup {a:ap}{xs:NH}{ds:Nz}:SqT K H a xs->DVs K H xs ds->DV K H (.ref a) (.tuple ds)
 |dct {a:ap}{es:Nb}{kvs:Nf}:H a=some (.ext (ce a es))->DVs K H (es.map λp=>V.ref p.2.1) (kvs.map λp=>dD p.1)->DVs K H (es.map λp=>p.2.2) (kvs.map λp=>p.2)->es.map (λp=>p.1)=kvs.map (λp=>p.1)->DV K H (.ref a) (eD kvs)
 |idc {a:ap}{x:bx}{v:V}{d:ab}:H a=some (.dK [(.inr x,v)])->DV K H v d->DV K H (.ref a) (qt x d)
 |dsk {a b C dx:ap}{x:bx}{v:V}{d:ab}:H a=some (.ins C dx [("towns",.ref b)])->H b=some (.dK [(.inr x,v)])->DV K H v d->DV K H (.ref a) (jK C x d)
 |fz {v:V}{ds:Nz}:DV K H v (.list ds)->DV K H v (fzD ds)
inductive DVs (K:ca) (H:Hp):NH->Nz->Prop
 |nil:DVs K H [] []
 |cons {x:V}{xs:NH}{d:ab}{ds:Nz}:DV K H x d->DVs K H xs ds->DVs K H (x::xs) (d::ds)
end
def DV.tupI{K:ca}{H:Hp}{v:V}{ds:Nz}(h:DV K H v (.tuple ds)):∃a xs,v=.ref a/\SqT K H a xs/\DVs K H xs ds:=by
 cases h with
 |tup h q=>show(_,_,rfl,h,q)
def DV.lstI{K:ca}{H:Hp}{v:V}{ds:Nz}(h:DV K H v (.list ds)):∃a xs,v=.ref a/\SqL K H a xs/\DVs K H xs ds:=by
 cases h with
 |lst h q=>show(_,_,rfl,h,q)
def DV.intI{K:ca}{H:Hp}{v:V}{i:Int}(h:DV K H v (.int i)):v=.int i:=by cases h;rfl
def DVs.twoI{K:ca}{H:Hp}{vs:NH}{d e:ab}(h:DVs K H vs [d,e]):∃x y,vs=[x,y]/\DV K H x d/\DV K H y e:=by
 cases h with
 |cons h q =>
  cases q with
  |cons h2 q=>cases q;show(_,_,rfl,h,h2)
section
variable{X:Cx}{pins:Nd}{σ:St}{H:Hp}{s:ba}
def DVs.ind{K:ca}{H:Hp}{C:NH->Nz->Prop}(n:C [] [])(c:∀{x:V}{xs:NH}{d:ab}{ds:Nz},DV K H x d->DVs K H xs ds->C xs ds->C (x::xs) (d::ds)){v:NH}{d:Nz}(h:DVs K H v d):C v d :=
  DVs.rec (motive_1:=λY Y Y=>True) (motive_2:=λv d Y=>C v d) trivial (λY=>trivial) (λY=>trivial)
   (λY=>trivial)
  (λY Y Y=>trivial) (λY Y Y=>trivial)
  (λY Y Y Y Y Y=>trivial) (λY Y Y=>trivial) (λY Y Y Y=>trivial) (λY Y=>trivial) n (λh q Y i=>c h q i) h
def DV.reads(I:Inv X pins σ H s){x:V}{d:ab}{u:as}(h:DV X.K H x d):be x u->d.canLay0=NK->∃f,Reads s.heap u d f :=
  DV.rec (motive_1:=λx d Y=>∀u:as,be x u->d.canLay0=NK->∃f,Reads s.heap u d f) (motive_2:=λxs ds Y=>∀us:NC,aH xs us->eS ds=NK->∃f,ReadsAll s.heap us ds f)
  (λu r Y=>by cases (show _=eC from r);show(_,.none))
  (λb u r Y=>by cases (show _=lv b from r);show(_,.bool b))
  (λi u r Y=>by let(t,rfl):=r;show(_,.int i t))
   (λx u r Y=>by let(t,rfl):=r;show(_,.str x t))
  (λ{a xs ds} h q i u r l=>by
    cases (show _=da a from r);let(k,rv,(o,n,e,c,_,hd),_):=I.list h;let(f,g):=i _ rv (by simpa only[eg] using l);show(_,.list e c hd (by simpa using g)))
  (λ{a xs ds} h q i u r l=>by
    cases (show _=da a from r);let(k,rv,(o,e,c,n,hd),_):=I.tuple h;let(f,g):=i _ rv (by simpa only[eg] using l);show(_,.tuple e c hd (by simpa using g)))
  (λY Y Y Y Y Y Y Y l=>by simp[eg]at l) (λY Y Y Y Y l=>by simp[eg]at l) (λY Y Y Y Y Y l=>by simp[eg]at l) (λY Y Y Y l=>by simp[eg]at l)
  (λus r Y=>by rw[aH.zero r];show(_,.nil))
  (λY Y i j us r l=>by
    simp only[eS,Jw]at l
    cbv;let(u,vs,rfl,m,p):=aH.consI r;let(f,g):=i u m l.1;let(bs,v):=j vs p l.2
    w_up;show(_,.cons g v)) h u
theorem fS:∀ns:Np,eS (ns.map eb)=NK
 |[]=>rfl
 |n::ns=>by simp only[IU,eS,eg,MQ,fS ns]
abbrev shp(d:ab):Prop:=lb d=NK
def FL(K:ca):R2:=λx y H Q=>∃d e,DV K H x d/\DV K H y e/\shp d/\shp e/\Q (.bl (ed d e)) H
def FG(K:ca):R2:=λx y H Q=>∃d e,DV K H x d/\DV K H y e/\shp d/\shp e/\Q (.bl (!PyData.eqv d e)) H
def Dy(a:X.A.units+64<KD):OpR X (q4 .Eq) (FL X.K):=by
 intro pins s σ H x y v u Q I b c h
 cbv;let(d,e,h1,h2,s1,s2,q):=h;let(i,f):=h1.reads I b (du s1);let(bs,g):=h2.reads I c (du s2)
 w_up;show eq_dataH f g s1 s2 a (.bl _,H,I,rfl,q)
def Dt(a:X.A.units+64<KD):OpR X (q4 .NotEq) (FG X.K):=by
 intro pins s σ H x y v u Q I b c h
 cbv;let(d,e,h1,h2,s1,s2,q):=h;let(i,f):=h1.reads I b (du s1);let(bs,g):=h2.reads I c (du s2)
 w_up;show ne_dataH f g s1 s2 a (.bl _,H,I,rfl,q)
def FK(K:ca):R2:=λx y H Q=>∃d ds,DV K H x d/\DV K H y (.list ds)/\shp d/\shp (.list ds)/\Q (.bl (ds.any λe=>ed e d)) H
def nZ(K:ca):R2:=λx y H Q=>∃d ds,DV K H x d/\DV K H y (.list ds)/\shp d/\shp (.list ds)/\Q (.bl (!ds.any λe=>ed e d)) H
def pJ{ds:Nz}(h:shp (.list ds)):eS ds=NK/\hQ ds<=63:=by let a:=du h;let b:=LN h;simp only[nk]at b;show(a,!0)
def Dw(f:X.A.units+80<KD):OpR X (q4 .In) (FK X.K):=by
 intro pins s σ H x y v u Q I a b h
 cbv;let(d,ds,h1,h2,s1,s2,q):=h;let(g,c):=h1.reads I a (du s1);let(bs,e):=h2.reads I b (du s2);let(l1,l2):=pJ s2
 w_up;let:=Lq (hQ ds) d.depth;show SeqAt.in_list_reads e c l1 (du s1) (!0) (.bl _,H,I,rfl,q)
def uo(f:X.A.units+80<KD):OpR X (q4 .NotIn) (nZ X.K):=by
 intro pins s σ H x y v u Q I a b h
 cbv;let(d,ds,h1,h2,s1,s2,q):=h;let(g,c):=h1.reads I a (du s1);let(bs,e):=h2.reads I b (du s2);let(l1,l2):=pJ s2
 w_up;let:=Lq (hQ ds) d.depth;show SeqAt.notIn_list_reads e c l1 (du s1) (!0) (.bl _,H,I,rfl,q)
theorem mU:∀{bs:List Bool}{us:NC},aH (bs.map V.bl) us->LSm.BoolsAre us bs
 |[],_,.nil=>.nil
 |b::bs,_,.cons r t=>by
  cases (show _=lv b from r);show .cons b (mU t)
def ye(hc:X.calm=NK):cZ X (.builtin "all") (λxs H Q=>∃(a:ap) (bs:List Bool),xs=[.ref a]/\SqL X.K H a (bs.map V.bl)/\Q (.bl (bs.all id)) H):=by
 intro pins s σ H xs us Q I r h;let(a,bs,rfl,hs,q):=h;let(u,rfl,j):=fw r;cases (show u=da a from j);let(c,rv,p,_):=I.list hs;let f:=mU rv;let hl:=p.isList;let d:a<(~~~s):=by let(_,e,_):=hl;show IX e
 show call_all_walk (Qb hl ?_);show((~~~s),[(~~~s),a],[(~~~s)],c.toArray.size,_,_,λi=>(bs[i]?).getD NK,rfl,Walks.list (A:=X.A.in1) (I.ok.hd hc) _ a (Jd d) c.toArray,
  ((_,IW _ rfl,rfl,rfl),hl.push _),λi v s' l E' k g=>?_,λh' tk hk=>?_)
 let(b,e,rfl):=f.get i v (by simpa using k);simp only[e,Me]at g;show KB g;let e:((cp c.toArray.size).all λi=>(bs[i]?).getD NK)=bs.all id:=by rw[IV,(-f)];show LSm.range_all bs
 rw[e];show(.bl _,H,I.kept (LSm.kept_iter hk),rfl,q)
def CT(K:ca):R2:=λx y H Q=>∃a b xs ys,x=.ref a/\y=.ref b/\SqT K H a xs/\SqT K H b ys/\xs.length+-ys<=sizeLine /\
 (xs=[]->Q (.ref b) H)/\(xs≠[]->ys=[]->Q (.ref a) H)/\(xs≠[]->ys≠[]->∀p,H p=NJ->Q (.ref p) (upd H p (.tup (xs++ys))))
def AW:OpR X (KN .Add) (CT X.K):=by
 intro pins s σ H x y v u Q I j k h;let(a,b,xs,ys,rfl,rfl,l,m,hz,q0,p,q):=h;by_cases hx:xs=[]
 .subst hx;cases (show v=da a from j);cases (show u=da b from k)
  cbv;let(r,v1,t,_):=I.tuple l;let(c,z,p2,_):=I.tuple m;cases v1;let((cls,dd,data,sl),ho,hc,n,hd):=id t;let((o,g,data2,i),d,e,w,f):=id p2;simp only at hc hd e f;subst hc hd e f
  w_up;show QV (_,ho,rfl) (_,d,rfl) Q0 Zq ph o0 (oD _ _)
   (tuple_addW0 a b #[] c.toArray n w dd g sl i rfl) (ho,d,.ref b,H,I,rfl,q0 rfl)
 show AV pins s σ H _ _ v u Q I j k (a,b,xs,ys,rfl,rfl,l,m,hx,hz,p hx,q hx)
end
def cE:Bool->bd->ap->Nq->Prop
 |false,h,a,xs=>h.IsList a xs
 |true,h,a,xs=>h.IsTuple a xs
def cn:Bool->bd->ap->ap->Nat->Prop
 |false,h,it,a,i=>h.IsListIter it a i
 |true,h,it,a,i=>h.IsTupleIter it a i
def cE.at{b:Bool}{h h':bd}{a:ap}{xs:Nq}(p:cE b h a xs)(k:∀o,h.get? a=NI o->h'.get? a=NI o):cE b h' a xs:=by
 cases b with
 |false=>let(o,e,r):=p;show(o,k o e,r)
 |true=>let(o,e,r):=p;show(o,k o e,r)
def cn.at{b:Bool}{h h':bd}{it a:ap}{i:Nat}(p:cn b h it a i)(k:∀o,h.get? it=NI o->h'.get? it=NI o):cn b h' it a i:=by
 cases b with
 |false=>let(o,e,r):=p;show(o,k o e,r)
 |true=>let(o,e,r):=p;show(o,k o e,r)
def cE.obj{b:Bool}{h:bd}{a:ap}{xs:Nq}(p:cE b h a xs):∃o n,h.get? a=NI o/\o.data=.seq xs n:=by
 cases b with
 |false=>let(o,e,_,n,d):=p;show(o,n,e,d)
 |true=>let(o,e,_,n,d):=p;show(o,n,e,d)
def cn.obj{b:Bool}{h:bd}{it a:ap}{i:Nat}(p:cn b h it a i):∃o,h.get? it=NI o/\o.data=.fields #[.ref a,.int i 0]:=by
 cases b with
 |false=>let(o,e,_,d):=p;show(o,e,d)
 |true=>let(o,e,_,d):=p;show(o,e,d)
section
variable{prog:q3}{w:zb}{A:Around}{E:as->ba->Prop}{s:ba}
def xh{it t:ap}{i:Nat}{items:Nq}{x:as}{Q:as->ba->Prop}(a:s.heap.IsTupleIter it t i)(ht:s.heap.IsTuple t items)(hx:items[i]?=some x)
  (d:∀h',h'.IsTupleIter it t (i+1)->hY it s.heap h'->Q x { s with heap:=h' }):kw (qb prog w) A (dV (.ref it)) Q E s:=by let(o,ho,hc,hd):=id a;let(e,b,_,f,c):=ht;unfold dV;show jj (z6 (name:=cq "__next__") a.typeIs F.slot_tuple_iterator_next (z4 F.slot_tuple_iterator_next a.typeIs F.entry_tuple_iterator_next ?_ (F.args_tuple_iterator_next_1 _)));show kw _ _ (Zu (.ref it) 0 >>= _) _ _ s;show jj (Kz ho hd (x:=.ref t) rfl ?_);show kw _ _ (if (da t==eC)=NK then _ else _) _ _ s;rw[M1 (show ¬((da t==eC)=NK) from Ja)];show kw _ _ (Zu (.ref it) 1 >>= _) _ _ s;show jj (Kz ho hd (x:=.int i 0) rfl ?_);show kw _ _ (Zs (.ref t) >>= _) _ _ s;show jj (Ky b c ?_);simp only[Jv,hx];show jj (QE ho hd (!1) (ke (x,rfl,ke (d _ ?_ (dt ..)))));show(_,Jx _ ho (L5 (oL hd _)),(Ms ..).trans hc,?_);rw[oL hd];simp[K4]
def oH{it t:ap}{i:Nat}{items:Nq}{Q:as->ba->Prop}(f:A.handled=none)(b:s.heap.IsTupleIter it t i)(ht:s.heap.IsTuple t items)(hx:items[i]?=none)
  (g:∀h' e,Lh it s.heap h'->(∃o,h'.get? e=some o/\o.cls=.type "StopIteration")->E (.ref e) { s with heap:=h' }):kw (qb prog w) A (dV (.ref it)) Q E s:=by
 let(o,ho,hc,hd):=id b;let(h,c,_,j,d):=ht;unfold dV;show jj (z6 (name:=cq "__next__") b.typeIs F.slot_tuple_iterator_next (z4 F.slot_tuple_iterator_next b.typeIs F.entry_tuple_iterator_next ?_ (F.args_tuple_iterator_next_1 _)));show kw _ _ (Zu (.ref it) 0 >>= _) _ _ s;show jj (Kz ho hd (x:=.ref t) rfl ?_);show kw _ _ (if (da t==eC)=NK then _ else _) _ _ s;rw[M1 (show ¬((da t==eC)=NK) from Ja)];show kw _ _ (Zu (.ref it) 1 >>= _) _ _ s;show jj (Kz ho hd (x:=.int i 0) rfl ?_);show kw _ _ (Zs (.ref t) >>= _) _ _ s;show jj (Ky c d ?_);simp only[Jv,hx];show jj (KO (jj (QE ho hd (!1) ?_)));show kw _ _ (newExc (.type "StopIteration") [] >>= _) _ _ _;show jj ?_;simp only[newExc,newTuple];show jj (zh ?_ (by size_fits));show jj (m:=QG _ _) (wpAny_of_eq (a:=eC) (by first|rfl|(simp only[QG];rfl)) ?_);show zh ?_ (by size_fits);simp only[raiseNew];show jj (wpAny_handled ?_)
 first|rw[show A.in1.handled=NJ from f]|rw[f]
 show jj (ke (wpAny_throw (g _ _ (((dt ..).extBut.push _).push _) (_,IW _ rfl,rfl))))
def gY{b:Bool}{it a:ap}{i:Nat}{items:Nq}{x:as}{Q:as->ba->Prop}(c:cn b s.heap it a i)(d:cE b s.heap a items)(hx:items[i]?=some x)
  (e:∀h',cn b h' it a (i+1)->hY it s.heap h'->Q x { s with heap:=h' }):kw (qb prog w) A (dV (.ref it)) Q E s:=by
 cases b with
 |false=>show wpAny_nextOf_list_item c d hx e
 |true=>show xh c d hx e
def ff{b:Bool}{it a:ap}{i:Nat}{items:Nq}{Q:as->ba->Prop}(d:A.handled=none)(c:cn b s.heap it a i)(f:cE b s.heap a items)(hx:items[i]?=none)
  (g:∀h' e,Lh it s.heap h'->(∃o,h'.get? e=some o/\o.cls=.type "StopIteration")->E (.ref e) { s with heap:=h' }):kw (qb prog w) A (dV (.ref it)) Q E s:=by
 cases b with
 |false=>show wpAny_nextOf_list_end d c f hx g
 |true=>show oH d c f hx g
end
def mE{prog:q3}{w:zb}{A:Around}(b:Bool)(g:A.handled=NJ)(it a:ap)(c:a≠it)(items:Nq) :
  Draws prog w A it [it,a] items.size (λi v=>items[i]?=NI v) (λi h=>cn b h it a i/\cE b h a items) where
 live:=λY Y st=>by let(o,e,_):=st.1.obj;show(o,e)
 frame:=λY Y Y st hk=>(st.1.at λo e=>hk it (!1) o e,st.2.at λo e=>hk a (!1) o e)
 item:=λi s Q E hi st j=>gY st.1 st.2 (x:=items[i]) (by simp[hi]) λh' d f=>j _ h' s.toks (by simp[hi]) (d,st.2.at λo e=>f.extBut a o c e) f
 done:=λs Q E st k=>ff g st.1 st.2 (!1) k
def SqB(K:ca)(H:Hp):Bool->ap->NH->Prop
 |false,a,xs=>SqL K H a xs
 |true,a,xs=>SqT K H a xs
section
variable{X:Cx}{pins:Nd}{σ:St}{H:Hp}{s:ba}
def Inv.seq(I:Inv X pins σ H s){b:Bool}{a:ap}{xs:NH}(h:SqB X.K H b a xs):∃c:NC,aH xs c/\cE b s.heap a c.toArray:=by
 cases b with
 |false=>let(c,r,p,_):=I.list h;show(c,r,p.isList)
 |true=>let(c,r,p,_):=I.tuple h;show(c,r,p)
def Inv.seq_inj(I:Inv X pins σ H s){b:Bool}{a:ap}{xs ys:NH}(h:SqB X.K H b a xs)(h':SqB X.K H b a ys):xs=ys:=by
 cases b with
 |false=>show I.list_inj h h'
 |true=>show I.tuple_inj h h'
def Inv.turnedN{fp:NE}{h':bd}{t':Nat}(I:Inv X pins σ H s)(d:∀b∈fp,hV X pins H b)(k:∀b o,b ∉ fp->s.heap.get? b=some o->h'.get? b=some o):Inv X pins σ H { s with heap:=h',toks:=t' }:=by
 let a:∀b u,H b=NI u->b ∉ fp:=λb u e z=>by rw[(d b z).1]at e;cases e
 show I.step (g':=s.gens) (d':=s.drawn) (ch:=fp) (λb f=>?_) (λb o Y Y hc e Y=>k b o hc e) (λb o Y Y hc e Y=>(o.slots,k b o hc e)) (λY Y Y Y n=>n) (λb o hc e=>(o,k b o hc e)) (λY Y e=>e) (λY Y Y e=>e)
  (λY Y e=>e) (λm g=>?_) (λb u e=>?_) I.bare
 let(p,h,t,i,j,l):=d b f;show(i,h,j,l);let(o,es,ep,ho,r):=g;show(o,es,ep,k _ o (λz=>(d _ z).2.1 rfl) ho,r);show(I.hok b u e).stay (λc v hc q=>k c v ?_ q) (λY q=>q) λY Y Y q=>q;rcases hc with z|z;rw[z];show a b u e;show a c _ z
def Inv.track{T:ap}{o:HO}(I:Inv X pins σ H s)(f:hV X pins H T)(new:dB X.prog X.w (upd H T o) s.heap T o):Inv X pins σ (upd H T o) s:=by
 cbv;let(g,h,p,i,j,k):=f;let a:∀b u,H b=NI u->b≠T:=λb u e z=>by rw[z,g]at e;cases e
 w_up;let q:=I.step (h':=s.heap) (H':=upd H T o) (g':=s.gens) (d':=s.drawn) (t':=s.toks) (ch:=[T]) (λb d=>by
   let e:b=T:=by simpa using d
   rw[e];show(i,h,j,k)) (λb o Y Y Y e Y=>e) (λb o Y Y Y e Y=>(o.slots,e)) (λb o' hc Y n=>by rw[al (λz=>hc (by simp[z]))];show n) (λb o' Y e=>(o',e))
  (λb xs e=>by rw[al (a b _ e)];show e) (λb o' u e=>by rw[al (a b _ e)];show e) (λb ps e=>by rw[al (a b _ e)];show e) (λm l=>l) (λb u e=>?_) I.bare
 show q;by_cases d:b=T;subst d;rw[aq]at e;cases e;show new;rw[al d]at e;show(I.hok b u e).stay (λY Y Y q=>q) (λc q=>by rw[al (a c _ q)];show q) λc xs Y q=>by rw[al (a c _ q)];show q
end
def Ite(K:ca)(b:Bool)(a:ap):It :=
 (λi H=>∃xs x,SqB K H b a xs/\xs[i]?=NI x,λi H v H'=>∃p x,v=.ref p/\H p=NJ/\H'=upd H p (.tup [.int i,x])/\∀xs,SqB K H b a xs->xs[i]?=NI x,λi H=>∃xs,SqB K H b a xs/\xs.length=i)
def sN{P:q3}{w:zb}{K:ca}{es:NF}{V:Nat}{pos:Pos}(b:Bool)(a it e:ap)(j:e≠it) :
  zD P w K (.Tuple es V pos) (Ite K b a) [e,it] e (λi h=>(∃d,IsEnum h e it i d)/\cn b h it a i) where
 mem:=!1
 obj := λi h st c hc=>by
  let((d,g),st):=st;rcases IR.mp hc with rfl|hc;show(_,g,λv z=>by
   let Y:Data.fields _=Data.cell v:=z;cases Y)
  let e':c=it:=by simpa using hc
  subst e';let(o,ho,hd):=st.obj;show(o,ho,λv z=>by rw[hd]at z;cases z)
 keep:=λi h h' st k=>by
  let((d,g),st):=st;show((d,k e (!1) _ g),st.at λo q=>k it (!1) o q)
 item := by
  intro X F hw hK hc i pins s σ H E I B st hg
  cbv;subst F hw hK;let(xs,x,C,hx):=hg;let((d,g),st):=st;let(f,rv,r):=I.seq C;let(u,U,Z):=rv.get hx;let(oa,na,l,p):=r.obj;let(oi,D,G):=st.obj;let m:a≠it:=λz=>by rw[z,D]at l;cases l;rw[G]at p;cases p
  let J:e≠a:=λz=>by rw[<-z,g]at l;cases l;cases p
  w_up;let L:i<f.toArray.size:=by let:=(IN.mp U).1;simpa using this
  show wpAny_pyNext_enum_itemD (mE (A:=X.A.in1) b (I.ok.hd hc) it a m f.toArray) g (st,r) L j (by simp[j,J]) λy h1 tk M t N hT hz hk=>?_;let ey:y=u:=by
   let:f[i]?=NI y:=by simpa using M
   rw[U]at this;show(di this).symm
  subst ey;show(_,rfl,wpAny_letOwnedTupleGo_enum t λh2 O n=>?_);let elt:e<(~~~s):=IX g;let R:it<(~~~s):=IX D;let I2:Inv X pins σ H { s with heap:=h2,toks:=tk+1 }:=I.turnedN B λc o hc q=>n.extBut c o (λz=>hc (by simp[z])) (hk c o (λz=>hc (by simp[z])) (λz=>hc (by simp[z])) q);let g2:h2.get? (~~~s)=NI { cls:=.type "tuple",data:=.seq #[.int i tk,y] }:=n.extBut _ _ (JR elt) hT;let hn:H (~~~s)=NJ:=I.hok.fresh (IS _);show(.ref (~~~s),upd H (~~~s) (.tup [.int i,x]),I2.track (T:=(~~~s)) (o:=.tup [.int i,x]) (I.fpOk (IS _) hn) ?_,rfl,?_,((y,O),?_),λc hc=>?_);show(by show 2<=sizeLine;decide,[.int i tk,y],.cons (tk,rfl) (.cons Z .nil),_,g2,rfl,(_,rfl),rfl);show(_,x,rfl,hn,rfl,λys M=>by rw[I.seq_inj M C];show hx);show N.1.at λo q=>n.extBut it o (Ne.symm j) q;let:c<(~~~s):=by
   rcases IR.mp hc with rfl|hc;show elt;let e':c=it:=by simpa using hc
   rw[e'];show R
  rw[al (Jd this)];show(B c hc).1
 done:=by
  intro X F hw hK hc i pins s σ H E I B st hg
  cbv;subst F hw hK;let(xs,C,hx):=hg;let((d,g),st):=st;let(f,rv,r):=I.seq C;let(oa,na,l,p):=r.obj;let(oi,D,G):=st.obj;let m:a≠it:=λz=>by rw[z,D]at l;cases l;rw[G]at p;cases p
  w_up;let hl:=-rv;let ez:f.toArray.size=i:=by simp;lia
  show wpAny_pyNext_enum_endD (mE (A:=X.A.in1) b (I.ok.hd hc) it a m f.toArray) g (by rw[ez];show(st,r)) λh' S=>(rfl,?_)
  show I.turnedN (t':=s.toks) B λc o hc q=>S c o (λz=>hc (by simp[z])) q
 self:=λA i s Q E st h=>by
  let((d,g),st):=st;show wpAny_pyIter_enum g h
abbrev jh(b:Bool)(a:ap):Obj:={ cls:=.type (if b then "tuple_iterator" else "list_iterator"),data:=.fields #[.ref a,.int 0 0] }
def ku{b:Bool}{h:bd}{it a:ap}(e:h.get? it=NI (jh b a)):cn b h it a 0:=by
 cases b with
 |false=>show(_,e,rfl,rfl)
 |true=>show(_,e,rfl,rfl)
def fT{prog:q3}{w:zb}{A:Around}{E:as->ba->Prop}{s:ba}{b:Bool}{a:ap}{items:Nq}{Q:as->ba->Prop}(c:cE b s.heap a items)
  (d:Q (.ref s.heap.objs.size) { s with heap:=s.heap.push (jh b a) }):kw (qb prog w) A (ZC (.ref a)) Q E s:=by
 cases b with
 |false=>show Qb c d
 |true=>show wpAny_pyIter_tuple c d
open AutoSeq1 (wpAny_loadPart') in
set_option tactic.hygienic true in
def u4(l:ap)(items:Nq)(n:Nat)(dct:No)(sl:M6) :
  Meets (Builtin.«enumerate.__new__» ([.type "enumerate",.ref l],[])) (λY R s=>s.heap.get? l=some { cls:=.type "tuple",dict:=dct,data:=.seq items n,slots:=sl } /\
   R (.ok (.ret (.ref (s.heap.push (jh true l)).objs.size))) { s with heap:=(s.heap.push (jh true l)).push { cls:=.type "enumerate",data:=.fields #[.none,.bool false,.ref s.heap.objs.size,K4 0,.none,.none] } }) :=
 .of_wp λprog w A R s h=>by
  let(b,g,d,tk,os):=s;let(hl,h):=h;let a:=sub_enumerate;let hL:cE NK (Shared.heap (b,g,d,tk,os)) l items:=(_,hl,rfl,n,rfl)
  wp_walk using wpAny_loadPart' hl
  show wpAny_stack_any λst=>ke ?_;split
  .rename_i c _ _ _ _ _;cases (c==nc "enumerate") <;> (wp_walk using wpAny_loadPart' hl,fT hL) <;> show(_,rfl,h)
  .wp_walk using wpAny_loadPart' hl,fT hL
   show(_,rfl,h)
section
variable{prog:q3}{w:zb}{A:Around}{E:as->ba->Prop}{s:ba}
def u5{b:Bool}{l:ap}{items:Nq}{Q:as->ba->Prop}(hL:cE b s.heap l items)
  (h : ∀h',IsEnum h' (s.heap.objs.size+1) s.heap.objs.size 0 .none->cn b h' s.heap.objs.size l 0->h'.objs.size=s.heap.objs.size+2->(∀c o,s.heap.get? c=some o->h'.get? c=some o)->Q (.ref (s.heap.objs.size+1)) { s with heap:=h' }) :
  kw (qb prog w) A (call (.type "enumerate") [.ref l]) Q E s:=by
 cases b with
 |false=>show call_enumerate_list hL h
 |true =>
  let((c,dct,d,sl),hl,hc,n,hd):=hL;replace hc:c=.type "tuple" := hc;replace hd:d=.seq items n:=hd;subst hc hd;show callType_new F.called_enumerate (!2) (F.typeCall_enumerate_1 _) (F.newCall_enumerate_1 _) (λobj=>F.args_object_init_2 obj _) F.entry_enumerate_new (u4 l items n dct sl) (hl,?_);let hz:(s.heap.push (jh NK l)).objs.size=(~~~s)+1:=JA ..;show _/\_;rw[hz];let a:IsEnum ((s.heap.push (jh NK l)).push { cls:=.type "enumerate",data:=.fields #[.none,.bool NL,.ref (~~~s),K4 0,.none,.none] }) ((~~~s)+1) (~~~s) 0 .none:=by let q:=IW (s.heap.push (jh NK l)) (o:={ cls:=.type "enumerate",data:=.fields #[.none,.bool NL,.ref (~~~s),K4 0,.none,.none] }) rfl;rw[hz]at q;show q
  show((_,a,rfl),h _ a (ku (IH _ (IW _ rfl))) (by rw[JA,hz]) λc o x=>IH _ (IH _ x))
end
section
variable{X:Cx}
def Eb(K:ca)(b:Bool)(ta:TA):TI:=λσ H R=>ta σ H λvs H1=>∃a xs,vs=[.ref a]/\SqB K H1 b a xs/\R (Ite K b a) H1
def AG(b:Bool){es:NF}{m:Nat}{f:Pos}{a:bb}{ta:TA}{p pos:Pos}(hg:Gl X "enumerate")(n:X.mg "enumerate" = none)(g:KJ "enumerate" = some (.type "enumerate"))(o:PA X [a] ta)(hs:kq [a] X.env=[(false,eval a X.env)]:=by rfl) :
  PI X (.Tuple es m f) (.Call (.Name "enumerate" p) [a] [] pos) (Eb X.K b ta):=by
 intro pins s σ H R I h;show Call_ (fR I hg n g (gl (thn (o pos pins s σ H _ I h) λus s1 i=>?_) hs rfl))
 cbv;let(vs,H1,d,r,t):=i;let(l,xs,rfl,v,q):=t;let(u,rfl,w):=fw r
 w_up;cases (show u=da l from w);let(x,rv,hL):=d.seq v;show u5 hL λh' k j hz hk=>wpAny_pyIter_enum k ?_;let y:Inv X pins σ H1 { s1 with heap:=h' }:=d.kept (t':=s1.toks) hk;show((~~~s1)+1,[(~~~s1)+1,(~~~s1)],_,_,H1,rfl,y,sN b l (~~~s1) ((~~~s1)+1) (JR (JO _)),((_,k),j),λc hc=>?_,q);rcases IR.mp hc with rfl|hc;show d.fpOk (Kb _) (d.hok.fresh (Kb _));let e:c=(~~~s1):=by simpa using hc
 rw[e];show d.fpOk (IS _) (d.hok.fresh (IS _))
end
abbrev zH1(h:bd)(b:Bool)(l1:ap):bd:=h.push (jh b l1)
abbrev zH2(h:bd)(b c:Bool)(l1 l2:ap):bd:=(zH1 h b l1).push (jh c l2)
abbrev zH3(h:bd)(b c:Bool)(l1 l2:ap):bd:=(zH2 h b c l1 l2).push { cls:=.type "tuple",data:=.seq #[.ref h.objs.size,.ref (zH1 h b l1).objs.size] }
abbrev zH4(h:bd)(b c:Bool)(l1 l2:ap):bd:=(zH3 h b c l1 l2).push { cls:=.type "tuple",data:=.seq #[.none,.none] }
abbrev zH5(h:bd)(b c:Bool)(l1 l2:ap):bd:=(zH4 h b c l1 l2).push { cls:=.type "zip",data:=.fields #[.none,.bool NL,.bool NL,.ref (zH2 h b c l1 l2).objs.size,.ref (zH3 h b c l1 l2).objs.size] }
def vY(b c:Bool)(l1 l2:ap)(xs ys:Nq) :
  Meets (Builtin.«zip.__new__» ([.type "zip",.ref l1,.ref l2],[])) (λY R s=>cE b s.heap l1 xs/\cE c s.heap l2 ys/\R (.ok (.ret (.ref (zH4 s.heap b c l1 l2).objs.size))) { s with heap:=zH5 s.heap b c l1 l2 }) :=
 .of_wp λprog w A R s h=>by
  let(k,g,d,tk,os):=s;let(a,f,h):=h;let l:=sub_zip;let i:cE b (Shared.heap (k,g,d,tk,os)) l1 xs:=a;let j:cE c (Shared.heap (k.push (jh b l1),g,d,tk,os)) l2 ys:=cE.at f λo e=>IH _ e
  wp_walk using fT i,fT j
  show(_,rfl,h)
section
variable{prog:q3}{w:zb}{A:Around}{E:as->ba->Prop}{s:ba}
def v4{b c:Bool}{l1 l2:ap}{xs ys:Nq}{Q:as->ba->Prop}(a:cE b s.heap l1 xs)(d:cE c s.heap l2 ys)
  (h : ∀h',QB h' (s.heap.objs.size+4) (s.heap.objs.size+2) (s.heap.objs.size+3) .none->K5 h' (s.heap.objs.size+2) (.ref s.heap.objs.size) (.ref (s.heap.objs.size+1))->K5 h' (s.heap.objs.size+3) .none .none ->
   cn b h' s.heap.objs.size l1 0->cn c h' (s.heap.objs.size+1) l2 0->(∀c o,s.heap.get? c=some o->h'.get? c=some o)->Q (.ref (s.heap.objs.size+4)) { s with heap:=h' }) :
  kw (qb prog w) A (call (.type "zip") [.ref l1,.ref l2]) Q E s:=by
 show callType_new F.called_zip (!2) (F.typeCall_zip_2 _ _) (F.newCall_zip_2 _ _) (λobj=>F.args_object_init_3 obj _ _) F.entry_zip_new (vY b c l1 l2 xs ys) (a,d,?_);let z1:(zH1 s.heap b l1).objs.size=(~~~s)+1:=JA ..;let z2:(zH2 s.heap b c l1 l2).objs.size=(~~~s)+2:=by rw[JA,z1]
 let e:(zH3 s.heap b c l1 l2).objs.size=(~~~s)+3:=by rw[JA,z2]
 let g:(zH4 s.heap b c l1 l2).objs.size=(~~~s)+4:=by rw[JA,e]
 let f:(zH5 s.heap b c l1 l2).get? (zH4 s.heap b c l1 l2).objs.size=NI _:=IW _ rfl;let i:(zH5 s.heap b c l1 l2).get? (zH3 s.heap b c l1 l2).objs.size=NI _:=IH _ (IW _ rfl);let g3:(zH5 s.heap b c l1 l2).get? (zH2 s.heap b c l1 l2).objs.size=NI _:=IH _ (IH _ (IW _ rfl));let g2:(zH5 s.heap b c l1 l2).get? (zH1 s.heap b l1).objs.size=NI _:=IH _ (IH _ (IH _ (IW _ rfl)));let g1:(zH5 s.heap b c l1 l2).get? (~~~s)=NI _:=IH _ (IH _ (IH _ (IH _ (IW _ rfl))));show _/\_;rw[z2,e,g]at f;rw[z1,z2]at g3;rw[e]at i;rw[z1]at g2;rw[g];show((_,f,rfl),h _ f g3 i (ku g1) (ku g2) λc o x=>IH _ (IH _ (IH _ (IH _ (IH _ x)))))
abbrev B7(z TO i1 i2:ap)(h h':bd):Prop:=∀c o,c≠z->c≠TO->c≠i1->c≠i2->h.get? c=NI o->h'.get? c=NI o
def vZ{b c:Bool}{z TI TO i1 i2 l1 l2:ap}{k:Nat}{xs ys:Nq}{x y p q:as}{Q:Nm->ba->Prop}(D:Zk z TI TO i1 i2 l1 l2)
  (hz:QB s.heap z TI TO .none) (m:K5 s.heap TI (.ref i1) (.ref i2)) (n:K5 s.heap TO p q) (h1:cn b s.heap i1 l1 k) (h2:cn c s.heap i2 l2 k) (r:cE b s.heap l1 xs) (t:cE c s.heap l2 ys) (hx:xs[k]?=some x) (N:ys[k]?=some y)
  (O:∀h',QB h' z TI TO (K4 s.heap.objs.size)->K5 h' TO x y->cn b h' i1 l1 (k+1)->cn c h' i2 l2 (k+1)->K5 h' s.heap.objs.size x y->B7 z TO i1 i2 s.heap h'->Q (some (.ref s.heap.objs.size)) { s with heap:=h' }) :
  kw (qb prog w) A (Qo (.ref z)) Q E s:=by
 let I:s.TypeIs (.ref z) "zip" := (_,hz,rfl)
 unfold Qo;show jj (Qf (z6 (name:=cq "__next__") I F.slot_zip_next (z4 F.slot_zip_next I F.entry_zip_next ?_ (F.args_zip_next_1 _))));show kw _ _ (Zu (.ref z) 2 >>= _) _ _ _;show jj (Kz hz rfl (x:=.bool NL) rfl ?_);show kw _ _ (Zu (.ref z) 3 >>= _) _ _ _;show jj (Kz hz rfl (x:=.ref TI) rfl (jj (Ky m rfl ?_)));show kw _ _ (fI (.ref z) >>= _) _ _ _;show jj ?_;unfold fI;show jj (Kz hz rfl (x:=.none) rfl (ke ?_));simp only[if_true];show jj (KO (jj (Kz hz rfl (x:=.ref TO) rfl (jj (KY hz (!1) λP d sa=>?_)))));replace d:QB P z TI TO .ellipsis:=d;show jj ?_;simp only[Mu,MB,Kr,Kl];show jj (jj (QL ?_));show kw _ _ (dV (.ref i1) >>= _) _ _ _;show jj (gY (h1.at λo e=>sa.extBut _ o D.i1z e) (r.at λo e=>sa.extBut _ o D.l1z e) hx λR u f=>ke ?_);let tb:K5 R TO p q:=f.extBut _ _ D.TOi1 (sa.extBut _ _ D.TOz n);show jj (Ky tb rfl (jj (QD tb λhc tc sc=>?_)));replace tc:K5 hc TO x q:=tc;show jj (K9 (ke ?_));show jj (jj (QL ?_));show kw _ _ (dV (.ref i2) >>= _) _ _ _;show jj (gY (h2.at λo e=>sc.extBut _ o D.TOi2.symm (f.extBut _ o D.i12.symm (sa.extBut _ o D.i2z e))) (t.at λo e=>sc.extBut _ o D.l2TO (f.extBut _ o D.l2i1 (sa.extBut _ o D.l2z e))) N λhd v g=>ke ?_);let J:K5 hd TO x q:=g.extBut _ _ D.TOi2 tc;show jj (Ky J rfl (jj (QD J λa te h=>?_)));replace te:K5 a TO x y:=te;show jj (K9 (ke (ke ?_)));show jj (Ky te rfl (jj (Zb ?_)));let sz:a.objs.size=(~~~s):=by rw[h.1,g.1,sc.1,f.1,sa.1]
 let K:QB a z TI TO .ellipsis:=h.extBut _ _ D.TOz.symm (g.extBut _ _ D.i2z.symm (sc.extBut _ _ D.TOz.symm (f.extBut _ _ D.i1z.symm d)));let S:B7 z TO i1 i2 s.heap a:=λc o c1 c2 c3 B e=>h.extBut _ _ c2 (g.extBut _ _ B (sc.extBut _ _ c2 (f.extBut _ _ c3 (sa.extBut _ _ c1 e))));let C:cn b a i1 l1 (k+1):=u.at λo e=>h.extBut _ o D.TOi1.symm (g.extBut _ o D.i12 (sc.extBut _ o D.TOi1.symm e));let G:cn c a i2 l2 (k+1):=v.at λo e=>h.extBut _ o D.TOi2.symm e;let i:z<a.objs.size:=IX K;show kw _ _ (oo (.ref z) (.ref a.objs.size) >>= _) _ _ _;show jj ?_;unfold oo;let T:QB (a.push { cls:=.type "tuple",data:=.seq #[x,y] }) z TI TO .ellipsis:=IH _ K;show jj (KY T (!1) λhg H L=>?_);replace H:QB hg z TI TO (K4 a.objs.size):=H;show KY H (!1) λj l M=>?_;replace l:QB j z TI TO (K4 a.objs.size):=l;let up:∀c o,c≠z->a.get? c=NI o->j.get? c=NI o:=λc o c1 e=>M.extBut _ _ c1 (L.extBut _ _ c1 (IH _ e));let th:K5 j a.objs.size x y:=M.extBut _ _ (JR i) (L.extBut _ _ (JR i) (IW _ rfl));rw[sz]at l th;show ke (_,rfl,ke ?_);show Q (NI (.ref a.objs.size)) _;rw[sz];show O j l (up _ _ D.TOz te) (C.at λo e=>up _ o D.i1z e) (G.at λo e=>up _ o D.i2z e) th λc o c1 c2 c3 B e=>up c o c1 (S c o c1 c2 c3 B e)
def zI{b c:Bool}{z TI TO i1 i2 l1 l2:ap}{k:Nat}{xs ys:Nq}{p q:as}{Q:Nm->ba->Prop}(B:A.handled=none)(D:Zk z TI TO i1 i2 l1 l2)
  (hz:QB s.heap z TI TO .none) (l:K5 s.heap TI (.ref i1) (.ref i2)) (m:K5 s.heap TO p q) (h1:cn b s.heap i1 l1 k) (h2:cn c s.heap i2 l2 k) (i:cE b s.heap l1 xs) (n:cE c s.heap l2 ys) (j:xs[k]?=none\/ys[k]?=none)
  (C:∀h',B7 z TO i1 i2 s.heap h'->Q none { s with heap:=h' }):kw (qb prog w) A (Qo (.ref z)) Q E s:=by
 let G:s.TypeIs (.ref z) "zip" := (_,hz,rfl)
 unfold Qo;show jj (Qf (z6 (name:=cq "__next__") G F.slot_zip_next (z4 F.slot_zip_next G F.entry_zip_next ?_ (F.args_zip_next_1 _))));show kw _ _ (Zu (.ref z) 2 >>= _) _ _ _;show jj (Kz hz rfl (x:=.bool NL) rfl ?_);show kw _ _ (Zu (.ref z) 3 >>= _) _ _ _;show jj (Kz hz rfl (x:=.ref TI) rfl (jj (Ky l rfl ?_)));show kw _ _ (fI (.ref z) >>= _) _ _ _;show jj ?_;unfold fI;show jj (Kz hz rfl (x:=.none) rfl (ke ?_));simp only[if_true];show jj (KO (jj (Kz hz rfl (x:=.ref TO) rfl (jj (KY hz (!1) λL f sa=>?_)))));replace f:QB L z TI TO .ellipsis:=f;show jj ?_;simp only[Mu,MB,Kr,Kl];show jj (jj (QL ?_));show kw _ _ (dV (.ref i1) >>= _) _ _ _;cases hx:xs[k]? with
 |none =>
  show jj (ff B (h1.at λo e=>sa.extBut _ o D.i1z e) (i.at λo e=>sa.extBut _ o D.l1z e) hx λr e g t=>?_)
  cbv;let(u,a,d):=t;let H:QB r z TI TO .ellipsis:=g _ _ D.i1z.symm f;let v:e≠z:=λw'=>by subst w';rw[H]at a;cases a;simp at d
  w_up;show KY H (!1) λhc Y sc=>jj (KT (T := "StopIteration") (b:=NK) (u,sc.extBut _ _ v a,d) Zh (ke (C hc λc o c1 Y c3 Y x=>sc.extBut _ _ c1 (g _ _ c3 (sa.extBut _ _ c1 x)))))
 |some x =>
  let M:ys[k]?=NJ:=by rcases j with h|h;rw[hx]at h;cases h;show h
  show jj (gY (h1.at λo e=>sa.extBut _ o D.i1z e) (i.at λo e=>sa.extBut _ o D.l1z e) hx λr N g=>ke ?_);let tb:K5 r TO p q:=g.extBut _ _ D.TOi1 (sa.extBut _ _ D.TOz m);show jj (Ky tb rfl (jj (QD tb λhc tc sc=>?_)));show jj (K9 (ke ?_));show jj (jj (QL ?_));show kw _ _ (dV (.ref i2) >>= _) _ _ _;show jj (ff B (h2.at λo e=>sc.extBut _ o D.TOi2.symm (g.extBut _ o D.i12.symm (sa.extBut _ o D.i2z e))) (n.at λo e=>sc.extBut _ o D.l2TO (g.extBut _ o D.l2i1 (sa.extBut _ o D.l2z e))) M λhd e I y=>?_)
  cbv;let(u,a,d):=y;let J:QB hd z TI TO .ellipsis:=I _ _ D.i2z.symm (sc.extBut _ _ D.TOz.symm (g.extBut _ _ D.i1z.symm f));let v:e≠z:=λw'=>by subst w';rw[J]at a;cases a;simp at d
  w_up;show KY J (!1) λO Y K=>jj (KT (T := "StopIteration") (b:=NK) (u,K.extBut _ _ v a,d) Zh (ke (C O λc o c1 c2 c3 P x=>K.extBut _ _ c1 (I _ _ P (sc.extBut _ _ c2 (g.extBut _ _ c3 (sa.extBut _ _ c1 x)))))))
end
def aM{X:Cx}{pins:Nd}{σ:St}{H:Hp}{s:ba}{b:Bool}{a c:ap}{xs:NH}(I:Inv X pins σ H s)(h:SqB X.K H b a xs)(f:hV X pins H c):a≠c:=by
 let(g,i,j,d,k,l):=f;let key:(∃o,H a=NI o)\/∃o,X.K.lookup a=NI o:=by
  cases b with
  |false =>
   rcases h with (h|⟨o,h⟩)|⟨o,_,_,hk,_⟩
   show .inl (_,h);show .inl (_,h);show .inr (o,hk)
  |true =>
   rcases h with (h|⟨o,h⟩)|⟨o,_,_,hk,_⟩
   show .inl (_,h);show .inl (_,h);show .inr (o,hk)
 rintro rfl;rcases key with⟨o,e⟩|⟨o,e⟩
 rw[g]at e;cases e;let q:=I.ok.mod.kin a o e;rcases d with d|d;show I.ok.noex a o q d;show absurd (IY (IX q) (IQ I.ok.bsz d)) (JL _)
def Itz(K:ca)(b c:Bool)(l1 l2:ap):It :=
  (λi H=>∃xs ys x y,SqB K H b l1 xs/\SqB K H c l2 ys/\xs[i]?=NI x/\ys[i]?=NI y,
   λi H v H'=>∃p x y,v=.ref p/\H p=NJ/\H'=upd H p (.tup [x,y])/\(∀xs,SqB K H b l1 xs->xs[i]?=NI x)/\∀ys,SqB K H c l2 ys->ys[i]?=NI y,
   λi H=>∃xs ys,SqB K H b l1 xs/\SqB K H c l2 ys/\(-xs<=i\/-ys<=i))
structure ZAp(z TI TO i1 i2:ap):Prop where
 TIz:TI≠z
 TOz:TO≠z
 i1z:i1≠z
 i2z:i2≠z
 TITO:TI≠TO
 TIi1:TI≠i1
 TIi2:TI≠i2
 TOi1:TO≠i1
 TOi2:TO≠i2
 i12:i1≠i2
def v8{P:q3}{w:zb}{K:ca}{es:NF}{kk:Nat}{pos:Pos}(b c:Bool)(z TI TO i1 i2 l1 l2:ap)(a:ZAp z TI TO i1 i2) :
  zD P w K (.Tuple es kk pos) (Itz K b c l1 l2) [z,TI,TO,i1,i2] z
   (λi h=>QB h z TI TO .none/\K5 h TI (.ref i1) (.ref i2)/\(∃p q,K5 h TO p q)/\cn b h i1 l1 i/\cn c h i2 l2 i) where
 mem:=!1
 obj := λi h st d hd=>by
  cbv;let(hz,l,(p,q,m),h1,h2):=st;let(V,e1,d1):=h1.obj;let(Y,e2,d2):=h2.obj
  w_up;simp only[IR,Jk,or_false]at hd;rcases hd with rfl|rfl|rfl|rfl|rfl;show(_,hz,λv e=>by
   let e':Data.fields _=Data.cell v:=e;cases e')
  show(_,l,λv e=>by
   let e':Data.seq _ _=Data.cell v:=e;cases e')
  show(_,m,λv e=>by
   let e':Data.seq _ _=Data.cell v:=e;cases e')
  show(V,e1,λv e=>by rw[d1]at e;cases e);show(Y,e2,λv e=>by rw[d2]at e;cases e)
 keep:=λi h h' st k=>by
  let(hz,l,(p,q,m),h1,h2):=st;show(k z (!1) _ hz,k TI (!1) _ l,(p,q,k TO (!1) _ m),h1.at λo e=>k i1 (!1) o e,h2.at λo e=>k i2 (!1) o e)
 item := by
  intro X R hw hK hc i pins s σ H E I j st hg
  cbv;subst R hw hK;let(xs,ys,x,y,f,g,hx,Z):=hg;let(hz,l,(p,q,m),h1,h2):=st;let(r,B,C):=I.seq f;let(t,F,G):=I.seq g;let(u,hu,ru):=B.get hx;let(v,hv,rv):=F.get Z
  w_up;let D:Zk z TI TO i1 i2 l1 l2:=(a.TIz,a.TOz,a.i1z,a.i2z,a.TITO,a.TIi1,a.TIi2,a.TOi1,a.TOi2,a.i12,
   aM I f (j z (!1)),aM I f (j TO (!1)),aM I f (j i1 (!1)),aM I f (j i2 (!1)),aM I g (j z (!1)),aM I g (j TO (!1)),aM I g (j i1 (!1)),aM I g (j i2 (!1)))
  show vZ D hz l m h1 h2 C G (x:=u) (y:=v) (by simpa using hu) (by simpa using hv) λh' a1 a2 a3 a4 a5 hk=>(_,rfl,Zm a1 λM S n=>?_)
  let N:z<(~~~s):=IX hz;let I2:Inv X pins σ H { s with heap:=M }:=I.turnedN (t':=s.toks) j λd o hd e=>n.extBut d o (λw'=>hd (by simp[w'])) (hk d o (λw'=>hd (by simp[w'])) (λw'=>hd (by simp[w'])) (λw'=>hd (by simp[w'])) (λw'=>hd (by simp[w'])) e);let g2:M.get? (~~~s)=NI { cls:=.type "tuple",data:=.seq #[u,v] }:=n.extBut _ _ (JR N) a5;let hn:H (~~~s)=NJ:=I.hok.fresh (IS _);show(.ref (~~~s),upd H (~~~s) (.tup [x,y]),I2.track (T:=(~~~s)) (o:=.tup [x,y]) (I.fpOk (IS _) hn) ?_,rfl,?_,(S,?_,(u,v,?_),?_,?_),λd hd=>?_);show(by show 2<=sizeLine;decide,[u,v],.cons ru (.cons rv .nil),_,g2,rfl,(_,rfl),rfl);show(_,x,y,rfl,hn,rfl,λzs J=>by rw[I.seq_inj J f];show hx,λzs J=>by rw[I.seq_inj J g];show Z);show n.extBut _ _ a.TIz (hk _ _ a.TIz a.TITO a.TIi1 a.TIi2 l);show n.extBut _ _ a.TOz a2;show a3.at λo e=>n.extBut _ o a.i1z e;show a4.at λo e=>n.extBut _ o a.i2z e;let U:d<(~~~s):=by let(V,e1,_):=h1.obj;let(Y,e2,_):=h2.obj;simp only[IR,Jk,or_false]at hd;rcases hd with rfl|rfl|rfl|rfl|rfl;show N;show IX l;show IX m;show IX e1;show IX e2
  rw[al (Jd U)];show(j d hd).1
 done:=by
  intro X R hw hK hc i pins s σ H E I j st hg
  cbv;subst R hw hK;let(xs,ys,f,g,O):=hg;let(hz,l,(p,q,m),h1,h2):=st;let(r,B,C):=I.seq f;let(t,F,G):=I.seq g
  w_up;let D:Zk z TI TO i1 i2 l1 l2:=(a.TIz,a.TOz,a.i1z,a.i2z,a.TITO,a.TIi1,a.TIi2,a.TOi1,a.TOi2,a.i12,
   aM I f (j z (!1)),aM I f (j TO (!1)),aM I f (j i1 (!1)),aM I f (j i2 (!1)),aM I g (j z (!1)),aM I g (j TO (!1)),aM I g (j i1 (!1)),aM I g (j i2 (!1)))
  let a6:=-B;let a7:=-F;let L:r.toArray[i]?=NJ\/t.toArray[i]?=NJ:=by rcases O with h|h;show .inl (by simp;lia);show .inr (by simp;lia)
  show zI (I.ok.hd hc) D hz l m h1 h2 C G L λh' hk=>(rfl,?_)
  show I.turnedN (t':=s.toks) j λd o hd e=>hk d o (λw'=>hd (by simp[w'])) (λw'=>hd (by simp[w'])) (λw'=>hd (by simp[w'])) (λw'=>hd (by simp[w'])) e
 self:=λA i s Q E st h=>Qr st.1 h
section
variable{X:Cx}
def E4(K:ca)(b c:Bool)(ta:TA):TI:=λσ H R=>ta σ H λvs H1=>∃l1 l2 xs ys,vs=[.ref l1,.ref l2]/\SqB K H1 b l1 xs/\SqB K H1 c l2 ys/\R (Itz K b c l1 l2) H1
def Di(b c:Bool){es:NF}{y:Nat}{a:Pos}{e1 e2:bb}{ta:TA}{p pos:Pos}(hg:Gl X "zip")(A:X.mg "zip" = none)(i:KJ "zip" = some (.type "zip"))(B:PA X [e1,e2] ta)
  (hs:kq [e1,e2] X.env=[(false,eval e1 X.env),(false,eval e2 X.env)]:=by rfl) (e:kq [e2] X.env=[(false,eval e2 X.env)]:=by rfl) :
  PI X (.Tuple es y a) (.Call (.Name "zip" p) [e1,e2] [] pos) (E4 X.K b c ta):=by
 intro pins s σ H R I h;show Call_ (fR I hg A i (gl (thn (B pos pins s σ H _ I h) λus s1 j=>?_) (by rw[hs,e]) (by rw[e];rfl)))
 cbv;let(vs,H1,f,C,D):=j;let(l1,l2,xs,ys,rfl,k,l,q):=D;let(u,v,rfl,E,rv):=sJ C
 w_up;cases (show u=da l1 from E);cases (show v=da l2 from rv);let(w,F,m):=f.seq k;let(x,G,o):=f.seq l;show v4 m o λh' hz r t h1 h2 hk=>Qr hz ?_;let J:Inv X pins σ H1 { s1 with heap:=h' }:=f.kept (t':=s1.toks) hk;let L:ZAp ((~~~s1)+4) ((~~~s1)+2) ((~~~s1)+3) (~~~s1) ((~~~s1)+1):=by show(?_,?_,?_,?_,?_,?_,?_,?_,?_,?_) <;> (intro z;show absurd (congrArg (λ(n:Nat)=>n-(~~~s1)) z) (!1))
 show((~~~s1)+4,[(~~~s1)+4,(~~~s1)+2,(~~~s1)+3,(~~~s1),(~~~s1)+1],_,_,H1,rfl,J,v8 b c _ _ _ _ _ l1 l2 L,(hz,r,(_,_,t),h1,h2),λd hd=>?_,q);let g:(~~~s1)<=d:=by simp only[IR,Jk,or_false]at hd;rcases hd with rfl|rfl|rfl|rfl|rfl;show JP _ _;show JP _ _;show JP _ _;show IS _;show JP _ _
 show f.fpOk g (f.hok.fresh g)
end
def SnL(K:ca)(N:ap->Prop)(H:Hp)(a:ap)(xs:NH):Prop :=
 (Rd H a (.lst xs)/\¬N a)\/∃(o:Obj) (b:Nq) (n:Nat),K.lookup a=NI o/\o.cls=.type "list" /\ o.dict=NJ/\o.data=.seq b n/\b.size<=sizeLine/\aH xs b.toList
def SnT(K:ca)(N:ap->Prop)(H:Hp)(a:ap)(xs:NH):Prop :=
 (Rd H a (.tup xs)/\¬N a)\/∃(o:Obj) (b:Nq) (n:Nat),K.lookup a=NI o/\(o.cls=.type "tuple" /\ o.dict=NJ)/\o.data=.seq b n/\b.size<=sizeLine/\aH xs b.toList
def aO(N:ap->Prop)(H H':Hp):Prop:=∀b o,¬N b->H b=NI o->H' b=NI o
def aO.refl{N:ap->Prop}{H:Hp}:aO N H H:=λY Y Y e=>e
def aO.trans{N:ap->Prop}{H H1 d:Hp}(a:aO N H H1)(b:aO N H1 d):aO N H d:=λc o n e=>b c o n (a c o n e)
def aO.own{N:ap->Prop}{H:Hp}{p:ap}{o:HO}(h:N p):aO N H (upd H p o):=λb u n e=>by
 let q:b≠p:=λz=>n (by rw[z];show h);rw[al q];show e
def aO.mono{N M:ap->Prop}{H H':Hp}(a:aO N H H')(h:∀b,N b->M b):aO M H H':=λb o n e=>a b o (λz=>n (h b z)) e
def aO.same{N:ap->Prop}{H H':Hp}(a:aS H H'):aO N H H':=λb o Y e=>a b o e
abbrev N0:ap->Prop:=λY=>False
abbrev N1(d:ap):ap->Prop:=λb=>b=d
def aO.none{H H':Hp}(a:aO N0 H H'):aS H H':=λb o e=>a b o (λz=>z) e
section
variable{K:ca}{N M:ap->Prop}{H H':Hp}{a:ap}{xs:NH}
def SnL.of(h:H a=NI (.lst xs))(n:¬N a):SnL K N H a xs:=.inl (.inl h,n)
def SnT.of(h:H a=NI (.tup xs))(n:¬N a):SnT K N H a xs:=.inl (.inl h,n)
def SnL.sq(h:SnL K N H a xs):SqL K H a xs:=by rcases h with⟨h,_⟩|h;show .inl h;show .inr h
def SnT.sq(h:SnT K N H a xs):SqT K H a xs:=by rcases h with⟨h,_⟩|h;show .inl h;show .inr h
def SnL.keep(h:SnL K N H a xs)(k:aO N H H'):SnL K N H' a xs:=by rcases h with⟨h|⟨o,h⟩,n⟩|h;show .inl (.inl (k _ _ n h),n);show .inl (.inr (o,k _ _ n h),n);show .inr h
def SnT.keep(h:SnT K N H a xs)(k:aO N H H'):SnT K N H' a xs:=by rcases h with⟨h|⟨o,h⟩,n⟩|h;show .inl (.inl (k _ _ n h),n);show .inl (.inr (o,k _ _ n h),n);show .inr h
def SnL.to(h:SnL K N H a xs)(m:∀b o,H b=NI o->M b->N b):SnL K M H a xs:=by rcases h with⟨h|⟨o,h⟩,n⟩|h;show .inl (.inl h,λz=>n (m _ _ h z));show .inl (.inr (o,h),λz=>n (m _ _ h z));show .inr h
def SnT.to(h:SnT K N H a xs)(m:∀b o,H b=NI o->M b->N b):SnT K M H a xs:=by rcases h with⟨h|⟨o,h⟩,n⟩|h;show .inl (.inl h,λz=>n (m _ _ h z));show .inl (.inr (o,h),λz=>n (m _ _ h z));show .inr h
end
mutual
inductive DN (K:ca) (N:ap->Prop) (H:Hp):V->ab->Prop
 |non:DN K N H .non .none
 |bl (b:Bool):DN K N H (.bl b) (.bool b)
 |int (i:Int):DN K N H (.int i) (.int i)
 |str (x:bx):DN K N H (.str x) (.str x)
 |lst {a:ap}{xs:NH}{ds:Nz}:SnL K N H a xs->DNs K N H xs ds->DN K N H (.ref a) (.list ds)
 |tup {a:ap}{xs:NH}{ds:Nz}:SnT K N H a xs->DNs K N H xs ds->DN K N H (.ref a) (.tuple ds)
 |dct {a:ap}{es:Nb}{kvs:Nf}:¬N a->H a=some (.ext (ce a es))->DNs K N H (es.map λp=>V.ref p.2.1) (kvs.map λp=>dD p.1)->DNs K N H (es.map λp=>p.2.2) (kvs.map λp=>p.2)->es.map (λp=>p.1)=kvs.map (λp=>p.1)->DN K N H (.ref a) (eD kvs)
 |idc {a:ap}{x:bx}{v:V}{d:ab}:¬N a->H a=some (.dK [(.inr x,v)])->DN K N H v d->DN K N H (.ref a) (qt x d)
 |dsk {a b C dx:ap}{x:bx}{v:V}{d:ab}:¬N a->¬N b->H a=some (.ins C dx [("towns",.ref b)])->H b=some (.dK [(.inr x,v)])->DN K N H v d->DN K N H (.ref a) (jK C x d)
 |fz {v:V}{ds:Nz}:DN K N H v (.list ds)->DN K N H v (fzD ds)
inductive DNs (K:ca) (N:ap->Prop) (H:Hp):NH->Nz->Prop
 |nil:DNs K N H [] []
 |cons {x:V}{xs:NH}{d:ab}{ds:Nz}:DN K N H x d->DNs K N H xs ds->DNs K N H (x::xs) (d::ds)
end
section
variable{K:ca}{N M:ap->Prop}{H H':Hp}
def DN.dv{v:V}{d:ab}(h:DN K N H v d):DV K H v d :=
  DN.rec (motive_1:=λv d Y=>DV K H v d) (motive_2:=λv d Y=>DVs K H v d)
  .non (λb=>.bl b) (λi=>.int i)
   (λx=>.str x)
  (λh Y q=>.lst h.sq q) (λh Y q=>.tup h.sq q)
  (λY h Y Y e q r=>.dct h q r e) (λY h Y q=>.idc h q) (λY Y h g Y q=>.dsk h g q) (λY h=>.fz h) .nil (λY Y h q=>.cons h q) h
def DNs.dv{v:NH}{d:Nz}(h:DNs K N H v d):DVs K H v d :=
  DNs.rec (motive_1:=λv d Y=>DV K H v d) (motive_2:=λv d Y=>DVs K H v d)
  .non (λb=>.bl b) (λi=>.int i)
   (λx=>.str x)
  (λh Y q=>.lst h.sq q) (λh Y q=>.tup h.sq q)
  (λY h Y Y e q r=>.dct h q r e) (λY h Y q=>.idc h q) (λY Y h g Y q=>.dsk h g q) (λY h=>.fz h) .nil (λY Y h q=>.cons h q) h
theorem DN.keep(k:aO N H H'){v:V}{d:ab}(h:DN K N H v d):DN K N H' v d :=
  DN.rec (motive_1:=λv d Y=>DN K N H' v d) (motive_2:=λv d Y=>DNs K N H' v d)
  .non (λb=>.bl b) (λi=>.int i)
   (λx=>.str x)
  (λh Y q=>.lst (h.keep k) q) (λh Y q=>.tup (h.keep k) q)
  (λn h Y Y e q r=>.dct n (k _ _ n h) q r e) (λn h Y q=>.idc n (k _ _ n h) q) (λn a h g Y q=>.dsk n a (k _ _ n h) (k _ _ a g) q) (λY h=>.fz h) .nil (λY Y h q=>.cons h q) h
theorem DNs.keep(k:aO N H H'){v:NH}{d:Nz}(h:DNs K N H v d):DNs K N H' v d :=
  DNs.rec (motive_1:=λv d Y=>DN K N H' v d) (motive_2:=λv d Y=>DNs K N H' v d)
  .non (λb=>.bl b) (λi=>.int i)
   (λx=>.str x)
  (λh Y q=>.lst (h.keep k) q) (λh Y q=>.tup (h.keep k) q)
  (λn h Y Y e q r=>.dct n (k _ _ n h) q r e) (λn h Y q=>.idc n (k _ _ n h) q) (λn a h g Y q=>.dsk n a (k _ _ n h) (k _ _ a g) q) (λY h=>.fz h) .nil (λY Y h q=>.cons h q) h
theorem DN.to(m:∀b o,H b=NI o->M b->N b){v:V}{d:ab}(h:DN K N H v d):DN K M H v d :=
  DN.rec (motive_1:=λv d Y=>DN K M H v d) (motive_2:=λv d Y=>DNs K M H v d)
  .non (λb=>.bl b) (λi=>.int i)
   (λx=>.str x)
  (λh Y q=>.lst (h.to m) q) (λh Y q=>.tup (h.to m) q)
  (λn h Y Y e q r=>.dct (λz=>n (m _ _ h z)) h q r e) (λn h Y q=>.idc (λz=>n (m _ _ h z)) h q) (λn a h g Y q=>.dsk (λz=>n (m _ _ h z)) (λz=>a (m _ _ g z)) h g q) (λY h=>.fz h) .nil (λY Y h q=>.cons h q) h
theorem DNs.to(m:∀b o,H b=NI o->M b->N b){v:NH}{d:Nz}(h:DNs K N H v d):DNs K M H v d :=
  DNs.rec (motive_1:=λv d Y=>DN K M H v d) (motive_2:=λv d Y=>DNs K M H v d)
  .non (λb=>.bl b) (λi=>.int i)
   (λx=>.str x)
  (λh Y q=>.lst (h.to m) q) (λh Y q=>.tup (h.to m) q)
  (λn h Y Y e q r=>.dct (λz=>n (m _ _ h z)) h q r e) (λn h Y q=>.idc (λz=>n (m _ _ h z)) h q) (λn a h g Y q=>.dsk (λz=>n (m _ _ h z)) (λz=>a (m _ _ g z)) h g q) (λY h=>.fz h) .nil (λY Y h q=>.cons h q) h
def DNs.ind{C:NH->Nz->Prop}(n:C [] [])(c:∀{x:V}{xs:NH}{d:ab}{ds:Nz},DN K N H x d->DNs K N H xs ds->C xs ds->C (x::xs) (d::ds)){v:NH}{d:Nz}(h:DNs K N H v d):C v d :=
  DNs.rec (motive_1:=λY Y Y=>True) (motive_2:=λv d Y=>C v d) trivial (λY=>trivial) (λY=>trivial)
   (λY=>trivial)
  (λY Y Y=>trivial) (λY Y Y=>trivial)
  (λY Y Y Y Y Y Y=>trivial) (λY Y Y Y=>trivial) (λY Y Y Y Y Y=>trivial) (λY Y=>trivial) n (λh q Y i=>c h q i) h
def DNs.len{v:NH}{d:Nz}(h:DNs K N H v d):-v=-d:=DNs.ind (C:=λv d=>-v=-d) rfl (λY Y i=>by rw[Jf,Jf,i]) h
theorem DNs.get:∀{v:NH}{d:Nz}{i:Nat}{x:V},DNs K N H v d->v[i]?=NI x->∃e,d[i]?=NI e/\DN K N H x e
 |_,_,_,_,.nil,e=>by simp at e
 |_,_,0,_,.cons h _,e=>by simp at e;subst e;show(_,rfl,h)
 |_,_,i+1,_,.cons _ q,e=>by
  let(d,h1,h2):=DNs.get (i:=i) q (by simpa using e);show(d,by simpa using h1,h2)
def DNs.app{v w:NH}{d e:Nz}(h:DNs K N H v d)(q:DNs K N H w e):DNs K N H (v++w) (d++e):=DNs.ind (C:=λv d=>DNs K N H (v++w) (d++e)) q (λh Y i=>.cons h i) h
abbrev pI(ns:Np):ab:=.list (ns.map .int)
abbrev pT(ns:Np):ab:=.tuple (ns.map .int)
theorem qF:∀ns:Np,DNs K N H (ns.map V.int) (ns.map .int)
 |[]=>.nil
 |n::r=>.cons (.int n) (qF r)
theorem DNs.ints:∀{ns:Np}{v:NH},DNs K N H v (ns.map .int)->v=ns.map V.int
 |[],_,.nil=>rfl
 |n::r,_,.cons h q=>by
  cases h;rw[q.ints];rfl
def DN.ofI{a:ap}{ns:Np}(h:SnL K N H a (ns.map V.int)):DN K N H (.ref a) (pI ns):=.lst h (qF ns)
theorem DN.list{v:V}{ds:Nz}(h:DN K N H v (.list ds)):∃a xs,v=.ref a/\SnL K N H a xs/\DNs K N H xs ds:=by cases h with|lst h q=>show(_,_,rfl,h,q)
theorem DN.tuple{v:V}{ds:Nz}(h:DN K N H v (.tuple ds)):∃a xs,v=.ref a/\SnT K N H a xs/\DNs K N H xs ds:=by cases h with|tup h q=>show(_,_,rfl,h,q)
def DN.of2{a:ap}{x y:V}{d e:ab}(s:SnT K N H a [x,y])(h1:DN K N H x d)(h2:DN K N H y e):DN K N H (.ref a) (.tuple [d,e]):=.tup s (.cons h1 (.cons h2 .nil))
abbrev Ha(S:Int×Np):ab:=.tuple [.int S.1,pT S.2]
end
theorem fh:∀a b:Np,ge (a.map .int) (b.map .int)=decide (a=b)
 |[],[]=>by simp[ge]
 |[],_::_=>by simp[ge]
 |_::_,[]=>by simp[ge]
 |x::a,y::b=>by
  rw[IU,IU,ge,fh a b];simp only[ed];by_cases h:x=y <;> by_cases h':a=b <;> simp[h,h']
def Gn(a b:Np):ed (pI a) (pI b)=decide (a=b):=by show ge _ _=_;show fh a b
def Gm(a b:Np):ed (pT a) (pT b)=decide (a=b):=by show ge _ _=_;show fh a b
def BB(S T:Int×Np):ed (Ha S) (Ha T)=decide (S=T):=by show ge [.int S.1,pT S.2] [.int T.1,pT T.2]=_;let e1:ed (.int S.1) (.int T.1)=(S.1==T.1):=rfl;rw[ge,ge,ge,Gm,e1];by_cases h:S.1=T.1 <;> by_cases h':S.2=T.2 <;> simp[h,h',Prod.ext_iff]
def xt(a:Np):eS (a.map .int)=NK:=PySem.W.ke_canLayAll0 a
def xV(a:Np):hQ (a.map .int)=0:=PySem.W.ke_depthAll a
def Fz(a:Np):shp (pI a):=by simp[shp,lb,eg,nk,xt,xV]
def Cal(P:q3)(w:zb)(K:ca)(mg:bx->Nm)(base:bd)(x:bx)(k:Nat)(sp:Sp):Prop :=
 ∃(f:ap) (fd:kN) (ps:ND),a9 P w K mg base CX0 k f fd ps sp/\cV K fd ps []/\eE K (.ref f)=NK/\mg x=NI (.ref f)
section
variable{X:Cx}{x:bx}{p pos:Pos}{e:bb}{es:NF}{t:TA}{k:Nat}{sp:Sp}
def lG(C:Cal X.prog X.w X.K X.mg X.base x k sp)(c:b9 k X.A)(hg:Gl X x)(d:PA X (e::es) t)(hd:(x==("__debug__" : bx))=false:=by decide)
  (g:kq (e::es) X.env=(false,eval e X.env)::kq es X.env:=by rfl) (a:(ze pos (kq es X.env)).any (·.1)=false:=by rfl):PE X (.Call (.Name x p) (e::es) [] pos) (nq sp [] E0 t):=by let(f,fd,ps,F,b,kp,m):=C;show AQ F c hg m kp b .nil uf d hd g a
end
noncomputable def bOk(N:ND)(sc0:KL)(N':ND)(ix:M5)(sc:KL):Bool :=
 decide (sc.kind=.function)&&decide ((sc.names.map (·.1)).Nodup)&&sc.names.all (λy=>!(y.2==.free) ||decide (sc0.names.lookup y.1=NI .cell) ||decide (sc0.names.lookup y.1=NI .free))&&decide (-ix=-N') &&
 (ix.zip N').all λq=>match q.1 with
  |none=>NK
  |some j=>decide (N[j]?=NI q.2)&&decide (sc.names.lookup q.2=NI .free)
def vD{X:Cx}{N N':ND}{ix:M5}{sc sc0:KL}(hN:X.N=N)(c:X.env.scope=sc0)(h:bOk N sc0 N' ix sc=NK):cF X.N X.env N' ix sc:=by
 rw[<-hN]at h;unfold bOk at h;simp only[Jw,decide_eq_true_eq]at h;let((((h1,h2),h3),d),f):=h;show(h1,h2,λy g k=>?_,d,λi j a=>?_);let q:=Lb.mp h3 y g;rw[k]at q;let e:∀z,X.env.kindOf z=sc0.names.lookup z:=λz=>by
  show X.env.scope.names.lookup z=_;rw[c]
 rw[e];simpa using q;let hi:i< -ix:=(IN.mp a).1;let b:i< -N':=!0
 let l:(NI j,N'[i])∈ix.zip N':=by rw[List.mem_iff_getElem?];show(i,?_);rw[List.getElem?_zip_eq_some];show(a,IK b)
 let q:=Lb.mp f _ l;simp only[Jw,decide_eq_true_eq]at q;show(N'[i],IK b,q.1,q.2)
structure Bn(mg:bx->Nm):Prop where
 len:mg "len" = none
 range:mg "range" = none
 min:mg "min" = none
 max:mg "max" = none
 enumerate:mg "enumerate" = none
 zip:mg "zip" = none
 all:mg "all" = none
 any:mg "any" = none
 isinstance:mg "isinstance" = none
 bool:mg "bool" = none
 int:mg "int" = none
 list:mg "list" = none
 tuple:mg "tuple" = none
 sorted:mg "sorted" = none
 str:mg "str" = none
 sum:mg "sum" = none
 abs:mg "abs" = none
 reversed:mg "reversed" = none
 dict:mg "dict" = none
def Du{X:Cx}:OpR X (q4 .Is) (λx y H Q=>∃b c,x=.bl b/\y=.bl c/\Q (.bl (b==c)) H):=by intro pins s σ H x y v u Q I a d h;let(b,c,rfl,rfl,q):=h;cases (show v=lv b from a);cases (show u=lv c from d);show is_bool (.bl _,H,I,rfl,q)
def aS.new{H:Hp}{p:ap}{o:HO}(h:H p=NJ):aS H (upd H p o):=λb u e=>by rw[al (au e h)];show e
def Cal.mk{P:q3}{w:zb}{K:ca}{mg:bx->Nm}{base:bd}{x:bx}{st:Stmt}{f:ap}{fd:kN}{k:Nat}{ps:ND}{sp:Sp}(F:Fun K x x st f fd)(m:mg x=NI (.ref f))(b:cV K fd ps [])
  (G : a9 P w K mg base CX0 k f fd ps sp):Cal P w K mg base x k sp:=(f,fd,ps,G,b,F.kp,m)
def ae:1000000<=sizeLine:=!2
section
variable{X:Cx}{K:ca}(hK:X.K=K)
include hK
def Ie:cZ X (.builtin "len") (λxs H Q=>∃p ys,xs=[.ref p]/\(SqL K H p ys\/SqT K H p ys)/\Q (.int (-ys)) H):=by subst hK;show mT
def Ic:SlR X (G0 K):=by subst hK;show zY
def Ib:SlR X (GZ K):=by subst hK;show CI
def F4:OpR X (KN .Add) (CT K):=by subst hK;show AW
def Be(a:X.A.units+64<KD):OpR X (q4 .Eq) (FL K):=by subst hK;show Dy a
def E3(a:X.A.units+64<KD):OpR X (q4 .NotEq) (FG K):=by subst hK;show Dt a
def Ii(a:X.A.units+80<KD):OpR X (q4 .In) (FK K):=by subst hK;show Dw a
def Bd(a:X.A.units+80<KD):OpR X (q4 .NotIn) (nZ K):=by subst hK;show uo a
def kIn:OpR X (q4 .In) (rIn K NL):=by subst hK;show uu
def D4:OpR X (q4 .NotIn) (rIn K NK):=by subst hK;show lI
def Ch(hc:X.calm=NK):cZ X (.builtin "all") (λxs H Q=>∃(a:ap) (bs:List Bool),xs=[.ref a]/\SqL K H a (bs.map V.bl)/\Q (.bl (bs.all id)) H):=by subst hK;show ye hc
def F1:cZ X (.type "list") (λxs H Q=>∃p ys,xs=[.ref p]/\(SqL K H p ys\/SqT K H p ys)/\∀l,H l=NJ->Q (.ref l) (upd H l (.lst ys))):=by subst hK;show mR
def D3:cZ X (.type "tuple") (λxs H Q=>∃p ys,xs=[.ref p]/\((SqL K H p ys/\∀l,H l=NJ->Q (.ref l) (upd H l (.tup ys)))\/(SqT K H p ys/\Q (.ref p) H))):=by subst hK;show kI
variable{tg:bb}
def DR{l:bb}{tl:TE}(hl:PE X l tl):PI X tg l (Ea K tl):=by subst hK;show AF hl
def DU(b:Bool){es:NF}{d:Nat}{c:Pos}{a:bb}{ta:TA}{p pos:Pos}(hg:Gl X "enumerate")(e:X.mg "enumerate" = none)(f:PA X [a] ta)(hs:kq [a] X.env=[(false,eval a X.env)]:=by rfl) :
  PI X (.Tuple es d c) (.Call (.Name "enumerate" p) [a] [] pos) (Eb K b ta):=by subst hK;show AG b hg e PyProof.Rows.boot_enumerate f hs
def FZ(b c:Bool){es:NF}{e:Nat}{a:Pos}{e1 e2:bb}{ta:TA}{p pos:Pos}(hg:Gl X "zip")(f:X.mg "zip" = none)(g:PA X [e1,e2] ta)
  (hs:kq [e1,e2] X.env=[(false,eval e1 X.env),(false,eval e2 X.env)]:=by rfl) (d:kq [e2] X.env=[(false,eval e2 X.env)]:=by rfl) :
  PI X (.Tuple es e a) (.Call (.Name "zip" p) [e1,e2] [] pos) (E4 K b c ta):=by subst hK;show Di b c hg f Ld g hs d
def F0{pos:Pos}{es:NF}{k:Nat}{t:TGs}{n:Nat}(hc:X.calm=true)(h:PGs X es t)(hn:(KH es X.env).length=n:=by rfl)(a:(KH es X.env).findIdx? (·.1)=none:=by rfl):PG X (.Tuple es k pos) (Hf K n t):=by subst hK;show Dk hc h hn a
def yU{a:bb}{ta:TE}(c:PE X a ta)(d:∀b,QF a X.env b=(do let v <-b;K2 a.pos;KI [v] (Ze v))):PT X a (λσ H Q=>ta σ H λx H'=>∃k,Fj K x H' k/\Q k H'):=by subst hK;show wL c d
variable{o e:bb}{es:NF}{to:TE}{t:TA}{name:bx}{apos cpos:Pos}{T id:String}{r:V->NH->Hp->VK->Prop}
def He(d:Zl T)(slot:Slot T name id)(c:typeOf (.builtin id)=pure (.type "method_descriptor"))(e:MtR X id r)(ho:PE X o to)
  (a:z5 o name X.env (eval o X.env)=eval o X.env:=by rfl) (b:(apos.endLine==cpos.line)=true:=by rfl):PE X (.Call (.Attribute o name apos) [] [] cpos) (GV K T r to):=by subst hK;show Dq d slot c e ho a b
def kBm(g:Zl T)(slot:Slot T name id)(f:typeOf (.builtin id)=pure (.type "method_descriptor"))(h:MtR X id r)(ho:PE X o to)(i:PA X (e::es) t)
  (b:z5 o name X.env (eval o X.env)=eval o X.env:=by rfl)
  (d:((ze cpos (kq (e::es) X.env)).all (λx=>!x.1)&&(KU cpos (KA [] X.env)).all (λx=>x.1.isSome)&&decide ((e::es).length+([]:NG).length+(if ([]:NG).isEmpty then 0 else 1)<30))=true:=by rfl)
  (c:(apos.endLine==cpos.line)=true:=by rfl) (hs:kq (e::es) X.env=(false,eval e X.env)::kq es X.env:=by rfl) (a:(ze cpos (kq es X.env)).any (·.1)=false:=by rfl) :
  PE X (.Call (.Attribute o name apos) (e::es) [] cpos) (tBM K T r to t):=by subst hK;show FR g slot f h ho i b d c hs a
end
def jw{A:Around}{k:Nat}(a:b9 k A):A.units+80<KD:=by let:=a.un;lia
def Bh{n j:Nat}(h:j<n):ixN n (j:Int)=NI j:=by unfold ixN;rw[M0 (!0),M0 (!0),Jv]
def HH(t u:TS):TS:=λD σ H=>∃R:St->Hp->Prop,t { D with nx:=R } σ H/\∀σ' H',R σ' H'->u D σ' H'
def Ax{X:Cx}{st:Stmt}{rest:Nn}{t u:TS}(h1:PS X st t)(h2:PSs X rest u):PSs X (st::rest) (HH t u):=by
 intro pins s σ H D I h;let(R,h,a):=h;show QY (thn (h1 pins s σ H { D with nx:=R } I h) λf s1 q=>?_);cases f with
 |next =>
  let(σ',H',b,q):=q;show h2 pins s1 σ' H' D b (a _ _ q)
 |ret v=>show q
 |brk=>show q
 |cont=>show q
def l6{α:Type}{x:α}{l:List α}(h:x∈l.dropLast):x∈l:=by rw[sd]at h;show L6 h
def aO.put{N:ap->Prop}{H H':Hp}{p:ap}{o:HO}(k:aO N H H')(h:H p=Option.none):aO N H (upd H' p o):=λb u n e=>by
 rw[al (au e h)];show k b u n e
def DN.sqL{K:ca}{H:Hp}{a:ap}{ns:Np}(h:SqL K H a (ns.map V.int)):DN K N0 H (.ref a) (pI ns):=DN.ofI (by
 rcases h with h|h;show .inl (h,λz=>z);show .inr h)
section
variable{κ β:Type}[DecidableEq κ]
noncomputable def cu(kvs:List (κ×β))(k:κ):Option β:=(kvs.find? λp=>decide (p.1=k)).map (·.2)
def kO(kvs:List (κ×β))(k:κ)(v:β):List (κ×β):=if (cu kvs k).isSome=NK then kvs.map λp=>if p.1=k then (p.1,v) else p else kvs++[(k,v)]
def xJ(k:κ):cu ([]:List (κ×β)) k=NJ:=rfl
def bz(p:κ×β)(kvs:List (κ×β))(k:κ):cu (p::kvs) k=if p.1=k then NI p.2 else cu kvs k:=by unfold cu;rw[Ks];by_cases h:p.1=k <;> simp[h]
def jW(kvs:List (κ×β))(k:κ)(v:β):(kO kvs k v).length<=-kvs+1:=by unfold kO;split <;> simp
end
def GO(K:ca)(H:Hp)(v:V)(kvs:Nf):Prop :=
 ∃a es,v=.ref a/\H a=NI (.ext (ce a es))/\DVs K H (es.map λp=>V.ref p.2.1) (kvs.map λp=>dD p.1)/\DVs K H (es.map λp=>p.2.2) (kvs.map λp=>p.2)/\es.map (λp=>p.1)=kvs.map (λp=>p.1)
section
variable{X:Cx}{pins:Nd}{σ:St}{H:Hp}{s:ba}{a b:ap}{k:aL}
theorem DVs.map_int:∀{ns:Np}{xs:NH},DVs X.K H xs (ns.map .int)->xs=ns.map V.int
 |[],_,h=>by cases h;rfl
 |n :: ns,_,h=>by
  cases h with
  |cons h t =>
   cases h;rw[DVs.map_int t];rfl
theorem pi:∀{ns:Np}{us:NC},aH (ns.map V.int) us->ItemsAre (K7 X.prog X.w) ns us
 |[],us,h=>by cases h;show .nil
 |n :: ns,us,h=>by
  cases h with
  |cons r t =>
   let(tt,rfl):=r;show .cons (d9 n tt) (pi t)
def jp(I:Inv X pins σ H s){x:V}{u:as}(h:DV X.K H x (dD k))(r:be x u):∃b,x=.ref b/\u=.ref b/\cY X.prog X.w s.heap k b:=by
 cbv;let(d,l):=k;let(b,xs,rfl,sq,q):=DV.tupI (h:DV X.K H x (.tuple _));let(v1,D,rfl,h1,h2):=q.twoI;let(c,ys,rfl,g,p):=h2.tupI;let(v,rv,(o,e,cl,n,hd),_):=I.tuple sq;let(a,f,(y,e2,i,z,j),_):=I.tuple g;rw[DVs.map_int (X:=X) p]at f;let(E,A,rfl,m,B):=sJ rv;rw[h1.intI]at m;let(t,rfl):=m;let e3:A=da c:=B;let C:u=da b:=r;subst e3 C
 w_up;show(b,rfl,rfl,o,t,c,n,e,cl,hd,y,a.toArray,z,e2,i,j,by simpa using pi f)
theorem qd(I:Inv X pins σ H s):∀{es:Nb}{xs:Na}{kvs:Nf},
  Paired (λ(p:aL×ap×V) (q:aL×ap×as)=>p.1=q.1/\p.2.1=q.2.1/\be p.2.2 q.2.2) es xs->DVs X.K H (es.map λp=>V.ref p.2.1) (kvs.map λp=>dD p.1)->es.map (λp=>p.1)=kvs.map (λp=>p.1) ->
  ∀x∈xs,cY X.prog X.w s.heap x.1 x.2.1
 |[],_,_,.nil,_,_=>λx hx=>by cases hx
 |p :: es,_,kvs,.cons (b:=q) r t,h,e=>by
  cases kvs with
  |nil=>simp at e
  |cons kv kvs =>
   rw[IU,IU]at h e;injection e with e1 e2;cases h with
   |cons h1 h2 =>
    intro x hx;rcases IR.mp hx with rfl|hx
    .cbv;let(b,z,_,st):=jp I h1 (u:=.ref p.2.1) rfl;cases z
     w_up;rw[<-r.1,<-r.2.1,e1];show st
    show qd I t h2 e2 x hx
def dct_of(I:Inv X pins σ H s){es:Nb}{kvs:Nf}(b:H a=NI (.ext (ce a es)))(hk:DVs X.K H (es.map λp=>V.ref p.2.1) (kvs.map λp=>dD p.1))(e:es.map (λp=>p.1)=kvs.map (λp=>p.1)) :
  (-es)<=sizeLine/\(a==cf)=NL/\∃xs,Paired (λ(p:aL×ap×V) (q:aL×ap×as)=>p.1=q.1/\p.2.1=q.2.1/\be p.2.2 q.2.2) es xs/\o9 X.prog X.w s.heap a xs:=by let((z,y,xs,r,o,ds,ep,h1,h2,h3,c,d),_):=I.hok a _ b;show(z,y,xs,r,o,ds,ep,h1,h2,h3,c,qd I r hk e,d)
def vG{es:Nb}{xs:Na}{kvs:Nf}{K:ca}(k:aL)
  (c:Paired (λ(p:aL×ap×V) (q:aL×ap×as)=>p.1=q.1/\p.2.1=q.2.1/\be p.2.2 q.2.2) es xs) (e:es.map (λp=>p.1)=kvs.map (λp=>p.1)) (h:DVs K H (es.map λp=>p.2.2) (kvs.map λp=>p.2)) :
  (cu kvs k=NJ/\QP xs k=NJ)\/∃(i:Nat) (d:ab) (v:V) (b:ap) (u:as),cu kvs k=NI d/\QP xs k=NI (b,u)/\(es.map λp=>p.2.2)[i]?=NI v/\(kvs.map λp=>p.2)[i]?=NI d/\be v u:=by
 induction c generalizing kvs with
 |nil =>
  cases kvs with
  |nil=>show .inl (rfl,rfl)
  |cons kv kvs=>simp at e
 |@cons p q es xs r t f =>
  cases kvs with
  |nil=>simp at e
  |cons kv kvs =>
   rw[IU,IU]at e h;injection e with e1 e2;cases h with
   |cons h1 h2 =>
    by_cases hk:kv.1=k;let a:q.1=k:=by rw[<-r.1,e1,hk]
    show .inr (0,kv.2,p.2.2,q.2.1,q.2.2,by rw[bz,M0 hk],?_,rfl,rfl,r.2.2);simp[QP,Ks,a];let a:¬q.1=k:=λz=>hk (by rw[<-e1,r.1,z]);let g:cu (kv::kvs) k=cu kvs k:=by rw[bz,M1 hk]
    let j:QP (q::xs) k=QP xs k:=by simp[QP,Ks,a]
    rw[g,j];rcases f e2 h2 with z|⟨i,d,v,b,u,z1,z2,l,m,n⟩
    show .inl z;show .inr (i+1,d,v,b,u,z1,z2,by simpa using l,by simpa using m,n)
end
section
variable{X:Cx}
def FJ(K:ca):R2:=λx y H Q=>∃(k:aL) (kvs:Nf),DV K H x (dD k)/\GO K H y kvs/\Q (.bl (cu kvs k).isSome) H
def nY(K:ca):R2:=λx y H Q=>∃(k:aL) (kvs:Nf),DV K H x (dD k)/\GO K H y kvs/\Q (.bl (!(cu kvs k).isSome)) H
def Dv(c:X.A.units+2<KD):OpR X (q4 .In) (FJ X.K):=by
 intro pins s σ H x y v u Q I f g h;let(k,kvs,j,(a,es,rfl,l,hk,hv,e),q):=h;cases (show u=da a from g);let(b,rfl,rfl,st):=jp I j f;let(z,y,xs,r,dd):=dct_of I l hk e;show wpAny_in_heap (knd:=bD X.prog X.w) (gS c) st y dd.of ?_;let:(QP xs k).isSome=(cu kvs k).isSome:=by
  rcases vG k r e hv with⟨z1,z2⟩|⟨i,d,v,b,u,z1,z2,_⟩
  rw[z1,z2];rfl;rw[z1,z2];rfl
 rw[this];show(.bl _,H,I.tok _,rfl,q)
def um(c:X.A.units+2<KD):OpR X (q4 .NotIn) (nY X.K):=by
 intro pins s σ H x y v u Q I f g h;let(k,kvs,j,(a,es,rfl,l,hk,hv,e),q):=h;cases (show u=da a from g);let(b,rfl,rfl,st):=jp I j f;let(z,y,xs,r,dd):=dct_of I l hk e;show wpAny_notIn_heap (knd:=bD X.prog X.w) (gS c) st y dd.of ?_;let:(QP xs k).isSome=(cu kvs k).isSome:=by
  rcases vG k r e hv with⟨z1,z2⟩|⟨i,d,v,b,u,z1,z2,_⟩
  rw[z1,z2];rfl;rw[z1,z2];rfl
 rw[this];show(.bl _,H,I.tok _,rfl,q)
def FH(K:ca):R2:=λx y H Q=>∃(k:aL) (a:ap) (es:Nb) (kvs:Nf),x=.ref a/\DV K H y (dD k)/\H a=NI (.ext (ce a es))/\DVs K H (es.map λp=>V.ref p.2.1) (kvs.map λp=>dD p.1)/\DVs K H (es.map λp=>p.2.2) (kvs.map λp=>p.2) /\
 es.map (λp=>p.1)=kvs.map (λp=>p.1)/\(cu kvs k).isSome=NK/\∀(i:Nat) v d,cu kvs k=NI d->(es.map λp=>p.2.2)[i]?=NI v->(kvs.map λp=>p.2)[i]?=NI d->Q v H
def Ij(j:X.A.units+2<KD):IxR X (FH X.K):=by
 intro value slice pins s σ H x y v u Q I l m h hs;let(k,a,es,kvs,rfl,n,o,hk,hv,e,c,q):=h;cases (show v=da a from l);let(b,rfl,rfl,st):=jp I n m;let(z,y,xs,r,dd):=dct_of I o hk e;let g:=dd.of.typeIs;unfold QN;show jj ?_;rw[getitemInPython_of_ne g.not_modules];show jj (K0 g Lj.lookup ?_);let fin:kw (qb X.prog X.w) X.A (Q4 slice NL (.ref a) (.ref b)) (λr f=>kw (qb X.prog X.w) X.A (letTemporaryGo value (.ref a) r >>= λY=>pure r) (EP X pins σ Q) X.xe f) X.xe s:=by
  rw[hs];rcases vG k r e hv with⟨z1,_⟩|⟨i,d,v,C,u,z1,z2,p,t,B⟩
  rw[z1]at c;cases c;show wpAny_operating (wpAny_getItem_heap (knd:=bD X.prog X.w) (gS j) st dd.of z2 ?_);show jj (wpAny_letTemporaryGo (ke (v,H,I.tok _,B,q i v d z1 p t)))
 first
  |show ke (jj fin)
  |show jj (ke (jj fin))
  |show jj fin
noncomputable def tT(es:Nb)(k:aL)(b:ap)(v:V):Nb :=
 if (es.any λp=>decide (p.1=k))=NK then es.map (λp=>if p.1=k then (p.1,p.2.1,v) else p) else es++[(k,b,v)]
def oj{es:Nb}{xs:Na}(r:Paired (λ(p:aL×ap×V) (q:aL×ap×as)=>p.1=q.1/\p.2.1=q.2.1/\be p.2.2 q.2.2) es xs)(k:aL){b:ap}{v:V}{u:as}(rv:be v u) :
  Paired (λ(p:aL×ap×V) (q:aL×ap×as)=>p.1=q.1/\p.2.1=q.2.1/\be p.2.2 q.2.2) (tT es k b v) (storedH xs k b u):=by
 let e:(es.any λp=>decide (p.1=k))=(QP xs k).isSome:=by
  induction r with
  |nil=>rfl
  |@cons p q ps qs h t a =>
   rw[pa,a];by_cases hk:p.1=k;let d:q.1=k:=by rw[<-h.1,hk]
   simp[QP,Ks,hk,d];let d:¬q.1=k:=λz=>hk (by rw[h.1,z]);simp[QP,Ks,hk,d]
 unfold tT storedH;rw[e];by_cases c:(QP xs k).isSome=NK;rw[M0 c,M0 c];clear e c
 induction r with
 |nil=>show .nil
 |@cons p q ps qs h t a =>
  rw[IU,IU];show .cons ?_ a;unfold putAt;by_cases hk:p.1=k;rw[M0 hk,M0 (show q.1=k by rw[<-h.1,hk])];show(h.1,h.2.1,rv);rw[M1 hk,M1 (λz=>hk (by rw[h.1,z]))];show h
 rw[M1 c,M1 c];show Paired.snoc r (rfl,rfl,rv)
def wK(es:Nb)(k:aL)(b:ap)(v:V):(tT es k b v).length<=-es+1:=by unfold tT;split <;> simp
def FF(K:ca):EJ:=λx y v H Q=>∃(k:aL) (a b:ap) (es:Nb) (kvs:Nf),x=.ref a/\y=.ref b/\DV K H y (dD k)/\H a=NI (.ext (ce a es))/\DVs K H (es.map λp=>V.ref p.2.1) (kvs.map λp=>dD p.1) /\
 es.map (λp=>p.1)=kvs.map (λp=>p.1)/\es.length<sizeLine/\Q (upd H a (.ext (ce a (tT es k b v))))
def FA(j:X.A.units+2<KD):Fk X (FF X.K):=by
 intro pins s σ H x y v ov iv u Q I l m rv h;let(k,a,b,es,kvs,rfl,rfl,n,i,hk,e,hl,q):=h;cases (show ov=da a from l)
 cbv;let(M,p,t,st):=jp I n m;cases p;subst t;let(z,y,xs,r,dd):=dct_of I i hk e
 w_up;let hz:-xs<=sizeLine:=by rw[<-Paired.length r];show z
 show tz (hsz:=hz) (gS (prog:=X.prog) (w:=X.w) j) st dd λh' c hs=>?_;let(o,d,ep,h1,h2,h3,B,_,C):=c;show(_,?_,q);show I.write (x:=a) (e:=a) (by rw[i];show True.intro) (.inl rfl) (λb q D z=>(hs.2 b D).trans z) (_,h1) ?_;let new:ce a (tT es k b v) h':=(by let:=wK es k b v;lia,y,_,oj r k rv,o,d,ep,h1,h2,h3,B,C)
 show(new,(_,h1),λE F hx G=>?_);let(a1,a2,f,a3,o',ds',g,J,L):=hx;show(a1,a2,f,a3,o',ds',g,G _ J,L)
def Fv:TE:=λY H Q=>∀p,H p=NJ->Q (.ref p) (upd H p (.ext (ce p [])))
def mG{P:q3}{w:zb}{H:Hp}(h:bd)(c:cf<h.objs.size):dB P w H (h.push { cls:=.type "dict",data:=.dict #[] }) h.objs.size (.ext (ce h.objs.size [])):=by let e:=IW (o:=({ cls:=.type "dict",data:=.dict #[] }:Obj)) h rfl;show((Jb _,beq_eq_false_iff_ne.mpr (Ne.symm (Jd c)),[],.nil,_,#[],0,e,(rfl,rfl,rfl),rfl,rfl,J4,rfl),(_,e),λh1 h2 hx d=>?_);let(a1,a2,a,a3,o',ds',b,f,g):=hx;show(a1,a2,a,a3,o',ds',b,d _ f,g)
def Inv.big'{pins:Nd}{σ:St}{H:Hp}{s:ba}(I:Inv X pins σ H s):cf<(~~~s):=by let h:ky<(~~~s):=(I.mod.glob.keeps I.bk).lt;show Nat.lt_trans (!2) h
def AN{pos:Pos}:PE X (.Dict [] [] pos) Fv:=λpins s σ H Q I h =>
 wpAny_Dict_empty (.ref (~~~s),_,I.laid (a:=(~~~s)) (o:=.ext (ce (~~~s) [])) (t':=s.toks) (λY Y q=>IH _ q) (IS _) (mG s.heap I.big'),rfl,h _ (I.hok.fresh (IS _)))
def Fu(K:ca)(tk tv:TE):TE:=λσ H Q=>∀p,H p=NJ->tk σ (upd H p (.ext (ce p []))) λx H1=>tv σ H1 λy a=>∃k b,x=.ref b/\DV K a x (dD k)/\a p=NI (.ext (ce p []))/\Q (.ref p) (upd a p (.ext (ce p [(k,b,y)])))
def AM{pos:Pos}{e1 e2:bb}{tk tv:TE}(n:X.A.units+1<KD)(hk:PE X e1 tk)(hv:PE X e2 tv):PE X (.Dict [NI e1] [e2] pos) (Fu X.K tk tv):=by
 intro pins s σ H Q I h;let t:=I.laid (a:=(~~~s)) (o:=.ext (ce (~~~s) [])) (h':=s.heap.push { cls:=.type "dict",data:=.dict #[] }) (t':=s.toks) (λY Y q=>IH _ q) (IS _) (mG s.heap I.big');show wpAny_Dict_any rfl rfl (!1) (!1) (pairTrees_cons_walk (thn (hk pins _ σ _ _ t (h _ (I.hok.fresh (IS _)))) λu s1 c=>?_));let(x,H1,v,B,C):=c;show thn (hv pins s1 σ H1 _ v C) λw s2 d=>?_;let(y,S,f,D,k,b,ex,E,m,q):=d;show pairTrees_nil_walk ?_
 cbv;subst ex;let(T,F,rfl,st):=jp f E B;cases F;generalize (~~~s)=p at *;let(z,hd,xs,r,dd):=dct_of (kvs:=[]) f m .nil rfl;cases r
 w_up;unfold storeAll;rw[Kr];show jj (jj (mF (hsz:=Jb _) n st dd λh' g hs=>ke ?_));dsimp only;rw[Kl];show ke (.ref p,_,?_,rfl,q);let(o,i,ep,h1,h2,h3,G,_,J):=g;show f.write (x:=p) (e:=p) (by rw[m];show True.intro) (.inl rfl) (λb q L z=>(hs.2 b L).trans z) (_,h1) ?_;let new:ce p [(k,b,y)] h':=(by rw[z0];simp,hd,_,.cons (rfl,rfl,D) .nil,o,i,ep,h1,h2,h3,G,J)
 show(new,(_,h1),λM N hx O=>?_);let(a1,a2,j,a3,o',ds',l,P,R):=hx;show(a1,a2,j,a3,o',ds',l,O _ P,R)
end
mutual
inductive OT (K:ca) (N:ap->Prop) (H:Hp):V->ab->NE->Prop
 |non:OT K N H .non .none []
 |bl (b:Bool):OT K N H (.bl b) (.bool b) []
 |int (i:Int):OT K N H (.int i) (.int i) []
 |str (x:bx):OT K N H (.str x) (.str x) []
 |lst {a:ap}{xs:NH}{ds:Nz}{S:NE}:H a=some (.lst xs)->OTs K N H xs ds S->OT K N H (.ref a) (.list ds) (a::S)
 |tup {a:ap}{xs:NH}{ds:Nz}{S:NE}:SnT K N H a xs->OTs K N H xs ds S->OT K N H (.ref a) (.tuple ds) S
 |dct {a:ap}{es:Nb}{kvs:Nf}:H a=some (.ext (ce a es))->DNs K N H (es.map λp=>V.ref p.2.1) (kvs.map λp=>dD p.1)->DNs K N H (es.map λp=>p.2.2) (kvs.map λp=>p.2)->es.map (λp=>p.1)=kvs.map (λp=>p.1)->OT K N H (.ref a) (eD kvs) [a]
 |fz {v:V}{ds:Nz}:DN K N H v (.list ds)->OT K N H v (fzD ds) []
inductive OTs (K:ca) (N:ap->Prop) (H:Hp):NH->Nz->NE->Prop
 |nil:OTs K N H [] [] []
 |cons {x:V}{xs:NH}{d:ab}{ds:Nz}{S S':NE}:OT K N H x d S->OTs K N H xs ds S'->OTs K N H (x::xs) (d::ds) (S++S')
end
section
variable{K:ca}{N M:ap->Prop}{H H':Hp}
theorem OT.keep(k:aO N H H'){v:V}{d:ab}{S:NE}(h:OT K N H v d S):(∀a∈S,H' a=H a)->OT K N H' v d S :=
  OT.rec (motive_1:=λv d S Y=>(∀a∈S,H' a=H a)->OT K N H' v d S) (motive_2:=λv d S Y=>(∀a∈S,H' a=H a)->OTs K N H' v d S)
  (λY=>.non) (λb Y=>.bl b) (λi Y=>.int i)
   (λx Y=>.str x)
  (λh Y q s=>.lst ((s _ IL).trans h) (q λa c=>s a (IM _ c))) (λh Y q s=>.tup (h.keep k) (q s))
  (λh q r e s=>.dct ((s _ IL).trans h) (q.keep k) (r.keep k) e) (λh s=>.fz (h.keep k)) (λY=>.nil) (λY Y h q s=>.cons (h λa c=>s a (IJ _ c)) (q λa c=>s a (IE _ c))) h
theorem OTs.keep(k:aO N H H'){v:NH}{d:Nz}{S:NE}(h:OTs K N H v d S):(∀a∈S,H' a=H a)->OTs K N H' v d S :=
  OTs.rec (motive_1:=λv d S Y=>(∀a∈S,H' a=H a)->OT K N H' v d S) (motive_2:=λv d S Y=>(∀a∈S,H' a=H a)->OTs K N H' v d S)
  (λY=>.non) (λb Y=>.bl b) (λi Y=>.int i)
   (λx Y=>.str x)
  (λh Y q s=>.lst ((s _ IL).trans h) (q λa c=>s a (IM _ c))) (λh Y q s=>.tup (h.keep k) (q s))
  (λh q r e s=>.dct ((s _ IL).trans h) (q.keep k) (r.keep k) e) (λh s=>.fz (h.keep k)) (λY=>.nil) (λY Y h q s=>.cons (h λa c=>s a (IJ _ c)) (q λa c=>s a (IE _ c))) h
theorem OT.to(m:∀b o,H b=NI o->M b->N b){v:V}{d:ab}{S:NE}(h:OT K N H v d S):OT K M H v d S :=
  OT.rec (motive_1:=λv d S Y=>OT K M H v d S) (motive_2:=λv d S Y=>OTs K M H v d S)
  .non (λb=>.bl b) (λi=>.int i)
   (λx=>.str x)
  (λh Y q=>.lst h q) (λh Y q=>.tup (h.to m) q)
  (λh q r e=>.dct h (q.to m) (r.to m) e) (λh=>.fz (h.to m)) .nil (λY Y h q=>.cons h q) h
theorem OTs.to(m:∀b o,H b=NI o->M b->N b){v:NH}{d:Nz}{S:NE}(h:OTs K N H v d S):OTs K M H v d S :=
  OTs.rec (motive_1:=λv d S Y=>OT K M H v d S) (motive_2:=λv d S Y=>OTs K M H v d S)
  .non (λb=>.bl b) (λi=>.int i)
   (λx=>.str x)
  (λh Y q=>.lst h q) (λh Y q=>.tup (h.to m) q)
  (λh q r e=>.dct h (q.to m) (r.to m) e) (λh=>.fz (h.to m)) .nil (λY Y h q=>.cons h q) h
def OT.lives{v:V}{d:ab}{S:NE}(h:OT K N H v d S):∀a∈S,∃o,H a=NI o :=
  OT.rec (motive_1:=λv d S Y=>∀a∈S,∃o,H a=NI o) (motive_2:=λv d S Y=>∀a∈S,∃o,H a=NI o)
  (λY h=>nomatch h) (λY Y h=>nomatch h) (λY Y h=>nomatch h)
   (λY Y h=>nomatch h)
  (λh Y q a b=>(IR.mp b).elim (λe=>(_,e▸h)) (q a)) (λY Y q=>q)
  (λh Y Y Y a b=>(_,(IG.mp b)▸h)) (λY Y h=>nomatch h) (λY h=>nomatch h) (λY Y h q a b=>(II.mp b).elim (h a) (q a)) h
def OTs.lives{v:NH}{d:Nz}{S:NE}(h:OTs K N H v d S):∀a∈S,∃o,H a=NI o :=
  OTs.rec (motive_1:=λv d S Y=>∀a∈S,∃o,H a=NI o) (motive_2:=λv d S Y=>∀a∈S,∃o,H a=NI o)
  (λY h=>nomatch h) (λY Y h=>nomatch h) (λY Y h=>nomatch h)
   (λY Y h=>nomatch h)
  (λh Y q a b=>(IR.mp b).elim (λe=>(_,e▸h)) (q a)) (λY Y q=>q)
  (λh Y Y Y a b=>(_,(IG.mp b)▸h)) (λY Y h=>nomatch h) (λY h=>nomatch h) (λY Y h q a b=>(II.mp b).elim (h a) (q a)) h
def OT.dn(n:∀b,M b->N b){v:V}{d:ab}{S:NE}(h:OT K N H v d S):(∀a∈S,¬M a)->DN K M H v d :=
  OT.rec (motive_1:=λv d S Y=>(∀a∈S,¬M a)->DN K M H v d) (motive_2:=λv d S Y=>(∀a∈S,¬M a)->DNs K M H v d)
  (λY=>.non) (λb Y=>.bl b) (λi Y=>.int i)
   (λx Y=>.str x)
  (λh Y q s=>.lst (SnL.of h (s _ IL)) (q λa c=>s a (IM _ c))) (λh Y q s=>.tup (h.to λb Y Y z=>n b z) (q s))
  (λh q r e s=>.dct (s _ IL) h (q.to λb Y Y z=>n b z) (r.to λb Y Y z=>n b z) e) (λh Y=>.fz (h.to λb Y Y z=>n b z)) (λY=>.nil) (λY Y h q s=>.cons (h λa c=>s a (IJ _ c)) (q λa c=>s a (IE _ c))) h
def OTs.ind{C:NH->Nz->NE->Prop}(n:C [] [] [])(c:∀{x:V}{xs:NH}{d:ab}{ds:Nz}{S S':NE},OT K N H x d S->OTs K N H xs ds S'->C xs ds S'->C (x::xs) (d::ds) (S++S')){v:NH}{d:Nz}{S:NE}(h:OTs K N H v d S):C v d S :=
  OTs.rec (motive_1:=λY Y Y Y=>True) (motive_2:=λv d S Y=>C v d S) trivial (λY=>trivial) (λY=>trivial)
   (λY=>trivial)
  (λY Y Y=>trivial) (λY Y Y=>trivial) (λY Y Y Y=>trivial) (λY=>trivial) n (λh q Y i=>c h q i) h
def OTs.len{v:NH}{d:Nz}{S:NE}(h:OTs K N H v d S):-v=-d:=OTs.ind (C:=λv d Y=>-v=-d) rfl (λY Y i=>by rw[Jf,Jf,i]) h
def OTs.app{v w:NH}{d e:Nz}{S T:NE}(h:OTs K N H v d S)(q:OTs K N H w e T):OTs K N H (v++w) (d++e) (S++T):=OTs.ind (C:=λv d S=>OTs K N H (v++w) (d++e) (S++T)) q (λh Y i=>by rw[JE];show .cons h i) h
end
inductive Sl where
 |un|fr (d:ab)|ow (ds:Nz)|io (ds:Nz)|vw (i:Nat)|tr (S:NE) (d:ab)
abbrev Ni:=List (V×Sl)
abbrev NA:=List Sl
abbrev Ent:=Nx×Sl
abbrev Nt:=List Ent
noncomputable def cH:Ent->NE
 |(NI (.ref a),.ow _)=>[a]
 |(NI (.ref a),.io _)=>[a]
 |(NI _,.tr S _)=>S
 |_=>[]
def oas(E:Nt):NE:=E.flatMap cH
def Nw(M:ap->Prop)(E:Nt):ap->Prop:=λa=>M a\/a∈oas E
abbrev tmp(ts:Ni):Nt:=ts.map λt=>(NI t.1,t.2)
noncomputable def aw(σ:St)(env:NA)(ts:Ni):Nt:=σ.zip env++tmp ts
def ah(A B:Nt):oas (A++B)=oas A++oas B:=List.flatMap_append
def aj(e:Ent)(B:Nt):oas (e::B)=cH e++oas B:=List.flatMap_cons ..
def aT{a:ap}{E:Nt}:a∈oas E↔∃e∈E,a∈cH e:=List.mem_flatMap
def gi(x:Nx):cH (x,.un)=[]:=by
 cases x with
 |none=>rfl
 |some v=>cases v <;> rfl
def iK(x:Nx)(i:Nat):cH (x,.vw i)=[]:=by
 cases x with
 |none=>rfl
 |some v=>cases v <;> rfl
def dy(x:Nx)(d:ab):cH (x,.fr d)=[]:=by
 cases x with
 |none=>rfl
 |some v=>cases v <;> rfl
def aK(v:V)(S:NE)(d:ab):cH (NI v,.tr S d)=S:=by cases v <;> rfl
def lH{e:Ent}{a:ap}(h:a∈cH e):(e.1=NI (.ref a)/\((∃ds,e.2=.ow ds)\/∃ds,e.2=.io ds))\/∃S d,e.2=.tr S d/\a∈S:=by
 let(x,s):=e;cases s with
 |un=>rw[gi]at h;show absurd h Jk
 |vw i=>rw[iK]at h;show absurd h Jk
 |fr d=>rw[dy]at h;show absurd h Jk
 |tr S d =>
  cases x with
  |none=>show absurd h Jk
  |some v=>rw[aK]at h;show .inr (S,d,rfl,h)
 |ow ds =>
  cases x with
  |none=>show absurd h Jk
  |some v=>cases v with
   |ref b=>rw[IG.mp h];show .inl (rfl,.inl (ds,rfl))
   |_=>show absurd h Jk
 |io ds =>
  cases x with
  |none=>show absurd h Jk
  |some v=>cases v with
   |ref b=>rw[IG.mp h];show .inl (rfl,.inr (ds,rfl))
   |_=>show absurd h Jk
structure aU(K:ca)(M P:ap->Prop)(H0:Hp)(E:Nt)(H:Hp):Prop where
 keep:aO P H0 H
 live:∀a,H0 a≠none->H a≠none
 mt : ∀a,M a->H0 a≠none
 pm : ∀a,P a->M a
 fr : ∀x d,(x,Sl.fr d)∈E->∃v,x=some v/\DN K (Nw M E) H v d
 ow : ∀x ds,(x,Sl.ow ds)∈E->∃a vs,x=some (.ref a)/\H a=some (.lst vs)/\DNs K (Nw M E) H vs ds/\H0 a=none
 io : ∀x ds,(x,Sl.io ds)∈E->∃a vs,x=some (.ref a)/\H a=some (.lst vs)/\DNs K (Nw M E) H vs ds/\P a
 tr : ∀x S d,(x,Sl.tr S d)∈E->∃v,x=some v/\OT K (Nw M E) H v d S/\∀a∈S,H0 a=none
 nd : (oas E).Nodup
section
variable{K:ca}{M P:ap->Prop}{H0 H H':Hp}{E E' A B:Nt}{e:Ent}
def aU.own(h:aU K M P H0 E H){a:ap}(f:a∈oas E):∃o,H a=NI o/\(H0 a=NJ\/P a):=by
 let((x,s),c,g):=aT.mp f;rcases lH g with⟨e1,e2⟩|⟨S,d,e2,e⟩
 rotate_left
 .cbv;simp only at e2;subst e2;let(v,_,q,r):=h.tr _ _ _ c;let(vs,z):=q.lives a e
  w_up;show(vs,z,.inl (r a e))
 rcases e2 with⟨ds,e2⟩|⟨ds,e2⟩
 .cbv;simp only at e1 e2;subst e1 e2;let(b,vs,z,q,_,r):=h.ow _ _ c;cases z
  w_up;show(_,q,.inl r)
 .cbv;simp only at e1 e2;subst e1 e2;let(b,vs,z,q,_,r):=h.io _ _ c;cases z
  w_up;show(_,q,.inr r)
def Nw.sub(h:∀a,a∈oas E'->a∈oas E):∀b,Nw M E' b->Nw M E b:=λb z=>by
 rcases z with z|z;show .inl z;show .inr (h b z)
theorem aU.sub(h:aU K M P H0 E H)(c:∀x s,(x,s)∈E'->(x,s)∈E\/s=.un\/∃i,s=.vw i)(nd:(oas E').Nodup):aU K M P H0 E' H:=by
 let os:∀a,a∈oas E'->a∈oas E:=λa g=>by
  let((x,s),j,f):=aT.mp g;rcases c x s j with q|q|⟨i,q⟩
  show aT.mpr (_,q,f);subst q;rw[gi]at f;cases f;subst q;rw[iK]at f;cases f
 let up:=Nw.sub (M:=M) os;show(h.keep,h.live,h.mt,h.pm,λx d m=>?_,λx d m=>?_,λx d m=>?_,λx S d m=>?_,nd)
 rotate_right
 rcases c _ _ m with q|q|⟨i,q⟩
 let(v,e,dn,r):=h.tr x S d q;show(v,e,dn.to λb Y Y z=>up b z,r);cases q;cases q;rcases c _ _ m with q|q|⟨i,q⟩
 let(v,e,dn):=h.fr x d q;show(v,e,dn.to λb Y Y z=>up b z);cases q;cases q;rcases c _ _ m with q|q|⟨i,q⟩
 let(a,vs,e,e2,dn,r):=h.ow x d q;show(a,vs,e,e2,dn.to λb Y Y z=>up b z,r);cases q;cases q;rcases c _ _ m with q|q|⟨i,q⟩
 let(a,vs,e,e2,dn,r):=h.io x d q;show(a,vs,e,e2,dn.to λb Y Y z=>up b z,r);cases q;cases q
def aU.drop(h:aU K M P H0 (E++B) H):aU K M P H0 E H:=h.sub (λx s m=>.inl (IJ _ m)) (by
 let:=h.nd;rw[ah]at this;show(IT.mp this).1)
theorem aU.same(h:aU K M P H0 E H)(k:aS H H'):aU K M P H0 E H':=by
 show(h.keep.trans (aO.same k),λa q z=>?_,h.mt,h.pm,λx d m=>?_,λx d m=>?_,λx d m=>?_,λx S d m=>?_,h.nd)
 rotate_right
 let(v,e,dn,r):=h.tr x S d m;show(v,e,dn.keep (aO.same k) λa b=>by
  let(xs,z):=dn.lives a b;rw[k a _ z,z],r)
 let c:=h.live a q;cases e:H a with
 |none=>show c e
 |some o=>rw[k a o e]at z;cases z
 let(v,e,dn):=h.fr x d m;show(v,e,dn.keep (aO.same k));let(a,vs,e,e2,dn,r):=h.ow x d m;show(a,vs,e,k _ _ e2,dn.keep (aO.same k),r);let(a,vs,e,e2,dn,r):=h.io x d m;show(a,vs,e,k _ _ e2,dn.keep (aO.same k),r)
def aU.addFr(h:aU K M P H0 E H){v:V}{d:ab}(dn:DN K (Nw M E) H v d):aU K M P H0 (E++[(NI v,.fr d)]) H:=by
 let a:oas (E++[(NI v,Sl.fr d)])=oas E:=by rw[ah,aj,dy];simp[oas]
 let ne:Nw M (E++[(NI v,Sl.fr d)])=Nw M E:=by unfold Nw;rw[a]
 show(h.keep,h.live,h.mt,h.pm,λx d' m=>?_,λx d' m=>?_,λx d' m=>?_,λx S d' m=>?_,by rw[a];show h.nd)
 rotate_right
 rw[ne];rcases II.mp m with m|m;show h.tr x S d' m;rw[IG]at m;cases m;rw[ne];rcases II.mp m with m|m;show h.fr x d' m;rw[IG]at m;cases m;show(v,rfl,dn);rw[ne];rcases II.mp m with m|m;show h.ow x d' m;rw[IG]at m;cases m;rw[ne];rcases II.mp m with m|m;show h.io x d' m;rw[IG]at m;cases m
def aU.addVw(h:aU K M P H0 E H){v:V}{i:Nat}:aU K M P H0 (E++[(NI v,.vw i)]) H:=by show h.sub (λx s m=>?_) ?_;rcases II.mp m with m|m;show .inl m;rw[IG]at m;cases m;show .inr (.inr (i,rfl));rw[ah,aj,iK];simpa[oas] using h.nd
def aU.addOw(h:aU K M P H0 E H){p:ap}{vs:NH}{ds:Nz}(c:H p=NJ)(d:DNs K (Nw M E) H vs ds):aU K M P H0 (E++[(NI (.ref p),.ow ds)]) (upd H p (.lst vs)):=by
 let g:oas (E++[(NI (.ref p),Sl.ow ds)])=oas E++[p]:=by rw[ah];rfl
 let i:p ∉ oas E:=λz=>by
  let(vs',q,_):=h.own z;rw[c]at q;cases q
 let j:H0 p=NJ:=by
  cases e:H0 p with
  |none=>rfl
  |some o=>show absurd c (h.live p (by rw[e];simp))
 let up:∀b o,H b=NI o->Nw M (E++[(NI (.ref p),Sl.ow ds)]) b->Nw M E b:=λb o e z=>by
  rcases z with z|z;show .inl z;rw[g]at z;rcases II.mp z with z|z;show .inr z;rw[IG.mp z,c]at e;cases e
 let h':=h.same (aS.new (o:=.lst vs) c);show(h'.keep,h'.live,h.mt,h.pm,λx d' m=>?_,λx d' m=>?_,λx d' m=>?_,λx S d' m=>?_,?_)
 rotate_right 2
 rcases II.mp m with m|m;let(v,e,dn,r):=h.tr x S d' m;show(v,e,(dn.to up).keep (aO.same (aS.new c)) λa f=>by
  let(xs,z):=dn.lives a f;rw[aS.new c _ _ z,z],r)
 rw[IG]at m;cases m
 rotate_left
 rcases II.mp m with m|m;let(v,e,dn):=h.fr x d' m;show(v,e,(dn.to up).keep (aO.same (aS.new c)));rw[IG]at m;cases m;rcases II.mp m with m|m;let(a,ws,e,e2,dn,r):=h.ow x d' m;show(a,ws,e,aS.new c _ _ e2,(dn.to up).keep (aO.same (aS.new c)),r);rw[IG]at m;cases m;show(p,vs,rfl,aq,(d.to up).keep (aO.same (aS.new c)),j);rcases II.mp m with m|m;let(a,ws,e,e2,dn,r):=h.io x d' m;show(a,ws,e,aS.new c _ _ e2,(dn.to up).keep (aO.same (aS.new c)),r);rw[IG]at m;cases m;rw[g];show IT.mpr (h.nd,!1,λa f b k=>by rw[IG.mp k];exactλz=>i (z▸f))
def aU.freeze{a:ap}{ds:Nz}(h:aU K M P H0 (A++(Pm (NI (.ref a)) (.ow ds))::B) H):aU K M P H0 (A++(Pm (NI (.ref a)) (.fr (.list ds)))::B) H:=by
 let i:oas (A++(Pm (NI (.ref a)) (Sl.ow ds))::B)=oas A++a::oas B:=by rw[ah,aj];rfl
 let f:oas (A++(Pm (NI (.ref a)) (Sl.fr (.list ds)))::B)=oas A++oas B:=by rw[ah,aj];rfl
 let nd:=h.nd;rw[i]at nd
 cbv;let(k,l,j):=IT.mp nd;let(n,o):=Jr.mp l;let up:∀b,Nw M (A++(Pm (NI (.ref a)) (Sl.fr (.list ds)))::B) b->Nw M (A++(Pm (NI (.ref a)) (Sl.ow ds))::B) b:=Nw.sub λb z=>by
  rw[f]at z;rw[i];rcases II.mp z with z|z;show IJ _ z;show IE _ (IM _ z)
 let p:(Pm (NI (.ref a)) (Sl.ow ds))∈A++(Pm (NI (.ref a)) (Sl.ow ds))::B:=IE _ IL;let(w,vs,z,q,g,t):=h.ow _ _ p;cases z
 w_up;let na:¬Nw M (A++(Pm (NI (.ref a)) (Sl.fr (.list ds)))::B) a:=λz=>by
  rcases z with z|z;show h.mt a z t;rw[f]at z;rcases II.mp z with z|z;show j a z a IL rfl;show n z
 let c:∀x s,(Pm x s)∈A++(Pm (NI (.ref a)) (Sl.fr (.list ds)))::B->(Pm x s)=(Pm (NI (.ref a)) (Sl.fr (.list ds)))\/(Pm x s)∈A++(Pm (NI (.ref a)) (Sl.ow ds))::B:=λx s m=>by
  rcases II.mp m with m|m;show .inr (IJ _ m);rcases IR.mp m with m|m;show .inl m;show .inr (IE _ (IM _ m))
 show⟨h.keep,h.live,h.mt,h.pm,λx d m=>?_,λx d m=>?_,λx d m=>?_,λx S d m=>?_,?_⟩
 rotate_right 2
 rcases c _ _ m with m|m;cases m;let(v,e,dn,r):=h.tr x S d m;show⟨v,e,dn.to λb Y Y z=>up b z,r⟩
 rotate_left
 rcases c _ _ m with m|m;cases m;show⟨_,rfl,.lst (SnL.of q na) (g.to λb Y Y z=>up b z)⟩;let(v,e,dn):=h.fr x d m;show⟨v,e,dn.to λb Y Y z=>up b z⟩;rcases c _ _ m with m|m;cases m;let(b,ws,e,e2,dn,r):=h.ow x d m;show⟨b,ws,e,e2,dn.to λb Y Y z=>up b z,r⟩;rcases c _ _ m with m|m;cases m;let(b,ws,e,e2,dn,r):=h.io x d m;show⟨b,ws,e,e2,dn.to λb Y Y z=>up b z,r⟩;rw[f];show IT.mpr ⟨k,o,λx hx y u=>j x hx y (IM _ u)⟩
def aU.freezeT{v:V}{S:NE}{d:ab}(h:aU K M P H0 (A++(Pm (NI v) (.tr S d))::B) H):aU K M P H0 (A++(Pm (NI v) (.fr d))::B) H:=by
 let i:oas (A++(Pm (NI v) (Sl.tr S d))::B)=oas A++(S++oas B):=by rw[ah,aj,aK]
 let f:oas (A++(Pm (NI v) (Sl.fr d))::B)=oas A++oas B:=by rw[ah,aj,dy];rfl
 let nd:=h.nd;rw[i]at nd
 cbv;let(k,l,j):=IT.mp nd;let(u,n,o):=IT.mp l;let up:∀b,Nw M (A++(Pm (NI v) (Sl.fr d))::B) b->Nw M (A++(Pm (NI v) (Sl.tr S d))::B) b:=Nw.sub λb z=>by
  rw[f]at z;rw[i];rcases II.mp z with z|z;show IJ _ z;show IE _ (IE _ z)
 let p:(Pm (NI v) (Sl.tr S d))∈A++(Pm (NI v) (Sl.tr S d))::B:=IE _ IL;let(v',z,ot,q):=h.tr _ _ _ p;cases z
 w_up;let na:∀a∈S,¬Nw M (A++(Pm (NI v) (Sl.fr d))::B) a:=λa g z=>by
  rcases z with z|z;show h.mt a z (q a g);rw[f]at z;rcases II.mp z with z|z;show j a z a (IJ _ g) rfl;show o a g a z rfl
 let c:∀x s,(Pm x s)∈A++(Pm (NI v) (Sl.fr d))::B->(Pm x s)=(Pm (NI v) (Sl.fr d))\/(Pm x s)∈A++(Pm (NI v) (Sl.tr S d))::B:=λx s m=>by
  rcases II.mp m with m|m;show .inr (IJ _ m);rcases IR.mp m with m|m;show .inl m;show .inr (IE _ (IM _ m))
 show⟨h.keep,h.live,h.mt,h.pm,λx d' m=>?_,λx d' m=>?_,λx d' m=>?_,λx S' d' m=>?_,?_⟩;rcases c _ _ m with m|m;cases m;show⟨_,rfl,ot.dn up na⟩;let(v,e,dn):=h.fr x d' m;show⟨v,e,dn.to λb Y Y z=>up b z⟩;rcases c _ _ m with m|m;cases m;let(b,ws,e,e2,dn,r):=h.ow x d' m;show⟨b,ws,e,e2,dn.to λb Y Y z=>up b z,r⟩;rcases c _ _ m with m|m;cases m;let(b,ws,e,e2,dn,r):=h.io x d' m;show⟨b,ws,e,e2,dn.to λb Y Y z=>up b z,r⟩;rcases c _ _ m with m|m;cases m;let(v,e,dn,r):=h.tr x S' d' m;show⟨v,e,dn.to λb Y Y z=>up b z,r⟩;rw[f];show IT.mpr ⟨k,n,λx hx y t=>j x hx y (IE _ t)⟩
def Bi:Sl->Nz->Sl->Prop
 |.ow _,ds',s'=>s'=.ow ds'
 |.io _,ds',s'=>s'=.io ds'
 |_,_,_=>False
def cM{s s':Sl}{l:Nz}(h:Bi s l s'):(∃d,s=.ow d/\s'=.ow l)\/∃d,s=.io d/\s'=.io l:=by
 cases s with
 |ow d=>show .inl (d,rfl,h)
 |io d=>show .inr (d,rfl,h)
 |_=>show h.elim
def fU{s s':Sl}{l:Nz}{a:ap}(h:Bi s l s'):cH (NI (.ref a),s)=[a]/\cH (NI (.ref a),s')=[a]:=by rcases cM h with⟨_,rfl,rfl⟩|⟨_,rfl,rfl⟩ <;> show(rfl,rfl)
def aU.muted{a:ap}{s s':Sl}{vs':NH}{ds':Nz}(h:aU K M P H0 (A++(Pm (NI (.ref a)) s)::B) H)(hs:Bi s ds' s')(k:aO (λb=>b=a) H H')(D:∀b,H b≠NJ->H' b≠NJ)
  (u:H' a=NI (.lst vs')) (g:DNs K (Nw M (A++(Pm (NI (.ref a)) s)::B)) H' vs' ds'):aU K M P H0 (A++(Pm (NI (.ref a)) s')::B) H':=by
 let w:cH (Pm (NI (.ref a)) s)=[a]/\cH (Pm (NI (.ref a)) s')=[a]:=fU hs;let l:oas (A++(Pm (NI (.ref a)) s)::B)=oas A++a::oas B:=by rw[ah,aj,w.1];rfl
 let i:oas (A++(Pm (NI (.ref a)) s')::B)=oas A++a::oas B:=by rw[ah,aj,w.2];rfl
 let ne:Nw M (A++(Pm (NI (.ref a)) s')::B)=Nw M (A++(Pm (NI (.ref a)) s)::B):=by unfold Nw;rw[l,i]
 let na:Nw M (A++(Pm (NI (.ref a)) s)::B) a:=.inr (by rw[l];simp);let nd:=h.nd;rw[l]at nd;let(J,E,F):=IT.mp nd;let(G,L):=Jr.mp E;let n:aO (Nw M (A++(Pm (NI (.ref a)) s)::B)) H H':=k.mono λb z=>by rw[z];show na
 let(ws,hw,I):=h.own (a:=a) (by rw[l];simp);let other:∀x t b,(Pm x t)∈A\/(Pm x t)∈B->b∈cH (Pm x t)->b≠a:=λx t b m y z=>by
  subst z;rcases m with m|m;show F b (aT.mpr ⟨_,m,y⟩) b IL rfl;show G (aT.mpr ⟨_,m,y⟩)
 let f:∀x t,(Pm x t)∈A++(Pm (NI (.ref a)) s')::B->(Pm x t)=(Pm (NI (.ref a)) s')\/((Pm x t)∈A\/(Pm x t)∈B):=λx t m=>by
  rcases II.mp m with m|m;show .inr (.inl m);rcases IR.mp m with m|m;show .inl m;show .inr (.inr m)
 let c:∀x t,(Pm x t)∈A\/(Pm x t)∈B->(Pm x t)∈A++(Pm (NI (.ref a)) s)::B:=λx t m=>by
  rcases m with m|m;show IJ _ m;show IE _ (IM _ m)
 let N:(Pm (NI (.ref a)) s)∈A++(Pm (NI (.ref a)) s)::B:=IE _ IL;show⟨?_,λb q=>D b (h.live b q),h.mt,h.pm,λx d m=>?_,λx d m=>?_,λx d m=>?_,λx S d m=>?_,by rw[i];show nd⟩
 rotate_right
 rw[ne];rcases f _ _ m with m|m;rcases cM hs with⟨_,_,e⟩|⟨_,_,e⟩ <;> (rw[e]at m;cases m)
 let(v,e,dn,r):=h.tr x S d (c _ _ m);subst e;show⟨v,rfl,dn.keep n λb j=>?_,r⟩;let(xs,z):=dn.lives b j;rw[k _ _ (other _ _ b m (by rw[aK];show j)) z,z];intro b o C e;by_cases j:b=a;subst j;rcases I with q|q;rw[q]at e;cases e;show absurd q C;show k b o j (h.keep b o C e);rw[ne];rcases f _ _ m with m|m;rcases cM hs with⟨_,_,e⟩|⟨_,_,e⟩ <;> (rw[e]at m;cases m)
 let(v,e,dn):=h.fr x d (c _ _ m);show⟨v,e,dn.keep n⟩
 .rw[ne];rcases f _ _ m with m|m
  .rcases cM hs with⟨p,e1,e2⟩|⟨_,_,e2⟩ <;> (rw[e2]at m;cases m)
   cbv;let(b,us,e,_,_,r):=h.ow (NI (.ref a)) p (IE _ (by rw[e1];show IL));cases e
   w_up;show⟨a,vs',rfl,u,g,r⟩
  let(b,us,e,e2,dn,r):=h.ow x d (c _ _ m);subst e;show⟨b,us,rfl,k _ _ (other _ _ b m (IG.mpr rfl)) e2,dn.keep n,r⟩
 .rw[ne];rcases f _ _ m with m|m
  .rcases cM hs with⟨_,_,e2⟩|⟨p,e1,e2⟩ <;> (rw[e2]at m;cases m)
   cbv;let(b,us,e,_,_,r):=h.io (NI (.ref a)) p (IE _ (by rw[e1];show IL));cases e
   w_up;show⟨a,vs',rfl,u,g,r⟩
  let(b,us,e,e2,dn,r):=h.io x d (c _ _ m);subst e;show⟨b,us,rfl,k _ _ (other _ _ b m (IG.mpr rfl)) e2,dn.keep n,r⟩
def aU.mut{a:ap}{s s':Sl}{vs':NH}{ds':Nz}(h:aU K M P H0 (A++(NI (.ref a),s)::B) H)(hs:Bi s ds' s')(d:DNs K (Nw M (A++(NI (.ref a),s)::B)) H vs' ds') :
  aU K M P H0 (A++(NI (.ref a),s')::B) (upd H a (.lst vs')) :=
 let f:cH (NI (.ref a),s)=[a]:=(fU hs).1
 h.muted hs (λb o c e=>by rw[al c];show e) (λb q z=>by
  by_cases c:b=a;rw[c,aq]at z;cases z;rw[al c]at z;show q z) aq (d.keep (aO.own (.inr (aT.mpr (_,IE _ IL,by rw[f];show IG.mpr rfl)))))
def aU.move{t:Ent}(h:aU K M P H0 (A++e::(B++[t])) H):aU K M P H0 (A++t::B) H:=by
 show h.sub (λx s m=>.inl ?_) ?_;rcases II.mp m with m|m;show IJ _ m;rcases IR.mp m with m|m;show IE _ (IM _ (IE _ (by rw[m];simp)));show IE _ (IM _ (IJ _ m))
 .let nd:=h.nd;let b:oas (A++e::(B++[t]))=oas A++(oas [e]++(oas B++oas [t])):=by
   rw[ah,show e::(B++[t])=[e]++(B++[t]) from rfl,ah,ah]
  let c:oas (A++t::B)=oas A++(oas [t]++oas B):=by rw[ah,show t::B=[t]++B from rfl,ah]
  rw[b]at nd;rw[c]
  cbv;let(d,f,g):=IT.mp nd;let(_,i,_):=IT.mp f;let(j,k,l):=IT.mp i
  w_up;show IT.mpr (d,IT.mpr (k,j,λx hx y a z=>l y a x hx z.symm),λx hx y a=>?_);show g x hx y (IE _ ?_);rcases II.mp a with a|a;show IE _ a;show IJ _ a
end
structure Rel(K:ca)(M P:ap->Prop)(H0:Hp)(σ0 σ:St)(env:NA)(ts:Ni)(H:Hp):Prop where
 e : aU K M P H0 (aw σ env ts) H
 len:σ.length=env.length
 vw : ∀(v:V) (i:Nat),(v,Sl.vw i)∈ts->σ[i]?=some (some v)
 ios:∀(i:Nat) (ds:Nz),env[i]?=some (Sl.io ds)->σ[i]?=σ0[i]?
inductive Vw (K:ca) (N:ap->Prop) (H:Hp):V->ab->Prop
 |dn {v d}:DN K N H v d->Vw K N H v d
 |ow {a vs ds}:H a=some (.lst vs)->DNs K N H vs ds->Vw K N H (.ref a) (.list ds)
 |dct {a:ap}{es:Nb}{kvs:Nf}:H a=some (.ext (ce a es))->DNs K N H (es.map λp=>V.ref p.2.1) (kvs.map λp=>dD p.1)->DNs K N H (es.map λp=>p.2.2) (kvs.map λp=>p.2)->es.map (λp=>p.1)=kvs.map (λp=>p.1)->Vw K N H (.ref a) (eD kvs)
noncomputable def slD:Sl->Option ab
 |.fr d=>NI d
 |.ow ds=>NI (.list ds)
 |.io ds=>NI (.list ds)
 |.tr _ (.dict kvs)=>NI (.dict kvs)
 |_=>NJ
def aC(env:NA):Sl->Option ab
 |.vw i=>(env[i]?).bind slD
 |.fr d=>NI d
 |.ow ds=>NI (.list ds)
 |.io ds=>NI (.list ds)
 |.tr _ (.dict kvs)=>NI (.dict kvs)
 |_=>NJ
noncomputable def slK:Sl->Option ab
 |.fr d=>NI d
 |_=>NJ
def aV(env:NA):Sl->Option ab
 |.vw i=>(env[i]?).bind slK
 |.fr d=>NI d
 |.ow ds=>NI (.list ds)
 |.tr _ d=>NI d
 |_=>NJ
section
variable{K:ca}{M P N:ap->Prop}{H0 H H':Hp}{σ0 σ:St}{env:NA}{ts tt:Ni}{v:V}{s:Sl}{d:ab}
def ar:aw σ env (ts++tt)=aw σ env ts++tmp tt:=by unfold aw;rw[JE];simp[tmp]
def OT.dict_view{S:NE}{kvs:List (ab×ab)}(h:OT K N H v (.dict kvs) S):Vw K N H v (.dict kvs):=by
 generalize e:PyData.dict kvs=d at h;cases h with
 |dct h q r e2=>show .dct h q r e2
 |fz h=>show .dn (.fz h)
 |_=>cases e
theorem Vw.dv(h:Vw K N H v d):DV K H v d:=by
 cases h with
 |dn h=>show h.dv
 |ow h q=>show .lst (SqL.of h) q.dv
 |dct h q r e=>show .dct h q.dv r.dv e
theorem Vw.list{ds:Nz}(h:Vw K N H v (.list ds)):∃a vs,v=.ref a/\SqL K H a vs/\DNs K N H vs ds:=by
 cases h with
 |dn h=>let(a,vs,e,s,q):=h.list;show(a,vs,e,s.sq,q)
 |ow h q=>show(_,_,rfl,SqL.of h,q)
theorem Vw.tuple{ds:Nz}(h:Vw K N H v (.tuple ds)):∃a vs,v=.ref a/\SqT K H a vs/\DNs K N H vs ds:=by
 cases h with
 |dn h=>let(a,vs,e,s,q):=h.tuple;show(a,vs,e,s.sq,q)
theorem Vw.int{i:Int}(h:Vw K N H v (.int i)):v=.int i:=by
 cases h with
 |dn h=>cases h;rfl
theorem Vw.bool{i:Bool}(h:Vw K N H v (.bool i)):v=.bl i:=by
 cases h with
 |dn h=>cases h;rfl
theorem Vw.none(h:Vw K N H v .none):v=.non:=by
 cases h with
 |dn h=>cases h;rfl
theorem Vw.str{i:bx}(h:Vw K N H v (.str i)):v=.str i:=by
 cases h with
 |dn h=>cases h;rfl
def sG(h:-σ=-env){i:Nat}(e:env[i]?=NI s):∃x,σ[i]?=NI x/\(x,s)∈σ.zip env:=by
 let hi:i< -env:=(IN.mp e).1;let hj:i< -σ:=!0
 show(σ[i],IK hj,?_);let hz:i<(σ.zip env).length:=by rw[JZ];lia
 let:=Ju hz;rw[J3]at this;rwa [(IN.mp e).2]at this
def cS(m:(v,s)∈ts):((NI v,s):Ent)∈aw σ env ts:=IE _ (IZ.mpr ((v,s),m,rfl))
def Rel.slot(h:Rel K M P H0 σ0 σ env ts H){i:Nat}(e:env[i]?=NI s):∃x,σ[i]?=NI x/\(x,s)∈aw σ env ts:=by let(x,e1,m):=sG h.len e;show(x,e1,IJ _ m)
def aU.viewE{E:Nt}(h:aU K M P H0 E H){x:Nx}(m:(x,s)∈E)(e:slD s=NI d):∃v,x=NI v/\Vw K (Nw M E) H v d:=by
 cases s with
 |fr d' =>
  cbv;cases e;let(v,e1,dn):=h.fr _ _ m
  w_up;show(v,e1,.dn dn)
 |ow ds =>
  cbv;cases e;let(a,vs,e1,e2,dn,_):=h.ow _ _ m
  w_up;show(_,e1,.ow e2 dn)
 |io ds =>
  cbv;cases e;let(a,vs,e1,e2,dn,_):=h.io _ _ m
  w_up;show(_,e1,.ow e2 dn)
 |un=>cases e
 |vw i=>cases e
 |tr S d' =>
  cases d' with
  |dict kvs =>
   cbv;cases e;let(v,e1,ot,_):=h.tr _ _ _ m
   w_up;show(v,e1,ot.dict_view)
  |_=>cases e
def Rel.there(h:Rel K M P H0 σ0 σ env ts H){i:Nat}(e:(env[i]?).bind slD=NI d):∃v,σ[i]?=NI (NI v)/\Vw K (Nw M (aw σ env ts)) H v d:=by
 cases q:env[i]? with
 |none=>rw[q]at e;cases e
 |some s =>
  rw[q]at e;let(x,e1,m):=h.slot q;let(v,e2,w):=h.e.viewE m e;show(v,by rw[e1,e2],w)
def Rel.view(h:Rel K M P H0 σ0 σ env ts H)(m:(v,s)∈ts)(e:aC env s=NI d):Vw K (Nw M (aw σ env ts)) H v d:=by
 cases s with
 |vw i =>
  cbv;let(w,e1,q):=h.there e;rw[h.vw v i m]at e1;cases e1
  w_up;show q
 |un=>cases e
 |tr S d' =>
  cases d' with
  |dict kvs=>let(w,e1,q):=h.e.viewE (s:=.tr S (.dict kvs)) (cS m) e;cases e1;show q
  |_=>cases e
 |fr d'=>let(w,e1,q):=h.e.viewE (cS m) e;cases e1;show q
 |ow d'=>let(w,e1,q):=h.e.viewE (cS m) e;cases e1;show q
 |io d'=>let(w,e1,q):=h.e.viewE (cS m) e;cases e1;show q
def eM{E B:Nt}{b:ap}(h:Nw M E b):Nw M (E++B) b:=by rcases h with h|h;show .inl h;show .inr (by rw[ah];show IJ _ h)
theorem Rel.drop(h:Rel K M P H0 σ0 σ env (ts++tt) H):Rel K M P H0 σ0 σ env ts H :=
 (by let:=h.e;rw[ar]at this;show this.drop,h.len,λv i m=>h.vw v i (IJ _ m),h.ios)
theorem Rel.same(h:Rel K M P H0 σ0 σ env ts H)(k:aS H H'):Rel K M P H0 σ0 σ env ts H':=(h.e.same k,h.len,h.vw,h.ios)
theorem Rel.addFr(h:Rel K M P H0 σ0 σ env ts H)(dn:DN K (Nw M (aw σ env ts)) H v d):Rel K M P H0 σ0 σ env (ts++[(v,.fr d)]) H :=
 (by rw[ar];show h.e.addFr dn,h.len,(λw i m=>by
  rcases II.mp m with m|m;show h.vw w i m;rw[IG]at m;cases m),h.ios)
theorem Rel.addVw(h:Rel K M P H0 σ0 σ env ts H){i:Nat}(e:σ[i]?=NI (NI v)):Rel K M P H0 σ0 σ env (ts++[(v,.vw i)]) H :=
 (by rw[ar];show h.e.addVw,h.len,(λw i m=>by
  rcases II.mp m with m|m;show h.vw w i m;rw[IG]at m;cases m;show e),h.ios)
theorem Rel.addOw(h:Rel K M P H0 σ0 σ env ts H){p:ap}{vs:NH}{ds:Nz}(b:H p=NJ)(a:DNs K (Nw M (aw σ env ts)) H vs ds):Rel K M P H0 σ0 σ env (ts++[(.ref p,.ow ds)]) (upd H p (.lst vs)) :=
 (by rw[ar];show h.e.addOw b a,h.len,(λw i m=>by
  rcases II.mp m with m|m;show h.vw w i m;rw[IG]at m;cases m),h.ios)
def Rel.res(h:Rel K M P H0 σ0 σ env (ts++tt) H)(k:aS H H')(dn:DN K (Nw M (aw σ env (ts++tt))) H' v d):Rel K M P H0 σ0 σ env (ts++[(v,.fr d)]) H' :=
 (h.drop.same k).addFr (dn.to λb Y Y z=>by rw[ar];show eM z)
def Rel.resOw(h:Rel K M P H0 σ0 σ env (ts++tt) H){p:ap}{vs:NH}{ds:Nz}(c:H p=NJ)(a:DNs K (Nw M (aw σ env (ts++tt))) H vs ds):Rel K M P H0 σ0 σ env (ts++[(.ref p,.ow ds)]) (upd H p (.lst vs)) :=
 h.drop.addOw c (a.to λb Y Y z=>by rw[ar];show eM z)
end
abbrev DE:=NA->(Sl->NA->Prop)->Prop
abbrev DT:=NA->(Bool->NA->Prop)->Prop
abbrev DA:=NA->(NA->NA->Prop)->Prop
structure Wn{α:Type}(a:α):Type
def dK(R:Sl->NA->Prop)(_:Wn R):Sl->NA->Prop:=R
def zl(R:Sl->NA->Prop)(w:Wn R)(s:Sl)(env:NA):dK R w s env=R s env:=rfl
def dI(W:NA->Prop)(_:Wn W):NA->Prop:=W
def EA(W:NA->Prop)(w:Wn W)(env:NA):dI W w env=W env:=rfl
abbrev Wk(G Q:Prop):Prop:=(G->Q)->(Q->G)->Q->G
def sH{c:Bool}{p A d B f:Prop} [Decidable p](e:c=decide p)(a:d->A)(b:f->B)(h:if p then d else f):if c=NK then A else B:=by subst e;by_cases q:p;rw[M0 q]at h;rw[M0 (decide_eq_true q)];show a h;rw[M1 q]at h;rw[M1 λz=>q (of_decide_eq_true z)];show b h
inductive up (K:ca) (t:DE) (σ:St) (H:Hp) (Q:VK):Prop
 |mk (M P:ap->Prop) (H0:Hp) (σ0:St) (env:NA) (ts:Ni) (R:Sl->NA->Prop):Rel K M P H0 σ0 σ env ts H->t env R ->
 (∀s env' v H',R s env'->Rel K M P H0 σ0 σ env' (ts++[(v,s)]) H'->Q v H')->up K t σ H Q
inductive upT (K:ca) (t:DT) (σ:St) (H:Hp) (Q:Bool->Hp->Prop):Prop
 |mk (M P:ap->Prop) (H0:Hp) (σ0:St) (env:NA) (ts:Ni) (R:Bool->NA->Prop):Rel K M P H0 σ0 σ env ts H->t env R ->
 (∀b env' H',R b env'->Rel K M P H0 σ0 σ env' ts H'->Q b H')->upT K t σ H Q
inductive upA (K:ca) (t:DA) (σ:St) (H:Hp) (Q:NH->Hp->Prop):Prop
 |mk (M P:ap->Prop) (H0:Hp) (σ0:St) (env:NA) (ts:Ni) (R:NA->NA->Prop):Rel K M P H0 σ0 σ env ts H->t env R ->
 (∀ss env' vs H',R ss env'->vs.length=ss.length->Rel K M P H0 σ0 σ env' (ts++vs.zip ss) H'->Q vs H')->upA K t σ H Q
def PE.imp{X:Cx}{e:bb}{t t':TE}(h:PE X e t)(k:∀σ H Q,t' σ H Q->t σ H Q):PE X e t':=λpins s σ H Q I hw=>h pins s σ H Q I (k σ H Q hw)
def PT.imp{X:Cx}{e:bb}{t t':TT}(h:PT X e t)(k:∀σ H Q,t' σ H Q->t σ H Q):PT X e t':=λpins s σ H Q I hw=>h pins s σ H Q I (k σ H Q hw)
def PW.imp{X:Cx}{e:bb}{t t':TT}(h:PW X e t)(k:∀σ H Q,t' σ H Q->t σ H Q):PW X e t':=λwh pins s σ H Q I hw=>h wh pins s σ H Q I (k σ H Q hw)
def PA.imp{X:Cx}{e:NF}{t t':TA}(h:PA X e t)(k:∀σ H Q,t' σ H Q->t σ H Q):PA X e t':=λpos pins s σ H Q I hw=>h pos pins s σ H Q I (k σ H Q hw)
section
variable{X:Cx}{K:ca}{pos:Pos}{a b c:bb}{ta tb tc:DE}{es:NF}{tA tB':DT}{tl:DA}
def Fb(i:Nat):DE:=λenv R=>∃d,(env[i]?).bind slD=NI d/\R (.vw i) env
def qv(i:Nat){x:bx}(hN:X.N[i]?=some x:=by rfl)(hv:Vis X.env.scope x:=by walk_at"v0")(hd:(x==("__debug__" : bx))=false:=by decide)
  (b:(x==("__classdict__" : bx))=false:=by decide):PE X (.Name x pos) (up K (Fb i)):=(bu hN hv hd b).imp λσ H Q h=>by
 let(M,P,H0,σ0,env,ts,R,a,(d,e,c),f):=h;let(v,e1,_):=a.there e;show(v,e1,f _ _ _ _ c (a.addVw e1))
theorem fP{α:Type}:∀{l:List α}{i:Nat}{x:α},l[i]?=NI x->∃A B,l=A++x::B/\∀y,l.set i y=A++y::B
 |[],i,x,h=>by simp at h
 |z::l,0,x,h=>by
  simp at h;subst h;show([],l,rfl,λy=>rfl)
 |z::l,i+1,x,h=>by
  let(A,B,e1,e2):=fP (l:=l) (i:=i) (x:=x) (by simpa using h);show(z::A,B,by rw[e1];rfl,λy=>by rw[List.set_cons_succ,e2 y];rfl)
def dG{α β:Type}(l:List α)(m:List β)(j:Nat):(l.zip m)[j]?=(l[j]?).bind λa=>(m[j]?).map λb=>(a,b):=by rw[sn,LX];cases l[j]? <;> cases m[j]? <;> rfl
def sF{σ:St}{env:NA}{i:Nat}{x:Nx}{s':Sl}(h:σ[i]?=NI x):σ.zip (env.set i s')=(σ.zip env).set i (x,s'):=by apply v3;intro j;by_cases hj:i=j;subst hj;rw[Ke,dG,dG,h];by_cases hi:i< -env;rw[Jc hi,IK hi];rfl;rw[LY (by simp;lia),LY (!0)];rfl;rw[Je hj,dG,dG,Je hj]
def Rel.split{M P:ap->Prop}{H0 H:Hp}{σ0 σ:St}{env:NA}{ts:Ni}{i:Nat}{s:Sl}(h:Rel K M P H0 σ0 σ env ts H)(e:env[i]?=NI s) :
  ∃x A B,σ[i]?=NI x/\aw σ env ts=A++(x,s)::B/\∀s',aw σ (env.set i s') ts=A++(x,s')::B:=by
 let(x,e1,m):=sG h.len e;let a:(σ.zip env)[i]?=NI (x,s):=by rw[sn,LX,e1,e]
 let(A,B,b,c):=fP a;show(x,A,B++tmp ts,e1,by unfold aw;rw[b];simp,λs'=>?_);unfold aw;rw[sF e1,c];simp
def zm(i:Nat):DE:=λenv R=>match env[i]? with
 |some (.fr d)=>R (.fr d) env
 |some (.tr _ d)=>R (.fr d) (env.set i (.fr d))
 |some (.ow ds)=>R (.fr (.list ds)) (env.set i (.fr (.list ds)))
 |_=>False
def Rel.frz{M P:ap->Prop}{H0 H:Hp}{σ0 σ:St}{env:NA}{ts:Ni}{i:Nat}{ds:Nz}(h:Rel K M P H0 σ0 σ env ts H)(e:env[i]?=NI (.ow ds)):Rel K M P H0 σ0 σ (env.set i (.fr (.list ds))) ts H:=by
 cbv;let(x,A,B,e1,b,c):=h.split e;let r:=h.e;rw[b]at r;let(a,vs,z,_):=r.ow _ _ (IE _ IL);subst z
 w_up;show(by rw[c];show r.freeze,by simp[h.len],h.vw,λj ds' e'=>?_);by_cases hj:i=j;subst hj;let hi:i< -env:=(IN.mp e).1;rw[Jc hi]at e';cases e';rw[Je hj]at e';show h.ios j ds' e'
def Rel.frzT{M P:ap->Prop}{H0 H:Hp}{σ0 σ:St}{env:NA}{ts:Ni}{i:Nat}{S:NE}{d:ab}(h:Rel K M P H0 σ0 σ env ts H)(e:env[i]?=NI (.tr S d)):Rel K M P H0 σ0 σ (env.set i (.fr d)) ts H:=by
 cbv;let(x,A,B,e1,a,b):=h.split e;let r:=h.e;rw[a]at r;let(v,z,_):=r.tr _ _ _ (IE _ IL);subst z
 w_up;show(by rw[b];show r.freezeT,by simp[h.len],h.vw,λj ds' e'=>?_);by_cases hj:i=j;subst hj;let hi:i< -env:=(IN.mp e).1;rw[Jc hi]at e';cases e';rw[Je hj]at e';show h.ios j ds' e'
set_option tactic.hygienic true in
def qf(i:Nat){x:bx}(hN:X.N[i]?=some x:=by rfl)(hv:Vis X.env.scope x:=by walk_at"v0")(hd:(x==("__debug__" : bx))=false:=by decide)
  (c:(x==("__classdict__" : bx))=false:=by decide):PE X (.Name x pos) (up K (zm i)):=(bu hN hv hd c).imp λσ H Q h=>by
 let(M,P,H0,σ0,env,ts,R,b,ht,f):=h;let key:∀env' d,Rel K M P H0 σ0 σ env' ts H->env'[i]?=NI (.fr d)->R (.fr d) env'->vR i σ H Q:=λenv' d a e' g=>by
  cbv;let(j,e1,m):=a.slot e';let(v,e2,dn):=a.e.fr _ _ m;subst e2
  w_up;show(v,e1,f _ _ _ _ g (a.addFr dn))
 unfold zm at ht;split at ht;rename_i d e;show key env d b e ht;rename_i S d e;let hi:i< -env:=(IN.mp e).1;show key _ _ (b.frzT e) (Jc hi) ht;rename_i ds e;let hi:i< -env:=(IN.mp e).1;show key _ _ (b.frz e) (Jc hi) ht;show ht.elim
def dC(d:ab):DE:=λenv R=>R (.fr d) env
def ag{i j}:PE X (.Constant (.int i) j pos) (up K (dC (.int i))):=lF.imp λσ H Q h=>by
 let(M,P,H0,σ0,env,ts,R,a,ht,b):=h;show b _ _ _ _ ht (a.addFr (.int i))
def wI{i j}:PE X (.Constant (.bool i) j pos) (up K (dC (.bool i))):=FS.imp λσ H Q h=>by
 let(M,P,H0,σ0,env,ts,R,a,ht,b):=h;show b _ _ _ _ ht (a.addFr (.bl i))
def fb{j}:PE X (.Constant .none j pos) (up K (dC .none)):=Do.imp λσ H Q h=>by
 let(M,P,H0,σ0,env,ts,R,a,ht,b):=h;show b _ _ _ _ ht (a.addFr .non)
def fL{i j}:PE X (.Constant (.str i) j pos) (up K (dC (.str i))):=yN.imp λσ H Q h=>by
 let(M,P,H0,σ0,env,ts,R,a,ht,b):=h;show b _ _ _ _ ht (a.addFr (.str i))
abbrev G2:=ab->ab->(ab->Prop)->Prop
def dOp(g:G2)(ta tb:DE):DE:=λenv R=>ta env λs1 b=>tb b λs2 a=>∃d1 d2,aC a s1=NI d1/\aC a s2=NI d2/\g d1 d2 λd=>R (.fr d) a
def bq(K:ca)(r:R2)(g:G2):Prop:=∀(N:ap->Prop) (H:Hp) (x y:V) (d1 d2:ab) (R:ab->Prop) (Q:VK),Vw K N H x d1->Vw K N H y d2->g d1 d2 R->(∀d v,R d->DN K N H v d->Q v H)->r x y H Q
def wX{r:R2}{g:G2}(m:bq K r g):∀σ H Q,up K (dOp g ta tb) σ H Q->tOp r (up K ta) (up K tb) σ H Q:=λσ H Q h=>by
 let(M,P,H0,σ0,env,ts,R,i,ht,l):=h;show(M,P,H0,σ0,env,ts,_,i,ht,λs1 c v1 H1 h1 e=>(M,P,H0,σ0,c,ts++[(v1,s1)],_,e,h1,λs2 f j k h2 a=>?_));let(d1,d2,e1,e2,g):=h2;show m _ k v1 j d1 d2 _ Q (a.view (!1) e1) (a.view (!1) e2) g λd v n dn=>l _ _ _ _ n ?_;let b:Rel K M P H0 σ0 σ f (ts++[(v1,s1),(j,s2)]) k:=by simpa using a
 show b.res (aS.refl _) (by simpa using dn)
def bt{op:Operator}{r:R2}{g:G2}(ho:OpR X (KN op) r)(m:bq K r g)(c:PE X a (up K ta))(d:PE X b (up K tb)):PE X (.BinOp a op b pos) (up K (dOp g ta tb)):=(AJ ho c d).imp (wX m)
def jd{op:CmpOp}{r:R2}{g:G2}(ho:OpR X (q4 op) r)(m:bq K r g)(c:PE X a (up K ta))(d:PE X b (up K tb))(e:Qh op b=false:=by first|exact yR _|with_unfolding_all rfl):PE X (.Compare a [op] [b] pos) (up K (dOp g ta tb)):=(AO ho c d e).imp (wX m)
def oW(t:DE):DT:=λenv R=>t env λs a=>∃k,aC a s=NI (.bool k)/\R k a
def sO{t:TE}{c:DE}(h:∀σ H Q,up K c σ H Q->t σ H Q):∀σ H Q,upT K (oW c) σ H Q->zP t σ H Q:=λσ H Q f=>by
 let(M,P,H0,σ0,env,ts,R,b,ht,g):=f;show h σ H _ (M,P,H0,σ0,env,ts,_,b,ht,λs1 d v1 H1 h1 a=>?_);let(k,e,i):=h1;show(k,(a.view (!1) e).bool,g _ _ _ i a.drop)
def ay{op:CmpOp}{r:R2}{g:G2}(ho:OpR X (q4 op) r)(m:bq K r g)(c:PE X a (up K ta))(d:PE X b (up K tb))(e:Qh op b=false:=by first|exact yR _|with_unfolding_all rfl):PT X (.Compare a [op] [b] pos) (upT K (oW (dOp g ta tb))):=(tU ho c d e).imp (sO (wX m))
def C4{r:R2}{g:G2}(c:IxR X r)(m:bq K r g)(d:PE X a (up K ta))(e:PE X b (up K tb))(hs:dZ b:=by exactλY Y=>rfl):PE X (.Subscript a b pos) (up K (dOp g ta tb)):=(uc c d e hs).imp (wX m)
def gC{e:bb}{t:DE}(h:PE X e (up K t))(b:∀a,QF e X.env a=(do let v <-a;K2 e.pos;KI [v] (Ze v)):=by intro _;rfl):PT X e (upT K (oW t)):=(Da h b).imp (sO λY Y Y h=>h)
def GE(t u:DT):DT:=λenv R=>t env λk a=>if k=NK then u a R else R NL a
def dOr(t u:DT):DT:=λenv R=>t env λk a=>if k=NK then R NK a else u a R
def Fe(t:DT):DT:=λenv R=>t env λk a=>R (!k) a
def iB(b:PT X a (upT K tA)):PW X (.BoolOp .And [a] pos) (upT K tA):=Av b
def lA(b:PT X a (upT K tA)):PW X (.BoolOp .Or [a] pos) (upT K tA):=C8 b
def jz(g:PT X a (upT K tA))(i:PW X (.BoolOp .And (b::es) pos) (upT K tB')):PW X (.BoolOp .And (a::b::es) pos) (upT K (GE tA tB')):=(C9 g i).imp λσ H Q h=>by
 let(M,P,H0,σ0,env,ts,R,e,ht,f):=h;show(M,P,H0,σ0,env,ts,_,e,ht,λk d H1 h1 c=>?_);cases k with
 |true=>show(M,P,H0,σ0,d,ts,R,c,h1,f)
 |false=>show f _ _ _ h1 c
def lB(g:PT X a (upT K tA))(i:PW X (.BoolOp .Or (b::es) pos) (upT K tB')):PW X (.BoolOp .Or (a::b::es) pos) (upT K (dOr tA tB')):=(FQ g i).imp λσ H Q h=>by
 let(M,P,H0,σ0,env,ts,R,e,ht,f):=h;show(M,P,H0,σ0,env,ts,_,e,ht,λk d H1 h1 c=>?_);cases k with
 |false=>show(M,P,H0,σ0,d,ts,R,c,h1,f)
 |true=>show f _ _ _ h1 c
def gE(e:PT X a (upT K tA)):PT X (.UnaryOp .Not a pos) (upT K (Fe tA)):=(Db e).imp λσ H Q h=>by
 let(M,P,H0,σ0,env,ts,R,c,ht,f):=h;show(M,P,H0,σ0,env,ts,_,c,ht,λk d H1 h1 b=>f _ _ _ h1 b)
def B0(t u:DE):DE:=λenv R=>t env λs a=>∃k,aC a s=NI (.bool k)/\if k=NK then u a R else R (.fr (.bool NL)) a
def tQ{op}(h:PE X a (up K ta)):PE X (.BoolOp op [a] pos) (up K ta):=Dn h
def rF(i:PE X a (up K ta))(j:PE X (.BoolOp .And (b::es) pos) (up K tb)):PE X (.BoolOp .And (a::b::es) pos) (up K (B0 ta tb)):=(Dr i j).imp λσ H Q h=>by
 let(M,P,H0,σ0,env,ts,R,f,ht,g):=h;show(M,P,H0,σ0,env,ts,_,f,ht,λs1 d v1 H1 h1 c=>?_);let(k,e,h1):=h1;show(k,(c.view (!1) e).bool,?_);cases k with
 |true=>show(M,P,H0,σ0,d,ts,R,c.drop,h1,g)
 |false=>show g _ _ _ _ h1 (c.drop.addFr (.bl NL))
def dIf(t:DT)(ta tb:DE):DE:=λenv R=>t env λk a=>if k=NK then ta a R else tb a R
def gg(hc:PT X c (upT K tA))(i:PE X a (up K ta))(j:PE X b (up K tb)):PE X (.IfExp c a b pos) (up K (dIf tA ta tb)):=(wU hc i j).imp λσ H Q h=>by
 let(M,P,H0,σ0,env,ts,R,f,ht,g):=h;show(M,P,H0,σ0,env,ts,_,f,ht,λk d H1 h1 e=>?_);cases k with
 |true=>show(M,P,H0,σ0,d,ts,R,e,h1,g)
 |false=>show(M,P,H0,σ0,d,ts,R,e,h1,g)
def qP(g g':G2)(ta tb tc:DE):DE:=λenv R=>ta env λs1 c=>tb c λs2 a=>∃d1 d2,aC a s1=NI d1/\aC a s2=NI d2/\g d1 d2 λd=>∃k,d=.bool k /\
 if k=NK then tc a λh b=>∃e f,aC b s2=NI e/\aC b h=NI f/\g' e f λd'=>R (.fr d') b else R (.fr (.bool NL)) a
def ya{r r':R2}{g g':G2}(m:bq K r g)(y:bq K r' g'):∀σ H Q,up K (qP g g' ta tb tc) σ H Q->yr r r' (up K ta) (up K tb) (up K tc) σ H Q:=λσ H Q h=>by
 let(M,P,H0,σ0,env,ts,R,p,ht,t):=h;show(M,P,H0,σ0,env,ts,_,p,ht,λs1 j v1 H1 h1 l=>(M,P,H0,σ0,j,ts++[(v1,s1)],_,l,h1,λs2 e n u h2 a=>?_));let(d1,d2,e1,e2,g):=h2;let b:Rel K M P H0 σ0 σ e (ts++[(v1,s1),(n,s2)]) u:=by simpa using a
 show m _ u v1 n d1 d2 _ _ (a.view (!1) e1) (a.view (!1) e2) g λd v i dn=>?_
 cbv;let(k,rfl,i):=i;cases dn
 w_up;show(k,rfl,?_);cases k with
 |false=>show t _ _ _ _ i (b.drop.addFr (.bl NL))
 |true =>
  show(M,P,H0,σ0,e,ts++[(v1,s1),(n,s2)],_,b,i,λz o w x h3 c=>?_);let(q,A,s,e3,g'):=h3;show y _ x n w q A _ Q (c.view (!1) s) (c.view (!1) e3) g' λd v i dn=>t _ _ _ _ i ?_;let f:Rel K M P H0 σ0 σ o (ts++[(v1,s1),(n,s2),(w,z)]) x:=by simpa using c
  show f.res (aS.refl _) (by simpa using dn)
def j5{op d:CmpOp}{r r':R2}{g g':G2}(ho:OpR X (q4 op) r)(m:bq K r g)(e:OpR X (q4 d) r')(f:bq K r' g')(h:PE X a (up K ta))(i:PE X b (up K tb))(hc:PE X c (up K tc))
  (j:lastMarks [op,d] [b,c]=false:=by with_unfolding_all rfl):PE X (.Compare a [op,d] [b,c] pos) (up K (qP g g' ta tb tc)):=(wV ho e h i hc j).imp (ya m f)
abbrev G1:=ab->(ab->Prop)->Prop
def dUn(g:G1)(ta:DE):DE:=λenv R=>ta env λs1 a=>∃d1,aC a s1=NI d1/\g d1 λd=>R (.fr d) a
def ET{op:UnaryOp}{r:V->Hp->VK->Prop}{g:G1}(ho:UnR X (unaryOp op) r)(m:∀(N:ap->Prop) (H:Hp) (x:V) (d1:ab) (R:ab->Prop) (Q:VK),Vw K N H x d1->g d1 R->(∀d v,R d->DN K N H v d->Q v H)->r x H Q)
  (f:PE X a (up K ta)):PE X (.UnaryOp op a pos) (up K (dUn g ta)):=(Dl ho f).imp λσ H Q h=>by
 let(M,P,H0,σ0,env,ts,R,c,ht,i):=h;show(M,P,H0,σ0,env,ts,_,c,ht,λs1 e v1 H1 h1 b=>?_);let(d1,e1,g):=h1;show m _ H1 v1 d1 _ Q (b.view (!1) e1) g λd v j dn=>i _ _ _ _ j (b.res (aS.refl _) dn)
def Cn:DA:=λenv R=>R [] env
def vo(t:DE)(u:DA):DA:=λenv R=>t env λs a=>u a λss b=>R (s::ss) b
def ad:PA X [] (upA K Cn):=fM.imp λσ H Q h=>by
 let(M,P,H0,σ0,env,ts,R,a,ht,b):=h;show b [] env [] H ht rfl (by simpa using a)
def aa(g:PE X a (up K ta))(i:PA X es (upA K tl))(hs:kq (a::es) X.env=(false,eval a X.env)::kq es X.env:=by rfl):PA X (a::es) (upA K (vo ta tl)):=(cB g i hs).imp λσ H Q h=>by
 let(M,P,H0,σ0,env,ts,R,f,ht,j):=h;show(M,P,H0,σ0,env,ts,_,f,ht,λs1 b v1 H1 h1 c=>(M,P,H0,σ0,b,ts++[(v1,s1)],_,c,h1,λss d vs k h2 hl e=>?_));show j (s1::ss) d (v1::vs) k h2 (by simp[hl]) (by simpa using e)
end
section
variable{K:ca}{M P N:ap->Prop}{H0 H:Hp}{σ0 σ:St}{env:NA}{ts tt:Ni}{v:V}{s:Sl}{d:ab}
def gI(f:Int->Int->Int):G2:=λd e R=>∃i j,d=.int i/\e=.int j/\R (.int (f i j))
def gIC(C:Int->Int->Prop)(f:Int->Int->Int):G2:=λd e R=>∃i j,d=.int i/\e=.int j/\C i j/\R (.int (f i j))
def gB(f:Int->Int->Bool):G2:=λd e R=>∃i j,d=.int i/\e=.int j/\R (.bool (f i j))
def mI{f:Int->Int->Int}:bq K (rI0 λi j=>.int (f i j)) (gI f):=by rintro N H x y d e R Q a b ⟨i,j,rfl,rfl,c⟩ g;show(i,j,a.int,b.int,g _ _ c (.int _))
def mIC{C:Int->Int->Prop}{f:Int->Int->Int}:bq K (rI C λi j=>.int (f i j)) (gIC C f):=by rintro N H x y d e R Q a b ⟨i,j,rfl,rfl,c,g⟩ h;show(i,j,a.int,b.int,c,h _ _ g (.int _))
def mB{f:Int->Int->Bool}:bq K (rI0 λi j=>.bl (f i j)) (gB f):=by rintro N H x y d e R Q a b ⟨i,j,rfl,rfl,c⟩ g;show(i,j,a.int,b.int,g _ _ c (.bl _))
def DJ:bq K rEq (gB λi j=>decide (i=j)):=by rintro N H x y d e R Q a b ⟨i,j,rfl,rfl,c⟩ f;rw[a.int,b.int];show(rfl,?_);let q:=f _ _ c (.bl _);rwa [show decide (V.int i=V.int j)=decide (i=j) by simp]
def EX:bq K rNe (gB λi j=>!decide (i=j)):=by rintro N H x y d e R Q a b ⟨i,j,rfl,rfl,c⟩ f;rw[a.int,b.int];show(rfl,?_);let q:=f _ _ c (.bl _);rwa [show decide (V.int i=V.int j)=decide (i=j) by simp]
def gBB(f:Bool->Bool->Bool):G2:=λd e R=>∃i j,d=.bool i/\e=.bool j/\R (.bool (f i j))
def HY:bq K rEq (gBB λi j=>decide (i=j)):=by rintro N H x y d e R Q a b ⟨i,j,rfl,rfl,c⟩ f;rw[a.bool,b.bool];show(rfl,?_);let q:=f _ _ c (.bl _);rwa [show decide (V.bl i=V.bl j)=decide (i=j) by simp]
def HU:bq K (λx y H Q=>∃b c,x=.bl b/\y=.bl c/\Q (.bl (b==c)) H) (gBB λi j=>i==j):=by rintro N H x y d e R Q a f ⟨i,j,rfl,rfl,g⟩ h;show(i,j,a.bool,f.bool,h _ _ g (.bl _))
def gEq:G2:=λd e R=>shp d/\shp e/\R (.bool (ed d e))
def gNe:G2:=λd e R=>shp d/\shp e/\R (.bool (!PyData.eqv d e))
def mEq:bq K (FL K) gEq:=λN H x y d e R Q a b ⟨h1,h2,c⟩ f=>(d,e,a.dv,b.dv,h1,h2,f _ _ c (.bl _))
def mNe:bq K (FG K) gNe:=λN H x y d e R Q a b ⟨h1,h2,c⟩ f=>(d,e,a.dv,b.dv,h1,h2,f _ _ c (.bl _))
def ng:ab->Bool
 |.none=>NK
 |_=>NL
def Vw.isNon(w:Vw K N H v d):decide (v=.non)=ng d:=by
 cases w with
 |dn h =>
  cases h with
  |fz h=>let(a,xs,e,_):=h.list;subst e;simp[ng]
  |_=>simp[ng]
 |ow h q=>simp[ng]
 |dct h q r e=>simp[ng]
def E8:G2:=λd e R=>e=.none/\R (.bool (ng d))
def xM:G2:=λd e R=>e=.none/\R (.bool (!ng d))
def EY:bq K (λx y H Q=>y=.non/\Q (.bl (decide (x=.non))) H) E8:=by rintro N H x y d e R Q a b ⟨rfl,c⟩ f;show(b.none,by rw[a.isNon];show f _ _ c (.bl _))
def rS:bq K (λx y H Q=>y=.non/\Q (.bl (!decide (x=.non))) H) xM:=by rintro N H x y d e R Q a b ⟨rfl,c⟩ f;show(b.none,by rw[a.isNon];show f _ _ c (.bl _))
def eP:ab->M8
 |.list ds=>NI ds
 |.tuple ds=>NI ds
 |_=>NJ
noncomputable def Bk:ab->Nk
 |.int i=>NI i
 |_=>NJ
def dS:Nz->Option Np
 |[]=>NI []
 |d::ds=>(Bk d).bind λi=>(dS ds).map (i::·)
theorem eu:∀ns:Np,dS (ns.map .int)=NI ns
 |[]=>rfl
 |n::ns=>by rw[IU,dS,eu ns];rfl
theorem cD:∀{ds:Nz}{ns:Np},dS ds=NI ns->ds=ns.map .int
 |[],ns,h=>by cases h;rfl
 |d::ds,ns,h=>by
  unfold dS at h;cases d <;> simp[Bk]at h
  let(a,h1,rfl):=h;rw[cD h1];rfl
def Vw.seq{ds:Nz}(w:Vw K N H v d)(e:eP d=NI ds):∃a vs,v=.ref a/\(SqL K H a vs\/SqT K H a vs)/\DNs K N H vs ds:=by
 cases d <;> simp[eP]at e
 subst e;let(a,vs,e1,s,q):=w.list;show(a,vs,e1,.inl s,q);subst e;let(a,vs,e1,s,q):=w.tuple;show(a,vs,e1,.inr s,q)
def qr(i:Int)(ns:Np):inV (.int i) (ns.map V.int)=decide (i∈ns):=by
 unfold inV
 induction ns with
 |nil=>rfl
 |cons n r a =>
  rw[IU,pa,a];let:eqV (.int n) (.int i)=decide (n=i):=(show eqV (.int n) (.int i)=(n==i) from rfl).trans (by rw[Kf];simp);rw[this];by_cases h1:n=i;simp[h1];let:¬i=n:=λz=>h1 z.symm;simp[h1,this]
def mD(ns:Np):(ns.map V.int).all kz=NK:=by rw[Lb];intro x hx;let(n,_,rfl):=IZ.mp hx;rfl
def gIn:G2:=λd e R=>∃i ds ns,d=.int i/\eP e=NI ds/\dS ds=NI ns/\R (.bool (decide (i∈ns)))
def uU:G2:=λd e R=>∃i ds ns,d=.int i/\eP e=NI ds/\dS ds=NI ns/\R (.bool (!decide (i∈ns)))
def mIn:bq K (rIn K NL) gIn:=by rintro N H x y d e R Q b c ⟨i,ds,ns,rfl,e1,e2,f⟩ g;let(a,vs,rfl,s,q):=c.seq e1;rw[cD e2]at q;rw[q.ints]at s;rw[b.int];show(a,_,rfl,s,rfl,mD ns,?_);rw[qr];show g _ _ f (.bl _)
def DH:bq K (rIn K NK) uU:=by rintro N H x y d e R Q b c ⟨i,ds,ns,rfl,e1,e2,f⟩ g;let(a,vs,rfl,s,q):=c.seq e1;rw[cD e2]at q;rw[q.ints]at s;rw[b.int];show(a,_,rfl,s,rfl,mD ns,?_);rw[qr];show g _ _ f (.bl _)
def Ge:G2:=λd e R=>∃ds,e=.list ds/\shp d/\shp e/\R (.bool (ds.any λx=>ed x d))
def oQ:G2:=λd e R=>∃ds,e=.list ds/\shp d/\shp e/\R (.bool (!ds.any λx=>ed x d))
def HX:bq K (FK K) Ge:=by rintro N H x y d e R Q a b ⟨ds,rfl,h1,h2,c⟩ f;show(d,ds,a.dv,b.dv,h1,h2,f _ _ c (.bl _))
def A5:bq K (nZ K) oQ:=by rintro N H x y d e R Q a b ⟨ds,rfl,h1,h2,c⟩ f;show(d,ds,a.dv,b.dv,h1,h2,f _ _ c (.bl _))
theorem DNs.atI{vs:NH}{ds:Nz}{i:Int}{e:ab}(q:DNs K N H vs ds)(h:_L.atI ds i=NI e):∃v,_L.atI vs i=NI v/\DN K N H v e:=by
 unfold _L.atI at h ⊢;rw[q.len];cases hj:ixN (-ds) i with
 |none=>rw[hj]at h;cases h
 |some j =>
  rw[hj]at h;let h:ds[j]?=NI e:=h;let a:j< -vs:=by rw[q.len];show(IN.mp h).1
  cbv;let(e',h1,h2):=q.get (IK a);rw[h]at h1;cases h1
  w_up;show(vs[j],IK a,h2)
def gIx:G2:=λd e R=>∃ds i x,eP d=NI ds/\e=.int i/\atI ds i=NI x/\R x
def FI(K:ca):R2:=λx y H Q=>G6 K x y H Q\/G3 K x y H Q
def jF{X:Cx}(hK:X.K=K):IxR X (FI K):=by subst hK;show IxR.or Bf D6
def mIx:bq K (FI K) gIx:=by rintro N H x y d e R Q g b ⟨ds,i,z,e1,rfl,e2,c⟩ f;let(a,vs,rfl,s,q):=g.seq e1;let(u,e3,dn):=q.atI e2;rcases s with s|s;show .inl (a,vs,i,u,rfl,b.int,s,e3,f _ _ c dn);show .inr (a,vs,i,u,rfl,b.int,s,e3,f _ _ c dn)
inductive Vws (K:ca) (N:ap->Prop) (H:Hp):NH->Nz->Prop
 |nil:Vws K N H [] []
 |cons {v d vs ds}:Vw K N H v d->Vws K N H vs ds->Vws K N H (v::vs) (d::ds)
def fv(env:NA):NA->M8
 |[]=>NI []
 |s::ss=>(aC env s).bind λd=>(fv env ss).bind λds=>NI (d::ds)
theorem Rel.views(h:Rel K M P H0 σ0 σ env ts H):∀{vs:NH}{ss:NA}{ds:Nz},-vs=-ss->(∀p∈vs.zip ss,p∈ts)->fv env ss=NI ds->Vws K (Nw M (aw σ env ts)) H vs ds
 |[],[],_,_,_,e=>by cases e;show .nil
 |v :: vs,s::ss,ds,hl,a,e=>by
  unfold fv at e;cases e1:aC env s with
  |none=>rw[e1]at e;cases e
  |some d =>
   rw[e1]at e;cases e2:fv env ss with
   |none=>rw[e2]at e;cases e
   |some ds' =>
    rw[e2]at e;cases e;show .cons (h.view (a _ (!1)) e1) (h.views (by simpa using hl) (λp b=>a p (by simp[b])) e2)
 |[],_::_,_,hl,_,_=>by simp at hl
 |_::_,[],_,hl,_,_=>by simp at hl
abbrev GB:=Nz->(ab->Prop)->Prop
def dCB(g:GB)(t:DA):DE:=λenv R=>t env λss a=>∃ds,fv a ss=NI ds/\g ds λd=>R (.fr d) a
def eO(K:ca)(r:NH->Hp->VK->Prop)(g:GB):Prop:=∀(N:ap->Prop) (H:Hp) (xs:NH) (ds:Nz) (R:ab->Prop) (Q:VK),Vws K N H xs ds->g ds R->(∀d v,R d->DN K N H v d->Q v H)->r xs H Q
def EF{r:NH->Hp->VK->Prop}{g:GB}{tl:DA}(m:eO K r g):∀σ H Q,up K (dCB g tl) σ H Q->tCB r (upA K tl) σ H Q:=λσ H Q h=>by
 let(M,P,H0,σ0,env,ts,R,b,ht,f):=h;show(M,P,H0,σ0,env,ts,_,b,ht,λss c vs H1 h1 hl a=>?_);let(ds,e,g):=h1;show m _ H1 vs ds _ Q (a.views hl (λp i=>IE _ i) e) g λd v j dn=>f _ _ _ _ j (a.res (aS.refl _) dn)
section
variable{X:Cx}{x:bx}{p pos:Pos}{e:bb}{es:NF}{tl:DA}{id T:String}{r:NH->Hp->VK->Prop}{g:GB}
def tS(hc:cZ X (.builtin id) r)(m:eO K r g)(hg:Gl X x)(c:X.mg x=none)(hv:KJ x=some (.builtin id))(d:PA X (e::es) (upA K tl))(hn:x ≠ "__name__" := by decide)(a:(x==("__debug__" : bx))=false:=by decide)
  (f:kq (e::es) X.env=(false,eval e X.env)::kq es X.env:=by rfl) (b:(ze pos (kq es X.env)).any (·.1)=false:=by rfl):PE X (.Call (.Name x p) (e::es) [] pos) (up K (dCB g tl)) :=
 (gX hc hg c hv d hn a f b).imp (EF m)
def C6(hc:cZ X (.type T) r)(m:eO K r g)(hg:Gl X x)(c:X.mg x=none)(hv:KJ x=some (.type T))(d:PA X (e::es) (upA K tl))(hn:x ≠ "__name__" := by decide)(a:(x==("__debug__" : bx))=false:=by decide)
  (f:kq (e::es) X.env=(false,eval e X.env)::kq es X.env:=by rfl) (b:(ze pos (kq es X.env)).any (·.1)=false:=by rfl):PE X (.Call (.Name x p) (e::es) [] pos) (up K (dCB g tl)) :=
 (iJ hc hg c hv d hn a f b).imp (EF m)
end
def Ec:GB:=λds R=>∃d es,ds=[d]/\eP d=NI es/\R (.int (-es))
def HN:eO K (λxs H Q=>∃p ys,xs=[.ref p]/\(SqL K H p ys\/SqT K H p ys)/\Q (.int (-ys)) H) Ec:=by
 rintro N H xs ds R Q w ⟨d,es,rfl,e1,b⟩ c;cases w with
 |cons e f =>
  cbv;cases f;let(a,vs,rfl,s,q):=e.seq e1
  w_up;show(a,vs,rfl,s,?_);rw[q.len];show c _ _ b (.int _)
def F8:GB:=λds R=>∃i j,ds=[.int i,.int j]/\R (.int (if j<i then j else i))
def HM:eO K (λxs H Q=>∃i j,xs=[.int i,.int j]/\Q (.int (if j<i then j else i)) H) F8:=by
 rintro N H xs ds R Q w ⟨i,j,rfl,b⟩ c;cases w with
 |cons d a =>
  cases a with
  |cons a e =>
   cases e;show(i,j,by rw[d.int,a.int],c _ _ b (.int _))
noncomputable def zt:ab->Option Bool
 |.bool i=>NI i
 |_=>NJ
def gw:Nz->Option (List Bool)
 |[]=>NI []
 |d::ds=>(zt d).bind λi=>(gw ds).map (i::·)
theorem fq:∀ns:List Bool,gw (ns.map .bool)=NI ns
 |[]=>rfl
 |n::ns=>by rw[IU,gw,fq ns];rfl
theorem gO:∀{ds:Nz}{ns:List Bool},gw ds=NI ns->ds=ns.map .bool
 |[],ns,h=>by cases h;rfl
 |d::ds,ns,h=>by
  unfold gw at h;cases d <;> simp[zt]at h
  let(a,h1,rfl):=h;rw[gO h1];rfl
theorem DNs.bools:∀{ns:List Bool}{v:NH},DNs K N H v (ns.map .bool)->v=ns.map V.bl
 |[],_,.nil=>rfl
 |n::r,_,.cons h q=>by
  cases h;rw[q.bools];rfl
def Gg:GB:=λds R=>∃es bs,ds=[.list es]/\gw es=NI bs/\R (.bool (bs.all id))
def Cg:eO K (λxs H Q=>∃(a:ap) (bs:List Bool),xs=[.ref a]/\SqL K H a (bs.map V.bl)/\Q (.bl (bs.all id)) H) Gg:=by
 rintro N H xs ds R Q w ⟨es,bs,rfl,e1,b⟩ c;cases w with
 |cons d e =>
  cbv;cases e;let(a,vs,rfl,s,q):=d.list
  w_up;rw[gO e1]at q;rw[q.bools]at s;show(a,bs,rfl,s,c _ _ b (.bl _))
def aN(env:NA):NA->M8
 |[]=>NI []
 |s::ss=>(aV env s).bind λd=>(aN env ss).bind λds=>NI (d::ds)
def Rel.kept(h:Rel K M P H0 σ0 σ env (ts++tt) H)(m:(v,s)∈tt)(e:aV env s=NI d):DN K (Nw M (aw σ env ts)) H v d:=by
 let c:=h.e;rw[ar]at c;let sub:∀b,Nw M (aw σ env ts) b->Nw M (aw σ env ts++tmp tt) b:=λb z=>eM z;let f:((NI v,s):Ent)∈aw σ env ts++tmp tt:=IE _ (IZ.mpr ((v,s),m,rfl));cases s with
 |fr d' =>
  cbv;cases e;let(v',e1,dn):=c.fr _ _ f;cases e1
  w_up;show dn.to λb Y Y z=>sub b z
 |ow ds =>
  cbv;cases e;let(a,vs,e1,e2,dn,g):=c.ow _ _ f;cases e1
  w_up;show .lst (SnL.of e2 ?_) (dn.to λb Y Y z=>sub b z);rintro(z|z);show c.mt a z g;let nd:=c.nd;rw[ah]at nd;show(IT.mp nd).2.2 a z a (aT.mpr (_,IZ.mpr (_,m,rfl),IG.mpr rfl)) rfl
 |tr S d' =>
  cbv;cases e;let(v',e1,ot,g):=c.tr _ _ _ f;cases e1
  w_up;show ot.dn sub λa j=>?_;rintro(z|z);show c.mt a z (g a j);let nd:=c.nd;rw[ah]at nd;show(IT.mp nd).2.2 a z a (aT.mpr (_,IZ.mpr (_,m,rfl),by rw[aK];show j)) rfl
 |vw i =>
  let e:(env[i]?).bind slK=NI d:=e;cases q:env[i]? with
  |none=>rw[q]at e;cases e
  |some s' =>
   rw[q]at e;cases s' with
   |fr d' =>
    cbv;cases e;let(x,e1,m1):=h.slot q;rw[ar]at m1;let(v',e2,dn):=c.fr _ _ m1;let e3:=h.vw v i (IE _ m);rw[e1,e2]at e3;cases e3
    w_up;show dn.to λb Y Y z=>sub b z
   |_=>cases e
 |_=>cases e
theorem Rel.keptAll(h:Rel K M P H0 σ0 σ env (ts++tt) H):∀{vs:NH}{ss:NA}{ds:Nz},-vs=-ss->(∀p∈vs.zip ss,p∈tt)->aN env ss=NI ds->DNs K (Nw M (aw σ env ts)) H vs ds
 |[],[],_,_,_,e=>by cases e;show .nil
 |v :: vs,s::ss,ds,hl,a,e=>by
  unfold aN at e;cases e1:aV env s with
  |none=>rw[e1]at e;cases e
  |some d =>
   rw[e1]at e;cases e2:aN env ss with
   |none=>rw[e2]at e;cases e
   |some ds' =>
    rw[e2]at e;cases e;show .cons (h.kept (a _ (!1)) e1) (h.keptAll (by simpa using hl) (λp b=>a p (by simp[b])) e2)
 |[],_::_,_,hl,_,_=>by simp at hl
 |_::_,[],_,hl,_,_=>by simp at hl
def Rel.newAddr(h:Rel K M P H0 σ0 σ env ts H){p:ap}(a:H p=NJ):¬Nw M (aw σ env ts) p:=by rintro(z|z);show h.e.live p (h.e.mt p z) a;let(vs,q,_):=h.e.own z;rw[a]at q;cases q
def Rel.resTup(h:Rel K M P H0 σ0 σ env (ts++tt) H){p:ap}{vs:NH}{ds:Nz}(a:H p=NJ)(b:DNs K (Nw M (aw σ env ts)) H vs ds):Rel K M P H0 σ0 σ env (ts++[(.ref p,.fr (.tuple ds))]) (upd H p (.tup vs)) :=
 (h.drop.same (aS.new a)).addFr (.tup (SnT.of aq (h.drop.newAddr a)) (b.keep (aO.same (aS.new a))))
section
variable{X:Cx}{p pos:Pos}{e:bb}{es:NF}{tl:DA}
def Cl(t:DA):DE:=λenv R=>t env λss a=>∃ds,aN a ss=NI ds/\ss.length<=sizeLine/\R (.fr (.tuple ds)) a
def Ff(t:DA):DE:=λenv R=>t env λss a=>∃ds,aN a ss=NI ds/\ss.length<=sizeLine/\R (.ow ds) a
def cG{x1}(h:PA X es (upA K tl)):PE X (.Tuple es x1 pos) (up K (Cl tl)):=(yM h).imp λσ H Q h=>by
 let(M,P,H0,σ0,env,ts,R,b,ht,f):=h;show(M,P,H0,σ0,env,ts,_,b,ht,λss d vs H1 h1 hl a=>?_);let(ds,e,hz,g):=h1;show(!0,λp c=>f _ _ _ _ g (a.resTup c (a.keptAll hl (λp c=>c) e)))
def cP(h:PA X es (upA K tl)):PE X (.List es pos) (up K (Ff tl)):=(yP h).imp λσ H Q h=>by
 let(M,P,H0,σ0,env,ts,R,b,ht,f):=h;show(M,P,H0,σ0,env,ts,_,b,ht,λss d vs H1 h1 hl a=>?_);let(ds,e,hz,g):=h1;show(!0,λp c=>f _ _ _ _ g (a.drop.addOw c (a.keptAll hl (λp c=>c) e)))
end
end
def CS(K:ca):R2:=λx y H Q=>∃l b xs a,x=.ref l/\y=.ref b/\SqL K H l xs/\SqL K H b a/\xs.length+-a<=sizeLine/\∀p,H p=NJ->Q (.ref p) (upd H p (.lst (xs++a)))
def gm{X:Cx}{K:ca}(hK:X.K=K):OpR X (KN .Add) (CS K):=by
 subst hK;intro pins s σ H x y v u Q I m o h
 cbv;let(l,b,xs,C,rfl,rfl,p,t,hz,q):=h;cases m;cases o;let(c,r,((cls,dd,data,sl),n,ho,hc,_,hd),z):=I.list p;let(a,j,((k,g,data2,i),w,d,e,_,f),z2):=I.list t;simp only at hc hd e f;subst hc hd e f
 w_up;let hl:=-r;let A:=-j;show QV (_,ho,rfl) (_,d,rfl) noFill_list_add seq_list_add PySem.F.slot_list_add PySem.F.entry_list_add (PySem.F.args_list_add_2 _ _) (list_addW l b c.toArray a.toArray n w dd g sl i (by rw[IV,IV];lia)) (ho,d,?_);let B:c.toArray++a.toArray=(c++a).toArray:=!1
 rw[B];show(.ref _,_,I.lnew (t':=s.toks) (r.append j) (by rw[Jg];lia),rfl,q _ I.fresh)
section
variable{K:ca}{M P N:ap->Prop}{H0 H H':Hp}{σ0 σ:St}{env:NA}{ts:Ni}{v:V}{s:Sl}{d:ab}
variable{X:Cx}{x:bx}{p pos:Pos}{a b e:bb}{es:NF}{ta tb:DE}{tl:DA}
def Ez(g:ab->ab->(Nz->Prop)->Prop)(ta tb:DE):DE:=λenv R=>ta env λs1 b=>tb b λs2 a=>∃d1 d2,aC a s1=NI d1/\aC a s2=NI d2/\g d1 d2 λds=>R (.ow ds) a
def vN(K:ca)(r:R2)(g:ab->ab->(Nz->Prop)->Prop):Prop:=∀(N:ap->Prop) (H:Hp) (x y:V) (d1 d2:ab) (R:Nz->Prop) (Q:VK),Vw K N H x d1->Vw K N H y d2->g d1 d2 R ->
 (∀ds vs p,R ds->DNs K N H vs ds->H p=NJ->Q (.ref p) (upd H p (.lst vs)))->r x y H Q
def Dz{r:R2}{g:ab->ab->(Nz->Prop)->Prop}(m:vN K r g):∀σ H Q,up K (Ez g ta tb) σ H Q->tOp r (up K ta) (up K tb) σ H Q:=λσ H Q h=>by
 let(M,P,H0,σ0,env,ts,R,f,ht,l):=h;show(M,P,H0,σ0,env,ts,_,f,ht,λs1 c v1 H1 h1 d=>(M,P,H0,σ0,c,ts++[(v1,s1)],_,d,h1,λs2 e j k h2 a=>?_));let(d1,d2,e1,e2,g):=h2;show m _ k v1 j d1 d2 _ Q (a.view (!1) e1) (a.view (!1) e2) g λds vs p n i o=>l _ _ _ _ n ?_;let b:Rel K M P H0 σ0 σ e (ts++[(v1,s1),(j,s2)]) k:=by simpa using a
 show b.resOw o (by simpa using i)
def rC{op:Operator}{r:R2}{g:ab->ab->(Nz->Prop)->Prop}(ho:OpR X (KN op) r)(m:vN K r g)(c:PE X a (up K ta))(d:PE X b (up K tb)):PE X (.BinOp a op b pos) (up K (Ez g ta tb)):=(AJ ho c d).imp (Dz m)
def E9:ab->ab->(Nz->Prop)->Prop:=λd e R=>∃xs ys,d=.list xs/\e=.list ys/\xs.length+-ys<=sizeLine/\R (xs++ys)
def Cf:vN K (CS K) E9:=by rintro N H x y d e R Q c f ⟨xs,ys,rfl,rfl,hz,g⟩ h;let(a1,v1,rfl,s1,a):=c.list;let(a2,i,rfl,s2,b):=f.list;show(a1,a2,v1,i,rfl,rfl,s1,s2,by rw[a.len,b.len];show hz,λp j=>h _ _ p g (a.app b) j)
def x5(ta tb:DE):DE:=λenv R=>ta env λs1 b=>tb b λs2 a=>∃xs ys,aC a s1=NI (.tuple xs)/\aC a s2=NI (.tuple ys)/\xs.length+-ys<=sizeLine/\R (.fr (.tuple (xs++ys))) a
def lC(hK:X.K=K)(r:PE X a (up K ta))(s:PE X b (up K tb)):PE X (.BinOp a .Add b pos) (up K (x5 ta tb)):=(AJ (F4 (K:=K) hK) r s).imp λσ H Q h=>by
 let(M,P,H0,σ0,env,ts,R,k,ht,l):=h;show(M,P,H0,σ0,env,ts,_,k,ht,λs1 e v1 H1 h1 f=>(M,P,H0,σ0,e,ts++[(v1,s1)],_,f,h1,λs2 g i t h2 d=>?_))
 cbv;let(xs,ys,e1,e2,hz,j):=h2;let m:=d.view (v:=v1) (!1) e1;let n:=d.view (v:=i) (!1) e2;let c:Rel K M P H0 σ0 σ g (ts++[(v1,s1),(i,s2)]) t:=by simpa using d
 let u:ts++[(v1,s1)]++[(i,s2)]=ts++[(v1,s1),(i,s2)]:=!1
 rw[u]at m n;let(a1,w,rfl,x,o):=m.tuple;let(a2,y,rfl,A,q):=n.tuple
 w_up;show(a1,a2,w,y,rfl,rfl,x,A,by rw[o.len,q.len];show hz,λz=>?_,λY z=>?_,λY Y p B=>?_);subst z;let:xs=[]:=by let:=o.len;show Lf this.symm
 subst this;cases n with
 |dn dn=>show l _ _ _ _ j (c.res (aS.refl _) dn)
 subst z;let:ys=[]:=by let:=q.len;show Lf this.symm
 subst this;rw[Jh]at j;cases m with
 |dn dn=>show l _ _ _ _ j (c.res (aS.refl _) dn)
 show l _ _ _ _ j (c.resTup B ((o.app q).to λb Y Y z=>by rw[ar];show eM z))
abbrev DO:=NA->(Nk->NA->Prop)->Prop
inductive upO (K:ca) (t:DO) (σ:St) (H:Hp) (Q:Nk->Hp->Prop):Prop
 |mk (M P:ap->Prop) (H0:Hp) (σ0:St) (env:NA) (ts:Ni) (R:Nk->NA->Prop):Rel K M P H0 σ0 σ env ts H->t env R ->
 (∀o env' H',R o env'->Rel K M P H0 σ0 σ env' ts H'->Q o H')->upO K t σ H Q
def PO.imp{e:Option bb}{t t':TO}(h:PO X e t)(k:∀σ H Q,t' σ H Q->t σ H Q):PO X e t':=λpins s σ H Q I hw=>h pins s σ H Q I (k σ H Q hw)
def kD:DO:=λenv R=>R NJ env
def x3(t:DE):DO:=λenv R=>t env λs a=>∃i,aC a s=NI (.int i)/\R (NI i) a
def eX:PO X NJ (upO K kD):=Az.imp λσ H Q h=>by
 let(M,P,H0,σ0,env,ts,R,a,ht,b):=h;show b _ _ _ ht a
def eW(h:PE X e (up K ta)):PO X (NI e) (upO K (x3 ta)):=(Ay h).imp λσ H Q h=>by
 let(M,P,H0,σ0,env,ts,R,b,ht,d):=h;show(M,P,H0,σ0,env,ts,_,b,ht,λs1 c v1 H1 h1 a=>?_);let(i,e1,f):=h1;show(i,(a.view (!1) e1).int,d _ _ _ f a.drop)
def kE{α:Type}(xs:List α)(lo hi:Nk):List α:=(xs.drop (HT.sIx (-xs) 0 lo)).take (HT.sIx (-xs) (-xs) hi-HT.sIx (-xs) 0 lo)
theorem DNs.drop:∀{vs:NH}{ds:Nz} (n:Nat),DNs K N H vs ds->DNs K N H (vs.drop n) (ds.drop n)
 |_,_,0,q=>q
 |_,_,_+1,.nil=>.nil
 |_,_,n+1,.cons _ q=>q.drop n
theorem DNs.take:∀{vs:NH}{ds:Nz} (n:Nat),DNs K N H vs ds->DNs K N H (vs.take n) (ds.take n)
 |_,_,0,_=>.nil
 |_,_,_+1,.nil=>.nil
 |_,_,n+1,.cons h q=>.cons h (q.take n)
def DNs.cut{vs:NH}{ds:Nz}(q:DNs K N H vs ds)(lo hi:Nk):DNs K N H (zo vs lo hi) (kE ds lo hi):=by unfold zo kE;rw[q.len];show(q.drop _).take _
def Fc(te:DE)(tl th:DO):DE:=λenv R=>te env λs b=>tl b λl c=>th c λh a=>∃ds,aC a s=NI (.list ds)/\R (.ow (kE ds l h)) a
def Gx(te:DE)(tl th:DO):DE:=λenv R=>te env λs b=>tl b λl c=>th c λh a=>∃ds,aC a s=NI (.tuple ds)/\¬(HT.sIx (-ds) 0 l=0/\HT.sIx (-ds) (-ds) h=-ds)/\R (.fr (.tuple (kE ds l h))) a
variable{lo hi:Option bb}{tlo thi:DO}{p2:Pos}
def tP(hK:X.K=K)(k:PE X e (up K ta))(hl:PO X lo (upO K tlo))(m:PO X hi (upO K thi)):PE X (.Subscript e (.Slice lo hi NJ p2) pos) (up K (Fc ta tlo thi)):=(pY (Ic (K:=K) hK) k hl m).imp λσ H Q h=>by
 let(M,P,H0,σ0,env,ts,R,i,ht,n):=h;show(M,P,H0,σ0,env,ts,_,i,ht,λs1 c v1 H1 h1 d=>(M,P,H0,σ0,c,ts++[(v1,s1)],_,d,h1,λl f s h2 g=>(M,P,H0,σ0,f,ts++[(v1,s1)],_,g,h2,λu j t h3 b=>?_)));let(ds,e1,o):=h3;let(a,vs,rfl,sq,q):=(b.view (v:=v1) (!1) e1).list;show(a,vs,rfl,sq,λp r=>n _ _ _ _ o (b.resOw r (q.cut l u)))
def C0(hK:X.K=K)(m:PE X e (up K ta))(hl:PO X lo (upO K tlo))(n:PO X hi (upO K thi)):PE X (.Subscript e (.Slice lo hi NJ p2) pos) (up K (Gx ta tlo thi)):=(pY (Ib (K:=K) hK) m hl n).imp λσ H Q h=>by
 let(M,P,H0,σ0,env,ts,R,j,ht,o):=h;show(M,P,H0,σ0,env,ts,_,j,ht,λs1 d v1 H1 h1 f=>(M,P,H0,σ0,d,ts++[(v1,s1)],_,f,h1,λl g t h2 i=>(M,P,H0,σ0,g,ts++[(v1,s1)],_,i,h2,λu k w h3 c=>?_)));let(ds,e1,hw,r):=h3;let(a,vs,rfl,sq,q):=(c.view (v:=v1) (!1) e1).tuple;show(a,vs,rfl,sq,by rw[q.len];show hw,λp s=>o _ _ _ _ r (c.resTup s ((q.cut l u).to λb Y Y z=>by rw[ar];show eM z)))
def oX(t:DA):DE:=λenv R=>t env λss a=>∃s d ds,ss=[s]/\aC a s=NI d/\eP d=NI ds/\R (.ow ds) a
def pX(hK:X.K=K)(hg:Gl X "list")(i:X.mg "list" = none)(j:PA X [e] (upA K tl))(k:kq [e] X.env=[(false,eval e X.env)]:=by rfl):PE X (.Call (.Name "list" p) [e] [] pos) (up K (oX tl)) :=
 (iJ (F1 (K:=K) hK) hg i ll j (!2) (!2) k rfl).imp λσ H Q h=>by
 let(M,P,H0,σ0,env,ts,R,c,ht,m):=h;show(M,P,H0,σ0,env,ts,_,c,ht,λss g vs H1 h1 hl b=>?_)
 cbv;let(s,d,ds,rfl,e1,e2,n):=h1;let(v,rfl):=sB hl;let(a,us,rfl,sq,q):=(b.view (v:=v) (!1) e1).seq e2
 w_up;show(a,us,rfl,sq,λl f=>m _ _ _ _ n (b.resOw f q))
def vd(t:DA):DE:=λenv R=>t env λss a=>∃s d ds,ss=[s]/\aC a s=NI d/\eP d=NI ds/\R (.fr (.tuple ds)) a
def tO(hK:X.K=K)(hg:Gl X "tuple")(m:X.mg "tuple" = none)(n:PA X [e] (upA K tl))(o:kq [e] X.env=[(false,eval e X.env)]:=by rfl):PE X (.Call (.Name "tuple" p) [e] [] pos) (up K (vd tl)) :=
 (iJ (D3 (K:=K) hK) hg m x6 n (!2) (!2) o rfl).imp λσ H Q h=>by
 let(M,P,H0,σ0,env,ts,R,f,ht,i):=h;show(M,P,H0,σ0,env,ts,_,f,ht,λss j vs H1 h1 hl c=>?_);let(s,d,ds,rfl,e1,e2,k):=h1;let(v,rfl):=sB hl;let w:=c.view (v:=v) (!1) e1;cases d <;> simp[eP]at e2
 subst e2;let(a,us,rfl,sq,q):=w.list;show(a,us,rfl,.inl (sq,λl g=>i _ _ _ _ k (c.resTup g (q.to λb Y Y z=>by rw[ar];show eM z))));subst e2;let(a,us,rfl,sq,q):=w.tuple;show(a,us,rfl,.inr (sq,i _ _ _ _ k ?_));cases w with
 |dn dn=>show c.res (aS.refl _) dn
noncomputable def cx:Sl->Nz->Option Sl
 |.ow _,ds=>NI (.ow ds)
 |.io _,ds=>NI (.io ds)
 |_,_=>NJ
def gR:Sl->M8
 |.ow ds=>NI ds
 |.io ds=>NI ds
 |_=>NJ
def ju{s s':Sl}{l:Nz}(h:cx s l=NI s'):Bi s l s'/\gR s'=NI l:=by
 cases s with
 |ow _=>cases h;show(rfl,rfl)
 |io _=>cases h;show(rfl,rfl)
 |_=>cases h
def tx{s:Sl}{l d:Nz}(h:cx s l=NI (.io d)):∃a,s=.io a:=by
 cases s with
 |io a=>show(a,rfl)
 |_=>cases h
def pZ{s:Sl}{l:Nz}(h:gR s=NI l):cx s l=NI s/\∀a,a∈cH (NI (.ref a),s):=by
 cases s with
 |ow _=>cases h;show(rfl,λa=>IG.mpr rfl)
 |io _=>cases h;show(rfl,λa=>IG.mpr rfl)
 |_=>cases h
theorem Rel.mut{i:Nat}{s s':Sl}{ds ds':Nz}(h:Rel K M P H0 σ0 σ env ts H)(e:env[i]?=NI s)(es:cx s ds'=NI s'){a:ap}(f:σ[i]?=NI (NI (.ref a))){vs':NH}(b:DNs K (Nw M (aw σ env ts)) H vs' ds') :
  Rel K M P H0 σ0 σ (env.set i s') ts (upd H a (.lst vs')):=by
 cbv;let(x,A,B,e1,g,k):=h.split e;rw[f]at e1;cases e1
 w_up;let r:=h.e;rw[g]at r b;show(by rw[k];show r.mut (ju es).1 b,by simp[h.len],h.vw,λj c e'=>?_);by_cases hj:i=j
 .cbv;subst hj;let hi:i< -env:=(IN.mp e).1;rw[Jc hi]at e';cases e';let(d,rfl):=tx es
  w_up;show h.ios i d e
 rw[Je hj]at e';show h.ios j c e'
def Rel.mine{i:Nat}{s:Sl}{ds:Nz}(h:Rel K M P H0 σ0 σ env ts H)(e:env[i]?=NI s)(b:gR s=NI ds):∃a vs,σ[i]?=NI (NI (.ref a))/\H a=NI (.lst vs)/\DNs K (Nw M (aw σ env ts)) H vs ds:=by
 let(x,e1,m):=h.slot e;cases s with
 |ow d =>
  cbv;cases b;let(a,vs,z,c,f,_):=h.e.ow _ _ m;subst z
  w_up;show(a,vs,e1,c,f)
 |io d =>
  cbv;cases b;let(a,vs,z,c,f,_):=h.e.io _ _ m;subst z
  w_up;show(a,vs,e1,c,f)
 |_=>cases b
def Fi(i:Nat)(te:DE):DE:=λenv R=>(∃ds,(env[i]?).bind gR=NI ds)/\te env λs a=>∃d b ds s',aV a s=NI d/\a[i]?=NI b/\gR b=NI ds/\ds.length<sizeLine/\cx b (ds++[d])=NI s'/\R (.fr .none) (a.set i s')
def kJ{i:Nat}{ds:Nz}(h:(env[i]?).bind gR=NI ds):∃s,env[i]?=NI s/\gR s=NI ds:=by
 cases e:env[i]? with
 |none=>rw[e]at h;cases h
 |some s=>rw[e]at h;show(s,rfl,h)
def rE(i:Nat){y:bx}{apos cpos npos:Pos}(hK:X.K=K)(hN:X.N[i]?=some y)(u:PE X e (up K ta))
  (hv:Vis X.env.scope y:=by walk_at"v0") (hd:(y==("__debug__" : bx))=false:=by decide)
  (o:(y==("__classdict__" : bx))=false:=by decide)
  (j:kq [e] X.env=[(false,eval e X.env)]:=by rfl)
  (f:z5 (.Name y npos) "append" X.env (eval (.Name y npos) X.env)=eval (.Name y npos) X.env:=by rfl)
  (l:((ze cpos (kq [e] X.env)).all (λx=>!x.1)&&(KU cpos (KA [] X.env)).all (λx=>x.1.isSome)&&decide ([e].length+([]:NG).length+(if ([]:NG).isEmpty then 0 else 1)<30))=true:=by rfl)
  (g:(apos.endLine==cpos.line)=true:=by rfl) (c:(ze cpos (kq [] X.env)).any (·.1)=false:=by rfl) :
  PE X (.Call (.Attribute (.Name y npos) "append" apos) [e] [] cpos) (up K (Fi i ta)) :=
 (kBm (K:=K) hK gk Lo Ln lZ (bu hN hv hd o) (cB u fM j) f l g j c).imp λσ H Q h=>by
 cbv;let(M,P,H0,σ0,env,ts,R,m,((w,z),ht),A):=h;let(I,B,C):=kJ z;let(a,vs,p,D,_):=m.mine B C
 w_up;show(.ref a,p,.inl (rfl,vs,SqL.of D),M,P,H0,σ0,env,ts,_,m,ht,λs1 t v1 H1 h1 b=>?_)
 cbv;let(d,s2,ds,s',k,e2,E,hz,es,G):=h1;let(J,us,n,r,q):=b.drop.mine e2 E;rw[p]at n;cases n
 w_up;show(a,us,v1,rfl,rfl,r,by rw[q.len];show hz,?_);let dn:=b.kept (v:=v1) (s:=s1) (!1) k;show A _ _ _ _ G ((b.drop.mut (ds:=ds) e2 es p (q.app (.cons dn .nil))).addFr .non)
def Fd(i:Nat):DE:=λenv R=>∃a ds d s',env[i]?=NI a/\gR a=NI ds/\ds.getLast? = NI d/\cx a ds.dropLast=NI s'/\R (.fr d) (env.set i s')
theorem DNs.dropLast:∀{vs:NH}{ds:Nz},DNs K N H vs ds->DNs K N H vs.dropLast ds.dropLast:=λ{vs ds} q=>by
 rw[sd,sd,q.len];show q.take _
def Al(i:Nat){y:bx}{apos cpos npos:Pos}(hK:X.K=K)(hN:X.N[i]?=some y)
  (hv:Vis X.env.scope y:=by walk_at"v0") (hd:(y==("__debug__" : bx))=false:=by decide)
  (j:(y==("__classdict__" : bx))=false:=by decide)
  (b:z5 (.Name y npos) "pop" X.env (eval (.Name y npos) X.env)=eval (.Name y npos) X.env:=by rfl) (c:(apos.endLine==cpos.line)=true:=by rfl) :
  PE X (.Call (.Attribute (.Name y npos) "pop" apos) [] [] cpos) (up K (Fd i)) :=
 (He (K:=K) hK gk p7 p1 yS (bu hN hv hd j) b c).imp λσ H Q h=>by
 let(M,P,H0,σ0,env,ts,R,e,(t,ds,d,s',k,o,hl,es,p),s):=h;let(a,vs,l,n,q):=e.mine k o;let hn:-ds-1< -ds:=by
  cases ds with
  |nil=>simp at hl
  |cons z r=>simp
 rw[List.getLast?_eq_getElem?]at hl;let f:-vs-1< -vs:=by rw[q.len];show hn
 cbv;let(d',h1,dn):=q.get (IK f);rw[q.len,hl]at h1;cases h1
 w_up;show(.ref a,l,.inl (rfl,vs,SqL.of n),a,vs,vs[vs.length-1],rfl,rfl,n,IK f,?_);let g:=e.addFr dn;let m:=g.mut (ds:=ds) (vs':=vs.dropLast) (ds':=ds.dropLast) k es l (by
  let : Nw M (aw σ env (ts++[(vs[vs.length-1],Sl.fr d)]))=Nw M (aw σ env ts):=by
   rw[ar];unfold Nw;let:oas (aw σ env ts++tmp [(vs[vs.length-1],Sl.fr d)])=oas (aw σ env ts):=by
    rw[ah];let:oas (tmp [(vs[vs.length-1],Sl.fr d)])=[]:=by
     show oas [(NI vs[vs.length-1],Sl.fr d)]=[]
     rw[aj];cases vs[vs.length-1] <;> rfl
    rw[this,Jh]
   rw[this]
  rw[this];show q.dropLast)
 show s _ _ _ _ p m
end
abbrev DSp:=NA->(Sl->NA->Prop)->Prop
def ji:Sl->Bool
 |.fr _=>NK
 |.ow _=>NK
 |.tr _ _=>NK
 |_=>NL
def vS(vs:NH)(ss:NA):ap->Prop:=λa=>a∈oas (tmp (vs.zip ss))
def spD(K:ca)(sp:DSp):Sp:=λvs H Q Y=>∃(M:ap->Prop) (ss:NA) (R:Sl->NA->Prop),-vs=-ss/\aU K M (vS vs ss) H (tmp (vs.zip ss)) H/\sp ss R /\
 ∀r a v H',R r a->ji r=NK->aU K M (vS vs ss) H (tmp ((v,r)::vs.zip a)) H'->Q v H'
section
variable{K:ca}{M P N:ap->Prop}{H0 H H':Hp}{E:Nt}{σ0 σ:St}{env:NA}{ts:Ni}{v:V}{s:Sl}{d:ab}
theorem fN:∀(vs:NH) (ds:Nz),oas (tmp (vs.zip (ds.map Sl.fr)))=[]
 |[],_=>by simp[oas,tmp]
 |_::_,[]=>by simp[oas,tmp]
 |v::vs,d::ds=>by
  show oas ((NI v,Sl.fr d)::tmp (vs.zip (ds.map Sl.fr)))=[]
  rw[aj,dy,fN vs ds];rfl
def gq{vs:NH}{ds:Nz}{x:Nx}{s:Sl}(h:DNs K N H vs ds):(x,s)∈tmp (vs.zip (ds.map Sl.fr))->∃v d,x=NI v/\s=.fr d/\DN K N H v d:=DNs.ind (C:=λvs ds=>(x,s)∈tmp (vs.zip (ds.map Sl.fr))->∃v d,x=NI v/\s=.fr d/\DN K N H v d) (λm=>by simp[tmp]at m) (λ{v vs d ds} h _ i m=>by
  let m:(x,s)∈(NI v,Sl.fr d)::tmp (vs.zip (ds.map Sl.fr)):=m;rcases IR.mp m with m|m;cases m;show(v,d,rfl,rfl,h);show i m) h
inductive cI (K:ca) (N:ap->Prop) (Hc H':Hp):V->Sl->Prop
 |fr {v:V}{d:ab}:DN K N H' v d->cI K N Hc H' v (.fr d)
 |ow {a:ap}{vs:NH}{ds:Nz}:H' a=some (.lst vs)->DNs K (λb=>N b\/b=a) H' vs ds->Hc a=none->¬N a->cI K N Hc H' (.ref a) (.ow ds)
 |tr {v:V}{d:ab}{S:NE}:OT K (λb=>N b\/b∈S) H' v d S->(∀a∈S,Hc a=none/\¬N a)->S.Nodup->cI K N Hc H' v (.tr S d)
def aU.resOk{Hc:Hp}{g:ap->Prop}{r:Sl}{T:Nt}(hc:aU K N g Hc ((NI v,r)::T) H')(h:ji r=NK):cI K N Hc H' v r:=by
 cases r with
 |fr d =>
  cbv;let(w,e,dn):=hc.fr _ _ IL;cases e
  w_up;show .fr (dn.to λb Y Y z=>.inl z)
 |ow ds =>
  cbv;let(a,vs,e,c,f,hn):=hc.ow _ _ IL;cases e
  w_up;show .ow c (f.to λb Y Y z=>?_) hn λz=>hc.mt a z hn;rcases z with z|z;show .inl z;rw[z];show .inr (by rw[aj];show IJ _ (IG.mpr rfl))
 |tr S d =>
  cbv;let(w,e,ot,hn):=hc.tr _ _ _ IL;cases e
  w_up;show .tr (ot.to λb Y Y z=>?_) (λa c=>(hn a c,λz=>hc.mt a z (hn a c))) ?_;rcases z with z|z;show .inl z;show .inr (by rw[aj,aK];show IJ _ z);let nd:=hc.nd;rw[aj,aK]at nd;show(IT.mp nd).1
 |_=>cases h
theorem cI.to{Hc:Hp}{r:Sl}{e:ap->Prop}(h:cI K N Hc H' v r)(m:∀b,e b->N b):cI K e Hc H' v r:=by
 cases h with
 |fr dn=>show .fr (dn.to λb Y Y z=>m b z)
 |ow c d hn f=>show .ow c (d.to λb Y Y z=>z.elim (λz=>.inl (m b z)) .inr) hn λz=>f (m _ z)
 |tr ot hn nd=>show .tr (ot.to λb Y Y z=>z.elim (λz=>.inl (m b z)) .inr) (λa c=>((hn a c).1,λz=>(hn a c).2 (m a z))) nd
def cI.own{r:Sl}{Hc:Hp}(h:cI K N Hc H' v r):(∀b∈cH (NI v,r),Hc b=NJ/\¬N b)/\(cH (NI v,r)).Nodup:=by
 cases h with
 |fr dn=>rw[dy];show(λb a=>absurd a Jk,J4)
 |ow e c hn d=>show(λb a=>by rw[IG.mp a];show(hn,d),Jr.mpr (!1,J4))
 |tr ot hn nd=>rw[aK];show(hn,nd)
def cI.frD{d:ab}{Hc:Hp}(h:cI K N Hc H' v (.fr d)):DN K N H' v d:=by
 cases h with
 |fr dn=>show dn
def cI.owD{ds:Nz}{Hc:Hp}(h:cI K N Hc H' v (.ow ds)):∃a vs,v=.ref a/\H' a=NI (.lst vs)/\DNs K (λb=>N b\/b=a) H' vs ds/\Hc a=NJ:=by
 cases h with
 |ow d c hn e=>show(_,_,rfl,d,c,hn)
def cI.ioD{ds:Nz}{Hc:Hp}(h:cI K N Hc H' v (.io ds)):False:=by cases h
def cI.trD{d:ab}{S:NE}{Hc:Hp}(h:cI K N Hc H' v (.tr S d)):OT K (λb=>N b\/b∈S) H' v d S/\∀a∈S,Hc a=NJ/\¬N a:=by
 cases h with
 |tr ot hn nd=>show(ot,hn)
def aU.getRes{r:Sl}(h:aU K M P H0 E H'){Hc:Hp}(j:∀b,H0 b≠NJ->Hc b≠NJ)(f:cI K (Nw M E) Hc H' v r)
  (frs:∀x d,(x,Sl.fr d)∈E->∃w,x=NI w/\DN K (λb=>Nw M E b\/(b∈cH (NI v,r)/\Hc b=NJ)) H' w d)
  (k:∀x s ds,(x,s)∈E->gR s=NI ds->∃a vs,x=NI (.ref a)/\H' a=NI (.lst vs)/\DNs K (λb=>Nw M E b\/(b∈cH (NI v,r)/\Hc b=NJ)) H' vs ds)
  (ots:∀x S d,(x,Sl.tr S d)∈E->∃w,x=NI w/\OT K (λb=>Nw M E b\/(b∈cH (NI v,r)/\Hc b=NJ)) H' w d S):aU K M P H0 (E++[(NI v,r)]) H':=by
 let(i,l):=f.own;let y:oas (E++[(NI v,r)])=oas E++cH (NI v,r):=by rw[ah,aj];simp[oas]
 let up:∀b,Nw M (E++[(NI v,r)]) b->Nw M E b\/b∈cH (NI v,r):=λb z=>by
  rcases z with z|z;show .inl (.inl z);rw[y]at z;rcases II.mp z with z|z;show .inl (.inr z);show .inr z
 let g:∀b,Nw M (E++[(NI v,r)]) b->Nw M E b\/(b∈cH (NI v,r)/\Hc b=NJ):=λb z=>(up b z).elim .inl λz=>.inr (z,(i b z).1);let A:∀b,Hc b=NJ->H0 b=NJ:=λb hn=>by
  cases e:H0 b with
  |none=>rfl
  |some o=>show absurd hn (j b (by rw[e];simp))
 show(h.keep,h.live,h.mt,h.pm,λx d' m=>?_,λx d' m=>?_,λx d' m=>?_,λx S d' m=>?_,?_);rcases II.mp m with m|m;let(w,e,dn):=frs x d' m;show(w,e,dn.to λb Y Y z=>g b z);rw[IG]at m;let(e1,rfl):=ir m;show(v,e1,f.frD.to λb Y Y z=>(up b z).elim id λz=>by rw[dy]at z;show absurd z Jk)
 .rcases II.mp m with m|m
  .cbv;let(b,us,e,e2,dn):=k x _ d' m rfl;let(B,n,e',p,_,r):=h.ow x d' m;rw[e]at e';cases e'
   w_up;show(b,us,e,e2,dn.to λb Y Y z=>g b z,r)
  rw[IG]at m;let(e1,rfl):=ir m;let(a,us,rfl,q,t,hn):=f.owD;show(a,us,e1,q,t.to λb Y Y z=>(up b z).elim .inl λz=>.inr (IG.mp z),A _ hn)
 .rcases II.mp m with m|m
  .cbv;let(b,us,e,e2,dn):=k x _ d' m rfl;let(B,n,e',p,_,r):=h.io x d' m;rw[e]at e';cases e'
   w_up;show(b,us,e,e2,dn.to λb Y Y z=>g b z,r)
  rw[IG]at m;let(e1,rfl):=ir m;show f.ioD.elim
 rcases II.mp m with m|m;let(w,e,dn):=ots x S d' m;let(w',e',_,r):=h.tr x S d' m;show(w,e,dn.to λb Y Y z=>g b z,r);rw[IG]at m;let(e1,rfl):=ir m;show(v,e1,f.trD.1.to λb Y Y z=>(up b z).elim .inl λz=>.inr (by rw[aK]at z;show z),λa q=>A _ (f.trD.2 a q).1);rw[y];show IT.mpr (h.nd,l,λb C c u z=>(i c u).2 (.inr (z▸C)))
def DN.past{Hc:Hp}{a:ap->Prop}(h:DN K N Hc v d)(f:∀b,a b->N b\/Hc b=NJ){c:ap->Prop}(k:aO c Hc H')(g:∀b,c b->a b):DN K a H' v d :=
 (h.to λb o e z=>(f b z).elim id λz=>by rw[z]at e;cases e).keep (k.mono g)
def DNs.past{Hc:Hp}{a:ap->Prop}{vs:NH}{ds:Nz}(h:DNs K N Hc vs ds)(d:∀b,a b->N b\/Hc b=NJ){c:ap->Prop}(k:aO c Hc H')(f:∀b,c b->a b):DNs K a H' vs ds :=
 (h.to λb o e z=>(d b z).elim id λz=>by rw[z]at e;cases e).keep (k.mono f)
def OT.past{Hc:Hp}{c:ap->Prop}{S:NE}(h:OT K N Hc v d S)(i:∀b,c b->N b\/Hc b=NJ){f:ap->Prop}(k:aO f Hc H')(j:∀b,f b->c b)(hs:∀b∈S,¬f b):OT K c H' v d S :=
 (h.to λb o e z=>(i b z).elim id λz=>by rw[z]at e;cases e).keep (k.mono j) λa g=>by
  let(xs,z):=h.lives a g;rw[k _ _ (hs a g) z,z]
def aU.called{r:Sl}(h:aU K M P H0 E H)(k:aS H H')(c:cI K (Nw M E) H H' v r):aU K M P H0 (E++[(NI v,r)]) H':=by
 show(h.same k).getRes h.live c (λx d m=>?_) (λx s ds m f=>?_) λx S d m=>?_
 rotate_right
 let(w,e,dn,_):=h.tr x S d m;show(w,e,dn.past (λb z=>z.elim .inl λz=>.inr z.2) (aO.same (N:=N0) k) (λb z=>z.elim) λb Y z=>z.elim);let(w,e,dn):=h.fr x d m;show(w,e,dn.past (λb z=>z.elim .inl λz=>.inr z.2) (aO.same (N:=N0) k) λb z=>z.elim)
 .cases s with
  |ow l =>
   cbv;cases f;let(a,vs,e,e2,dn,_):=h.ow x _ m
   w_up;show(a,vs,e,k _ _ e2,dn.past (λb z=>z.elim .inl λz=>.inr z.2) (aO.same (N:=N0) k) λb z=>z.elim)
  |io l =>
   cbv;cases f;let(a,vs,e,e2,dn,_):=h.io x _ m
   w_up;show(a,vs,e,k _ _ e2,dn.past (λb z=>z.elim .inl λz=>.inr z.2) (aO.same (N:=N0) k) λb z=>z.elim)
  |_=>cases f
def Rel.withRes{r:Sl}(h:Rel K M P H0 σ0 σ env ts H)(e:aU K M P H0 (aw σ env ts++[(NI v,r)]) H')(a:ji r=NK):Rel K M P H0 σ0 σ env (ts++[(v,r)]) H' :=
  (by rw[ar];show e,h.len,(λw i m=>by
    rcases II.mp m with m|m;show h.vw w i m;rw[IG]at m;cases m;cases a),h.ios)
def vp(sp:DSp)(t:DA):DE:=λenv R=>t env λss a=>∃ds,aN a ss=NI ds/\sp (ds.map .fr) (dK (λr Y=>R r a) ⟨⟩)
def mZ{M':ap->Prop}{vs:NH}{ds:Nz}(c:DNs K M' H vs ds)(f:∀a,M' a->H a≠NJ):aU K M' (vS vs (ds.map .fr)) H (tmp (vs.zip (ds.map .fr))) H:=by
 let e:=fN vs ds;let ne:∀b,Nw M' (tmp (vs.zip (ds.map .fr))) b->M' b:=λb z=>z.elim id λz=>by rw[e]at z;cases z
 show(aO.refl,λa q=>q,f,λa z=>?_,λx d m=>?_,λx l m=>?_,λx l m=>?_,λx S l m=>?_,by rw[e];show J4)
 rotate_right
 let(w,d',e1,e2,dn):=gq c m;cases e2;let z:a∈oas (tmp (vs.zip (ds.map .fr))):=z;rw[e]at z;cases z
 .cbv;let(w,d',e1,e2,dn):=gq c m;cases e2
  w_up;show(w,e1,dn.to λb Y Y z=>ne b z)
 let(w,d',e1,e2,dn):=gq c m;cases e2;let(w,d',e1,e2,dn):=gq c m;cases e2
def B4{sp:DSp}{tl:DA}:∀σ H Q,up K (vp sp tl) σ H Q->nq (spD K sp) [] E0 (upA K tl) σ H Q:=λσ H Q h=>by
 let(M,P,H0,σ0,env,ts,R,i,ht,m):=h;show(M,P,H0,σ0,env,ts,_,i,ht,λss d vs H1 h1 hl c=>?_);let(ds,n,j):=h1;rw[Jh];let g:=c.keptAll hl (λp o=>o) n;let q:=fN vs ds;show(Nw M (aw σ d ts),ds.map .fr,λr Y=>R r d,by simp[g.len],mZ g λa z hn=>c.drop.newAddr hn z,j,λr s v H' t l f=>m _ _ _ _ t ?_);let k:aS H1 H':=(f.keep.mono (M:=N0) λb z=>by
  let z:b∈oas (tmp (vs.zip (ds.map .fr))):=z;rw[q]at z;cases z).none
 show(c.drop).withRes (c.drop.e.called k (f.resOk l)) l
end
section
variable{K:ca}{M P:ap->Prop}{H0 H H':Hp}{E A B:Nt}{σ0 σ:St}{env:NA}{ts tt:Ni}{v:V}{s:Sl}{d:ab}
def d4(t:V×Sl)(ts:Ni):tmp (t::ts)=(NI t.1,t.2)::tmp ts:=rfl
def ni(ts tt:Ni):tmp (ts++tt)=tmp ts++tmp tt:=by simp[tmp]
theorem kR{α β:Type}:∀{l1:List α}{m1:List β} (x:α) (y:β) (l2:List α) (m2:List β),-l1=-m1->(l1++x::l2).zip (m1++y::m2)=l1.zip m1++(x,y)::l2.zip m2
 |[],[],_,_,_,_,_=>rfl
 |a::l1,b::m1,x,y,l2,m2,h=>by
  show(a,b)::(l1++x::l2).zip (m1++y::m2)=_;rw[kR x y l2 m2 (by simpa using h)];rfl
 |[],_::_,_,_,_,_,h=>by simp at h
 |_::_,[],_,_,_,_,h=>by simp at h
def zC{M':ap->Prop}{v1 c us:NH}{d1 d2 l:Nz}{a:ap}(f:DNs K M' H v1 d1)(i:DNs K M' H c d2)(j:∀a,M' a->H a≠NJ)(g:M' a)(k:H a=NI (.lst us))(n:DNs K M' H us l) :
  oas (tmp ((v1++.ref a::c).zip (d1.map .fr++.io l::d2.map .fr)))=[a] /\
  aU K M' (vS (v1++.ref a::c) (d1.map .fr++.io l::d2.map .fr)) H (tmp ((v1++.ref a::c).zip (d1.map .fr++.io l::d2.map .fr))) H:=by
 let h:(v1++.ref a::c).zip (d1.map Sl.fr++.io l::d2.map .fr)=v1.zip (d1.map .fr)++(.ref a,.io l)::c.zip (d2.map .fr):=kR _ _ _ _ (by simp[f.len]);let e:oas (tmp ((v1++.ref a::c).zip (d1.map .fr++.io l::d2.map .fr)))=[a]:=by rw[h,ni,d4,ah,aj,fN,fN];rfl
 let ne:∀b,Nw M' (tmp ((v1++.ref a::c).zip (d1.map .fr++.io l::d2.map .fr))) b->M' b:=λb z=>z.elim id λz=>by rw[e,IG]at z;rw[z];show g
 let cs:∀x s,(x,s)∈tmp ((v1++.ref a::c).zip (d1.map .fr++.io l::d2.map .fr))->(∃w d,x=NI w/\s=.fr d/\DN K M' H w d)\/(x=NI (.ref a)/\s=.io l):=λx s m=>by
  rw[h,ni,d4]at m;rcases II.mp m with m|m;show .inl (gq f m);rcases IR.mp m with m|m;cases m;show .inr (rfl,rfl);show .inl (gq i m)
 show(e,aO.refl,λa q=>q,j,λb z=>?_,λx d m=>?_,λx l' m=>?_,λx l' m=>?_,λx S l' m=>?_,by rw[e];simp)
 rotate_right
 rcases cs x _ m with⟨w,d',e1,e2,dn⟩|⟨_,e2⟩
 cases e2;cases e2;let z:b∈oas (tmp ((v1++.ref a::c).zip (d1.map .fr++.io l::d2.map .fr))):=z;rw[e,IG]at z;rw[z];show g;rcases cs x _ m with⟨w,d',e1,e2,dn⟩|⟨_,e2⟩
 cases e2;show(w,e1,dn.to λb Y Y z=>ne b z);cases e2;rcases cs x _ m with⟨w,d',e1,e2,dn⟩|⟨_,e2⟩
 cases e2;cases e2;rcases cs x _ m with⟨w,d',e1,e2,dn⟩|⟨e1,e2⟩
 cases e2;cases e2;show(a,us,e1,k,n.to λb Y Y z=>ne b z,by show a∈oas _;rw[e];simp)
def aU.lost{a:ap}{l:Nz}(h:aU K M P H0 (E++[(NI (.ref a),.ow l)]) H)(k:aO (λb=>b=a) H H')(t:∀b,H b≠NJ->H' b≠NJ):aU K M P H0 E H' /\
  (∀x d,(x,Sl.fr d)∈E->∃w,x=NI w/\∀c:ap->Prop,(∀b,c b->Nw M (E++[(NI (.ref a),.ow l)]) b\/H b=NJ)->c a->DN K c H' w d) /\
  (∀x s ds,(x,s)∈E->gR s=NI ds->∃b vs,x=NI (.ref b)/\H' b=NI (.lst vs)/\∀c:ap->Prop,(∀b,c b->Nw M (E++[(NI (.ref a),.ow l)]) b\/H b=NJ)->c a->DNs K c H' vs ds) /\
  (∀x S d,(x,Sl.tr S d)∈E->∃w,x=NI w/\∀c:ap->Prop,(∀b,c b->Nw M (E++[(NI (.ref a),.ow l)]) b\/H b=NJ)->c a->OT K c H' w d S):=by
 let p:oas (E++[(NI (.ref a),Sl.ow l)])=oas E++[a]:=by rw[ah];rfl
 let nd:=h.nd;rw[p]at nd
 cbv;let(u,_,y):=IT.mp nd;let na:Nw M (E++[(NI (.ref a),Sl.ow l)]) a:=.inr (by rw[p];simp);let(_,_,z,_,_,A):=h.ow _ _ (IE _ IL);cases z
 w_up;let sub:∀b,Nw M E b->Nw M (E++[(NI (.ref a),Sl.ow l)]) b:=λb z=>eM z;let j:∀b,b=a->Nw M (E++[(NI (.ref a),Sl.ow l)]) b:=λb z=>by rw[z];show na
 let other:∀b x s,(x,s)∈E->b∈cH (x,s)->b≠a:=λb x s m i z=>y b (aT.mpr (_,m,i)) a (!1) z;show((?_,λb q=>t b (h.live b q),h.mt,h.pm,λx d m=>?_,λx d m=>?_,λx d m=>?_,λx S d m=>?_,u),λx d m=>?_,λx s ds m i=>?_,λx S d m=>?_)
 rotate_right
 let(v,e,dn,r):=h.tr x S d (IJ _ m);subst e;show(v,rfl,λc g f=>dn.past g k (λb z=>by rw[z];show f) λb n z=>other b _ _ m (by rw[aK];show n) z)
 rotate_right 3
 let(v,e,dn,r):=h.tr x S d (IJ _ m);subst e;show(v,rfl,(dn.keep (k.mono j) λb n=>?_).to λb Y Y z=>sub b z,r);let(xs,z):=dn.lives b n;rw[k _ _ (other b _ _ m (by rw[aK];show n)) z,z]
 rotate_left 2
 intro b o B e;show k b o (λz=>?_) (h.keep b o B e);rw[z,A]at e;cases e;let(v,e,dn):=h.fr x d (IJ _ m);show(v,e,(dn.keep (k.mono j)).to λb Y Y z=>sub b z);let(b,us,e,e2,dn,r):=h.ow x d (IJ _ m);subst e;show(b,us,rfl,k _ _ (other b _ _ m (IG.mpr rfl)) e2,(dn.keep (k.mono j)).to λb Y Y z=>sub b z,r);let(b,us,e,e2,dn,r):=h.io x d (IJ _ m);subst e;show(b,us,rfl,k _ _ (other b _ _ m (IG.mpr rfl)) e2,(dn.keep (k.mono j)).to λb Y Y z=>sub b z,r);let(v,e,dn):=h.fr x d (IJ _ m);show(v,e,λc g f=>dn.past g k λb z=>by rw[z];show f)
 .cases s with
  |ow l' =>
   cbv;cases i;let(b,us,e,e2,dn,r):=h.ow x _ (IJ _ m);subst e
   w_up;show(b,us,rfl,k _ _ (other b _ _ m (IG.mpr rfl)) e2,λc g f=>dn.past g k λb z=>by rw[z];show f)
  |io l' =>
   cbv;cases i;let(b,us,e,e2,dn,r):=h.io x _ (IJ _ m);subst e
   w_up;show(b,us,rfl,k _ _ (other b _ _ m (IG.mpr rfl)) e2,λc g f=>dn.past g k λb z=>by rw[z];show f)
  |_=>cases i
def qR(sp:DSp)(t:DA):DE:=λenv R=>t env λss a=>∃l b ds,ss=.ow l::b/\aN a b=NI ds/\sp (.io l::ds.map .fr) (dK (λr Y=>R r a) ⟨⟩)
def yg{sp:DSp}{tl:DA}:∀σ H Q,up K (qR sp tl) σ H Q->nq (spD K sp) [] E0 (upA K tl) σ H Q:=λσ H Q h=>by
 let(M,P,H0,σ0,env,ts,R,A,ht,L):=h;show(M,P,H0,σ0,env,ts,_,A,ht,λss c vs H1 h1 hl o=>?_);let(l,B,ds,rfl,N,C):=h1;rw[Jh]
 cbv;let(v1,vs',rfl):=FY hl;let i:Rel K M P H0 σ0 σ c ((ts++[(v1,.ow l)])++vs'.zip B) H1:=by simpa using o
 let n:=i.keptAll (by simpa using hl) (λp O=>O) N;let g:=i.drop;let q:=g.e;rw[ar]at q;let(a,us,T,U,V,h0):=q.ow (NI v1) l (IE _ (by simp[tmp]));cases T
 w_up;let q:aU K M P H0 (aw σ c ts++[(NI (.ref a),.ow l)]) H1:=q;let t:Nw M (aw σ c (ts++[(.ref a,.ow l)]))=Nw M (aw σ c ts++[(NI (.ref a),.ow l)]):=by rw[ar];rfl
 rw[t]at n;let G:Nw M (aw σ c ts++[(NI (.ref a),.ow l)]) a:=.inr (by rw[ah];show IE _ (aT.mpr (_,IG.mpr rfl,IG.mpr rfl)));let u:=zC (v1:=[]) (d1:=[]) (l:=l) (us:=us) (a:=a) (K:=K) (M':=Nw M (aw σ c ts++[(NI (.ref a),.ow l)])) (H:=H1) .nil n (λb z hn=>g.newAddr hn (by rw[t];show z)) G U V;show(_,.io l::ds.map .fr,λr _=>R r c,by simp[n.len],u.2,C,λr W v H' X I j=>L _ _ _ _ X ?_);let k:aO (λb=>b=a) H1 H':=j.keep.mono λb z=>by
  let z:b∈oas (tmp ((.ref a::vs').zip (.io l::ds.map .fr))):=z;let J:=u.1;simp only[Kt,J5]at J;rw[J,IG]at z;show z
 let(y,Y,Z,f3):=q.lost k j.live;let rk:=j.resOk I;let D:cI K (Nw M (aw σ c ts)) H1 H' v r:=rk.to λb z=>eM z;let E:∀b,((Nw M (aw σ c ts) b\/(b∈cH (NI v,r)/\H1 b=NJ))\/b=a)->Nw M (aw σ c ts++[(NI (.ref a),.ow l)]) b\/H1 b=NJ:=λb z=>by
  rcases z with (z|z)|z;show .inl (eM z);show .inr z.2;rw[z];show .inl G
 show g.drop.withRes ?_ I;show y.getRes g.e.live D (λx d m=>?_) (λx s ds' m eo=>?_) λx S d m=>?_
 rotate_right
 let(w,e,f):=f3 x S d m;show(w,e,(f (λb=>(Nw M (aw σ c ts) b\/(b∈cH (NI v,r)/\H1 b=NJ))\/b=a) E (.inr rfl)).to λb _ _ z=>.inl z);let(w,e,f):=Y x d m;show(w,e,(f (λb=>(Nw M (aw σ c ts) b\/(b∈cH (NI v,r)/\H1 b=NJ))\/b=a) E (.inr rfl)).to λb _ _ z=>.inl z);let(b,F,e,e2,f):=Z x s ds' m eo;show(b,F,e,e2,(f (λb=>(Nw M (aw σ c ts) b\/(b∈cH (NI v,r)/\H1 b=NJ))\/b=a) E (.inr rfl)).to λb _ _ z=>.inl z)
def mH(sp:DSp)(m:Nat)(t:DA):DE:=λenv R=>t env λss a=>∃i b l d1 d2,ss[m]?=NI (.vw i)/\a[i]?=NI b/\gR b=NI l/\aN a (ss.take m)=NI d1/\aN a (ss.drop (m+1))=NI d2 /\
 sp (d1.map .fr++.io l::d2.map .fr) (dK (λr c=>∃l' s',c[m]?=NI (.io l')/\cx b l'=NI s'/\R r (a.set i s')) ⟨⟩)
def v9{α β:Type}(l:List α)(m:List β)(n:Nat):∀p∈(l.take n).zip (m.take n),p∈l.zip m:=λp a=>by
 rw[sn,<-List.take_zipWith]at a;show L6 a
def xS{α β:Type}(l:List α)(m:List β)(n:Nat):∀p∈(l.drop n).zip (m.drop n),p∈l.zip m:=λp a=>by
 rw[sn,<-List.drop_zipWith]at a;show L7 a
def ED{α:Type}{l:List α}{m:Nat}{x:α}(h:l[m]?=NI x):l=l.take m++x::l.drop (m+1):=by let(a,e):=IN.mp h;rw[<-e,List.getElem_cons_drop,r3]
def yh{sp:DSp}{m:Nat}{tl:DA}:∀σ H Q,up K (mH sp m tl) σ H Q->nq (spD K sp) [] E0 (upA K tl) σ H Q:=λσ H Q h=>by
 let(M,P,H0,σ0,env,ts,R,a4,ht,hq):=h;show⟨M,P,H0,σ0,env,ts,_,a4,ht,λss f vs H1 h1 hl n=>?_⟩;let(i,L,l,d1,d2,em,N,O,k1,k2,a5):=h1;rw[Jh];let c:=n.drop;let(a,us,ea,hH,ql):=c.mine N O;let hm:m< -ss:=(IN.mp em).1;let a6:m< -vs:=!0
 let va:vs[m]?=NI (.ref a):=by
  let mz:(Pm (vs[m]) (ss[m]))∈vs.zip ss:=by
   let hz:m<(vs.zip ss).length:=by rw[JZ];lia
   let:=Ju hz;rwa [J3]at this
  rw[(IN.mp em).2]at mz;let q:=n.vw _ _ (IE _ mz);rw[ea]at q;rw[IK a6];show congrArg NI (di (di q)).symm
 let ev:=ED va;let q1:=n.keptAll (vs:=vs.take m) (ss:=ss.take m) (by simp;lia) (v9 _ _ _) k1;let q2:=n.keptAll (vs:=vs.drop (m+1)) (ss:=ss.drop (m+1)) (by simp;lia) (xS _ _ _) k2;let D:=c.e;let ma:Nw M (aw σ f ts) a:=by
  cbv;let(x,e1,g):=c.slot N;rw[ea]at e1;cases e1
  w_up;show .inr (aT.mpr ⟨_,g,?_⟩);show(pZ O).2 a
 let E:=zC (l:=l) (us:=us) (a:=a) q1 q2 (λb z hn=>c.newAddr hn z) ma hH ql;rw[<-ev]at E;let b5:=q1.len;let b6:=q2.len;show⟨_,d1.map .fr++.io l::d2.map .fr,_,?_,E.2,a5,λr F v H' hR hr o=>?_⟩;rw[ev];simp only[Jg,Jf,IF];lia;let(l',s',e2,es,hR):=hR;show hq _ _ _ _ hR ?_;let k:aO (λb=>b=a) H1 H':=o.keep.mono λb z=>by
  let z:b∈oas (tmp (vs.zip (d1.map .fr++.io l::d2.map .fr))):=z;rw[E.1,IG]at z;show z
 let mp:((Pm (NI (.ref a)) (.io l')):Ent)∈tmp ((Pm v r)::vs.zip F):=by
  rw[d4];show IM _ (IZ.mpr ⟨(Pm (.ref a) (.io l')),?_,rfl⟩);let h2:m< -F:=(IN.mp e2).1;let hz:m<(vs.zip F).length:=by rw[JZ];lia
  let:=Ju hz;rw[J3,(IN.mp va).2,(IN.mp e2).2]at this;show this
 cbv;let(a',T,z,U,V,_):=o.io _ _ mp;cases z;let(x,A,B,e3,u,G):=c.split N;rw[ea]at e3;cases e3
 w_up;let s:Bi L l' s':=(ju es).1;rw[u]at D;let a7:DNs K (Nw M (A++(Pm (NI (.ref a)) L)::B)) H' T l':=V.to λb _ _ z=>.inl (by rw[u];show z);let hM:=D.muted s k o.live U a7;let y:Nw M (aw σ (f.set i s') ts)=Nw M (aw σ f ts):=by
  rw[u,G];let oa:cH (Pm (NI (.ref a)) L)=[a]/\cH (Pm (NI (.ref a)) s')=[a]:=by show fU s
  unfold Nw;rw[ah,ah,aj,aj,oa.1,oa.2]
 rw[<-G]at hM;let rk:cI K (Nw M (aw σ (f.set i s') ts)) H1 H' v r:=by rw[y];show o.resOk hr
 let W:Rel K M P H0 σ0 σ (f.set i s') ts H':=⟨hM,by simp[c.len],c.vw,λj X e'=>by
  by_cases hj:i=j
  .cbv;subst hj;let hi:i< -f:=(IN.mp N).1;rw[Jc hi]at e';cases e';let(b0,rfl):=tx es
   w_up;show c.ios i b0 N
  rw[Je hj]at e';show c.ios j X e'⟩
 show W.withRes ?_ hr;let I:∀x t,(Pm x t)∈aw σ (f.set i s') ts->(Pm x t)=(Pm (NI (.ref a)) s')\/((Pm x t)∈A\/(Pm x t)∈B):=λx t m=>by
  rw[G]at m;rcases II.mp m with m|m;show .inr (.inl m);rcases IR.mp m with m|m;show .inl m;show .inr (.inr m)
 let p:∀x t,(Pm x t)∈A\/(Pm x t)∈B->(Pm x t)∈A++(Pm (NI (.ref a)) L)::B:=λx t m=>by
  rcases m with m|m;show IJ _ m;show IE _ (IM _ m)
 let Y:∀b,(Nw M (aw σ (f.set i s') ts) b\/(b∈cH (Pm (NI v) r)/\H1 b=NJ))->Nw M (A++(Pm (NI (.ref a)) L)::B) b\/H1 b=NJ:=λb z=>by
  rw[y,u]at z;show z.elim .inl λz=>.inr z.2
 let Z:∀b,b=a->(Nw M (aw σ (f.set i s') ts) b\/(b∈cH (Pm (NI v) r)/\H1 b=NJ)):=λb z=>by rw[z,y];show .inl ma
 let b1:cH (Pm (NI (.ref a)) L)=[a]:=(fU s).1;let nd:=D.nd;rw[ah,aj,b1]at nd;let(_,b2,b3):=IT.mp nd;let(b4,_):=Jr.mp b2;let other:∀x t b,(Pm x t)∈A\/(Pm x t)∈B->b∈cH (Pm x t)->b≠a:=λx t b m O z=>by
  subst z;rcases m with m|m;show b3 b (aT.mpr ⟨_,m,O⟩) b IL rfl;show b4 (aT.mpr ⟨_,m,O⟩)
 show hM.getRes c.e.live rk (λx d g=>?_) (λx t ds' g C=>?_) λx S d g=>?_
 rotate_right
 rcases I _ _ g with g|g;rcases cM s with⟨_,_,e⟩|⟨_,_,e⟩ <;> (rw[e]at g;cases g)
 let(w,e,dn,_):=D.tr x S d (p _ _ g);subst e;show⟨w,rfl,dn.past Y k Z λb hb z=>other _ _ b g (by rw[aK];show hb) z⟩;rcases I _ _ g with g|g;rcases cM s with⟨_,_,e⟩|⟨_,_,e⟩ <;> (rw[e]at g;cases g)
 let(w,e,dn):=D.fr x d (p _ _ g);show⟨w,e,dn.past Y k Z⟩
 .rcases I _ _ g with g|g
  .cbv;cases g;let el:ds'=l':=di (C.symm.trans (ju es).2);subst el
   w_up;show⟨a,T,rfl,U,V.to λb _ _ z=>?_⟩;rcases z with z|z;show .inl (by rw[<-y];show z);show .inr (by rw[d4,aj];show IJ _ z.1)
  .cases t with
   |ow l2 =>
    cbv;cases C;let(b,us2,e,J,dn,_):=D.ow x _ (p _ _ g);subst e
    w_up;show⟨b,us2,rfl,k _ _ (other _ _ b g (IG.mpr rfl)) J,dn.past Y k Z⟩
   |io l2 =>
    cbv;cases C;let(b,us2,e,J,dn,_):=D.io x _ (p _ _ g);subst e
    w_up;show⟨b,us2,rfl,k _ _ (other _ _ b g (IG.mpr rfl)) J,dn.past Y k Z⟩
   |_=>cases C
end
structure gx where
 nx : NA->Prop
 rt : Sl->NA->Prop
 bk : NA->Prop:=λ_=>False
 ct : NA->Prop:=λ_=>False
abbrev DS:=gx->NA->Prop
def yl(ts:Ni):Prop:=∀v i,(v,Sl.vw i) ∉ ts
structure EO(K:ca)(M P:ap->Prop)(H0:Hp)(σ0:St)(ts:Ni)(DD:gx)(D:zH):Prop where
 nx : ∀σ' env' H',DD.nx env'->Rel K M P H0 σ0 σ' env' ts H'->D.nx σ' H'
 rt : ∀s env' v σ' H',DD.rt s env'->Rel K M P H0 σ0 σ' env' (ts++[(v,s)]) H'->D.rt v H'
 bk : ∀σ' env' H',DD.bk env'->Rel K M P H0 σ0 σ' env' ts H'->D.bk σ' H'
 ct : ∀σ' env' H',DD.ct env'->Rel K M P H0 σ0 σ' env' ts H'->D.ct σ' H'
inductive upS (K:ca) (t:DS) (D:zH) (σ:St) (H:Hp):Prop
 |mk (M P:ap->Prop) (H0:Hp) (σ0:St) (env:NA) (ts:Ni) (DD:gx):yl ts->Rel K M P H0 σ0 σ env ts H->t DD env->EO K M P H0 σ0 ts DD D->upS K t D σ H
def PS.imp{X:Cx}{e:Stmt}{t t':TS}(h:PS X e t)(k:∀D σ H,t' D σ H->t D σ H):PS X e t':=λpins s σ H D I hw=>h pins s σ H D I (k D σ H hw)
def PSs.imp{X:Cx}{e:Nn}{t t':TS}(h:PSs X e t)(k:∀D σ H,t' D σ H->t D σ H):PSs X e t':=λpins s σ H D I hw=>h pins s σ H D I (k D σ H hw)
section
variable{K:ca}{M P:ap->Prop}{H0 H:Hp}{σ0 σ:St}{env:NA}{ts tt:Ni}{v:V}{s:Sl}{d:ab}
def gP(env:NA):Sl->Option Sl
 |.fr d=>NI (.fr d)
 |.ow ds=>NI (.ow ds)
 |.tr S d=>NI (.tr S d)
 |.vw i=>((env[i]?).bind slK).map .fr
 |_=>NJ
def Rel.unVw(h:Rel K M P H0 σ0 σ env (ts++[(v,s)]) H){s':Sl}(e:gP env s=NI s'):Rel K M P H0 σ0 σ env (ts++[(v,s')]) H/\ji s'=NK:=by
 cases s with
 |fr d=>cases e;show(h,rfl)
 |ow ds=>cases e;show(h,rfl)
 |tr S d=>cases e;show(h,rfl)
 |vw i =>
  let e:((env[i]?).bind slK).map Sl.fr=NI s':=e;cases q:(env[i]?).bind slK with
  |none=>rw[q]at e;cases e
  |some d =>
   rw[q]at e;cases e;show(h.drop.addFr (h.kept (tt:=[(v,.vw i)]) (s:=.vw i) (!1) q),rfl)
 |_=>cases e
def vX{σ:St}{env:NA}{i:Nat}{x:Nx}{s':Sl}:(σ.set i x).zip (env.set i s')=(σ.zip env).set i (x,s'):=by
 apply v3;intro j;rw[dG];by_cases hj:i=j;subst hj;rw[Ke,Ke,Ke,dG];cases σ[i]? <;> cases env[i]? <;> rfl
 rw[Je hj,Je hj,Je hj,dG]
def Rel.store(h:Rel K M P H0 σ0 σ env (ts++[(v,s)]) H)(nv:yl ts){i:Nat}(hi:i< -env)(hs:ji s=NK):Rel K M P H0 σ0 (σ.set i (NI v)) (env.set i s) ts H:=by
 let b:i<(σ.zip env).length:=by rw[JZ,h.len];lia
 let(A,B,c,d):=fP (IK b);show(?_,by simp[h.len],λw j m=>absurd m (nv w j),λj ds e=>?_);let a:=h.e;unfold aw at a ⊢;rw[c,ni,JE]at a;rw[vX,d,JE];let e2:((σ.zip env)[i]::B)++(tmp ts++tmp [(v,s)])=(σ.zip env)[i]::((B++tmp ts)++[(NI v,s)]):=by simp[tmp]
 rw[e2]at a;let:=a.move;simpa using this
 .by_cases hj:i=j
  .cbv;subst hj;rw[Jc hi]at e;cases e
   w_up;cases hs
  rw[Je hj]at e;rw[Je hj];show h.ios j ds e
end
section
variable{X:Cx}{K:ca}{pos:Pos}{st:Stmt}{rest a b:Nn}{t u:DS}{e c:bb}{te:DE}{tc:DT}
def BP:DS:=λDD env=>DD.nx env
def Ex(t u:DS):DS:=λDD env=>t { DD with nx:=u DD } env
def Ix(t u:DS):DS:=λDD env=>∃R:NA->Prop,t { DD with nx:=dI R ⟨⟩ } env/\∀env',R env'->u DD env'
def br:PSs X [] (upS K BP):=tV.imp λD σ H h=>by
 let(M,P,H0,σ0,env,ts,DD,nv,a,ht,ok):=h;show ok.nx _ _ _ ht a
def bc(h1:PS X st (upS K t))(h2:PSs X rest (upS K u)):PSs X (st::rest) (upS K (Ex t u)):=(gW h1 h2).imp λD σ H h=>by
 let(M,P,H0,σ0,env,ts,DD,nv,a,ht,ok):=h;show(M,P,H0,σ0,env,ts,_,nv,a,ht,(λσ' env' H' q r=>(M,P,H0,σ0,env',ts,DD,nv,r,q,ok),ok.rt,ok.bk,ok.ct))
def pV(h1:PS X st (upS K t))(h2:PSs X rest (upS K u)):PSs X (st::rest) (upS K (Ix t u)):=(Ax h1 h2).imp λD σ H h=>by
 let(M,P,H0,σ0,env,ts,DD,nv,a,(R,ht,b),ok):=h;show(λσ' H'=>∃env',R env'/\Rel K M P H0 σ0 σ' env' ts H',(M,P,H0,σ0,env,ts,_,nv,a,ht,(λσ' env' H' q r=>(env',q,r),ok.rt,ok.bk,ok.ct)),
  λσ' H' ⟨env',q,r⟩=>(M,P,H0,σ0,env',ts,DD,nv,r,b env' q,ok))
def af(h1:PS X st (upS K t)):PSs X [st] (upS K t):=j6 h1
def BY:DS:=λDD env=>DD.ct env
def rD:PS X (.Continue pos) (upS K BY):=om.imp λD σ H h=>by
 let(M,P,H0,σ0,env,ts,DD,nv,a,ht,ok):=h;show ok.ct _ _ _ ht a
def vn(te:DE):DS:=λDD env=>te env λY a=>DD.nx a
def eL(d:PE X e (up K te))(hs:Qn e none pos.line X.env=pure false:=by rfl):PS X (.Expr e pos) (upS K (vn te)):=(tW d hs).imp λD σ H h=>by
 let(M,P,H0,σ0,env,ts,DD,nv,b,ht,ok):=h;show(M,P,H0,σ0,env,ts,_,b,ht,λs1 c v1 H1 h1 a=>ok.nx _ _ _ h1 a.drop)
def Ey(te:DE):DS:=λDD env=>te env DD.rt
def aB(d:PE X e (up K te)):PS X (.Return (NI e) pos) (upS K (Ey te)):=(Dc d).imp λD σ H h=>by
 let(M,P,H0,σ0,env,ts,DD,nv,b,ht,ok):=h;show(M,P,H0,σ0,env,ts,_,b,ht,λs1 c v1 H1 h1 a=>ok.rt _ _ _ _ _ h1 a)
def Fg(c:DT)(t u:DS):DS:=λDD env=>c env λk a=>if k=NK then t DD a else u DD a
def gF(hc:PT X c (upT K tc))(g:PSs X a (upS K t))(i:PSs X b (upS K u)):PS X (.If c a b pos) (upS K (Fg tc t u)):=(De hc g i).imp λD σ H h=>by
 let(M,P,H0,σ0,env,ts,DD,nv,f,ht,ok):=h;show(M,P,H0,σ0,env,ts,_,f,ht,λk d H1 h1 e=>?_);cases k with
 |true=>show(M,P,H0,σ0,d,ts,DD,nv,e,h1,ok)
 |false=>show(M,P,H0,σ0,d,ts,DD,nv,e,h1,ok)
def zj(i:Nat)(te:DE):DS:=λDD env=>te env λs a=>∃s',i< -a/\gP a s=NI s'/\DD.nx (a.set i s')
def ax(i:Nat){x:bx}{pos':Pos}(hN:X.N.Nodup)(d:PE X e (up K te))(hi:X.N[i]?=some x:=by rfl)(hx:Loc X.env.scope x:=by first|exact .inl rfl|exact .inr rfl)(hs:Qn e (some (.Name x pos')) pos.line X.env=pure false:=by rfl)(f:X.fn x=true\/X.env.scope.names.lookup x=some .local:=by walk_at"v1"):PS X (.Assign [.Name x pos'] e pos) (upS K (zj i te)) :=
 (yL hN hi hx d hs f).imp λD σ H h=>by
 let(M,P,H0,σ0,env,ts,DD,nv,b,ht,ok):=h;show(M,P,H0,σ0,env,ts,_,b,ht,λs1 c v1 H1 h1 a=>?_);let(s',hl,es,g):=h1;let(r,cs):=a.unVw es;show ok.nx _ _ _ g (r.store nv hl cs)
end
abbrev DG:=ab->NA->(NA->Prop)->Prop
abbrev DGs:=Nz->NA->(NA->Prop)->Prop
inductive upG (K:ca) (g:DG) (v:V) (σ:St) (H:Hp) (Q:St->Hp->Prop):Prop
 |mk (M P:ap->Prop) (H0:Hp) (σ0:St) (env:NA) (ts:Ni) (d:ab) (R:NA->Prop):yl ts->Rel K M P H0 σ0 σ env ts H->DN K (Nw M (aw σ env ts)) H v d->g d env R ->
 (∀σ' env' H',R env'->Rel K M P H0 σ0 σ' env' ts H'->Q σ' H')->upG K g v σ H Q
inductive Cy (K:ca) (g:DGs) (vs:NH) (σ:St) (H:Hp) (Q:St->Hp->Prop):Prop
 |mk (M P:ap->Prop) (H0:Hp) (σ0:St) (env:NA) (ts:Ni) (ds:Nz) (R:NA->Prop):yl ts->Rel K M P H0 σ0 σ env ts H->DNs K (Nw M (aw σ env ts)) H vs ds->g ds env R ->
 (∀σ' env' H',R env'->Rel K M P H0 σ0 σ' env' ts H'->Q σ' H')->Cy K g vs σ H Q
def PG.imp{X:Cx}{e:bb}{t t':TG}(h:PG X e t)(k:∀v σ H Q,t' v σ H Q->t v σ H Q):PG X e t':=λpins s σ H v u Q I r hw=>h pins s σ H v u Q I r (k v σ H Q hw)
def PGs.imp{X:Cx}{e:NF}{t t':TGs}(h:PGs X e t)(k:∀v σ H Q,t' v σ H Q->t v σ H Q):PGs X e t':=λpins s σ H v u Q I r hw=>h pins s σ H v u Q I r (k v σ H Q hw)
section
variable{K:ca}{M P N:ap->Prop}{H0 H H':Hp}{σ0 σ:St}{env:NA}{ts kp:Ni}{v:V}{s:Sl}{d:ab}{X:Cx}{pos:Pos}{e:bb}{es:NF}
def uz(v:V)(d:ab):oas (tmp [(v,Sl.fr d)])=[]:=by
 show oas [(NI v,Sl.fr d)]=[]
 rw[aj];cases v <;> rfl
def xb{E:Nt}{v:V}{d:ab}:Nw M (E++tmp [(v,Sl.fr d)])=Nw M E:=by unfold Nw;rw[ah,uz,Jh]
def qG(i:Nat):DG:=λd env R=>i< -env/\R (env.set i (.fr d))
def am(i:Nat){x:bx}(hN:X.N.Nodup)(hi:X.N[i]?=some x:=by rfl)(hx:Loc X.env.scope x:=by first|exact .inl rfl|exact .inr rfl)(b:X.fn x=true\/X.env.scope.names.lookup x=some .local:=by walk_at"v1"):PG X (.Name x pos) (upG K (qG i)) :=
 (AI hN hi hx b).imp λv σ H Q h=>by
 let(M,P,H0,σ0,env,ts,d,R,nv,a,dn,(hl,c),e):=h;show e _ _ _ c ((a.addFr dn).store nv hl rfl)
def BL:DGs:=λds env R=>ds=[]/\R env
def u7(g:DG)(b:DGs):DGs:=λds env R=>∃d r,ds=d::r/\g d env λa=>b r a R
def eZ:PGs X [] (Cy K BL):=AH.imp λv σ H Q h=>by
 cbv;let(M,P,H0,σ0,env,ts,ds,R,nv,a,dn,(rfl,b),c):=h;cases dn
 w_up;show(rfl,c _ _ _ b a)
theorem qi(env:NA):∀ds:Nz,aN env (ds.map .fr)=NI ds
 |[]=>rfl
 |d::ds=>by
  show(aV env (Sl.fr d)).bind _=_;rw[qi env ds];rfl
def A3(vs:NH)(ds:Nz)(nv:yl ts):yl (ts++vs.zip (ds.map .fr)):=λw i m=>by
 rcases II.mp m with m|m;show nv w i m;let(d,_,e):=IZ.mp (Kg m).2;cases e
theorem Rel.addFrs:∀{vs:NH}{ds:Nz}{ts:Ni},Rel K M P H0 σ0 σ env ts H->DNs K (Nw M (aw σ env ts)) H vs ds->Rel K M P H0 σ0 σ env (ts++vs.zip (ds.map .fr)) H
 |_,_,ts,a,.nil=>by simpa using a
 |_,_,ts,a,@DNs.cons _ _ _ v vs d ds h q=>by
  let r:=a.addFr h;let c:DNs K (Nw M (aw σ env (ts++[(v,.fr d)]))) H vs ds:=q.to λb Y Y z=>by rw[ar,xb]at z;show z
  let:=Rel.addFrs r c;simpa using this
def bf{g:DG}{j:DGs}(h1:PG X e (upG K g))(h2:PGs X es (Cy K j))(hs:(KH (e::es) X.env).map (·.2)=Qm e X.env::(KH es X.env).map (·.2):=by rfl):PGs X (e::es) (Cy K (u7 g j)) :=
 (wQ h1 h2 hs).imp λvs σ H Q h=>by
 let(M,P,H0,σ0,env,ts,ds,R,nv,f,dn,(d,r,rfl,hg),k):=h;cases dn with
 |@cons v vs _ _ h q =>
  let c:=f.addFrs q;let hN:DN K (Nw M (aw σ env (ts++vs.zip (r.map .fr)))) H v d:=h.to λb Y Y z=>by
   rw[ar]at z;rcases z with z|z;show .inl z;rw[ah,fN,Jh]at z;show .inr z
  show(v,vs,rfl,M,P,H0,σ0,env,ts++vs.zip (r.map .fr),d,_,A3 _ _ nv,c,hN,hg,λσ' env' H' i a=>?_);show(M,P,H0,σ0,env',ts,r,R,nv,a.drop,a.keptAll (by simp[q.len]) (λp l=>l) (qi _ _),i,k)
def BK(n:Nat)(a:DGs):DG:=λd env R=>∃ds,d=.tuple ds/\ds.length=n/\a ds env R
def iE{k:Nat}{e:DGs}{n:Nat}(hK:X.K=K)(hc:X.calm=true)(h:PGs X es (Cy K e))(hn:(KH es X.env).length=n:=by rfl)(b:(KH es X.env).findIdx? (·.1)=none:=by rfl):PG X (.Tuple es k pos) (upG K (BK n e)) :=
 (F0 (K:=K) hK hc h hn b).imp λv σ H Q h=>by
 let(M,P,H0,σ0,env,ts,d,R,nv,c,dn,(ds,rfl,hl,hg),f):=h;let(a,xs,rfl,g,q):=dn.tuple;show(a,xs,rfl,g.sq,by rw[q.len];show hl,M,P,H0,σ0,env,ts,ds,R,nv,c,q,hg,f)
structure jL(K:ca)(J:It)(kp:Ni)(ds:Nz):Prop where
 go : ∀{M P:ap->Prop}{H0 H:Hp}{σ0 σ:St}{env:NA}{ts:Ni},Rel K M P H0 σ0 σ env (ts++kp) H->∀i,i<ds.length->J.go i H
 yld:∀{M P:ap->Prop}{H0 H:Hp}{σ0 σ:St}{env:NA}{ts:Ni},Rel K M P H0 σ0 σ env (ts++kp) H->∀i x H',(hi:i<ds.length)->J.yld i H x H'->aS H H'/\DN K (Nw M (aw σ env (ts++kp))) H' x ds[i]
 stop:∀{M P:ap->Prop}{H0 H:Hp}{σ0 σ:St}{env:NA}{ts:Ni},Rel K M P H0 σ0 σ env (ts++kp) H->J.stop ds.length H
 nv : yl kp
abbrev DI:=NA->(Nz->NA->Prop)->Prop
inductive upI (K:ca) (t:DI) (σ:St) (H:Hp) (R:It->Hp->Prop):Prop
 |mk (M P:ap->Prop) (H0:Hp) (σ0:St) (env:NA) (ts:Ni) (RR:Nz->NA->Prop):Rel K M P H0 σ0 σ env ts H->t env RR ->
 (∀ds env' J H' kp,RR ds env'->Rel K M P H0 σ0 σ env' (ts++kp) H'->jL K J kp ds->R J H')->upI K t σ H R
def PI.imp{tg iter:bb}{t t':TI}(h:PI X tg iter t)(k:∀σ H R,t' σ H R->t σ H R):PI X tg iter t':=λpins s σ H R I hw=>h pins s σ H R I (k σ H R hw)
def aP{b:Bool}{a:ap}{ds:Nz}(c:Rel K M P H0 σ0 σ env ts H)(m:(.ref a,.fr (if b then .tuple ds else .list ds))∈ts):∃xs,SqB K H b a xs/\DNs K (Nw M (aw σ env ts)) H xs ds:=by
 cbv;let(v,e,dn):=c.e.fr _ _ (cS m);cases e
 w_up;cases b with
 |false =>
  cbv;let(f,xs,e,d,q):=DN.list dn;cases e
  w_up;show(xs,d.sq,q)
 |true =>
  cbv;let(f,xs,e,d,q):=DN.tuple dn;cases e
  w_up;show(xs,d.sq,q)
def DNs.item{vs:NH}{ds:Nz}(q:DNs K N H vs ds){i:Nat}(hi:i< -ds):∃x,vs[i]?=NI x/\DN K N H x ds[i]:=by
 let hv:i< -vs:=by rw[q.len];show hi
 cbv;let(e,h1,h2):=q.get (IK hv);rw[IK hi]at h1;cases h1
 w_up;show(vs[i],IK hv,h2)
def DF{v:V}{d:ab}:yl [(v,Sl.fr d)]:=λw i m=>by rw[IG]at m;cases m
def uO{a:ap}{ds:Nz}:jL K (Itl K a) [(.ref a,.fr (.list ds))] ds where
 go := λc i hi=>by
  let(xs,s,q):=aP (b:=NL) (a:=a) (ds:=ds) c (IE _ (!1));let(x,e,_):=q.item hi;show(xs,x,s,e)
 yld:=λc i x H' hi y=>by
  cbv;let(xs,s,q):=aP (b:=NL) (a:=a) (ds:=ds) c (IE _ (!1));let(e,y):=y;subst e;let(d,e',dn):=q.item hi;rw[y xs s]at e';cases e'
  w_up;show(aS.refl _,dn)
 stop:=λc=>by
  let(xs,s,q):=aP (b:=NL) (a:=a) (ds:=ds) c (IE _ (!1));show(xs,s,by rw[q.len];show IS _)
 nv := DF
noncomputable def gA(lo:Int)(n:Nat):Nz:=(cp n).map λ(k:Nat)=>eb (lo+k)
def az(lo:Int)(n:Nat):(gA lo n).length=n:=by simp[gA]
def bC(lo:Int)(n i:Nat)(h:i<(gA lo n).length):(gA lo n)[i]=.int (lo+i):=by simp[gA]
def rT{lo:Int}{n:Nat}:jL K (Itr lo n) [] (gA lo n) where
 go := λa i hi=>by rw[az]at hi;show hi
 yld:=λa i x H' hi y=>by
  let(e,y):=y;subst e;rw[bC,y];show(aS.refl _,.int _)
 stop:=λa=>by rw[az];show IS _
 nv := λw i m=>by cases m
noncomputable def kA(ds:Nz):Nz:=ds.zipIdx.map λ(p:ab×Nat)=>LC [.int p.2,p.1]
def a8(ds:Nz):(kA ds).length=-ds:=by simp[kA]
def dW(ds:Nz)(i:Nat)(h:i<(kA ds).length):(kA ds)[i]=.tuple [.int i,ds[i]'(by rw[a8]at h;exact h)]:=by simp[kA]
def uQ{b:Bool}{a:ap}{ds:Nz}:jL K (Ite K b a) [(.ref a,.fr (if b then .tuple ds else .list ds))] (kA ds) where
 go := λc i hi=>by
  rw[a8]at hi;let(xs,s,q):=aP (b:=b) (a:=a) (ds:=ds) c (IE _ (!1));let(x,e,_):=q.item hi;show(xs,x,s,e)
 yld:=λ{M P H0 H σ0 σ env ts} c i x H' hi y=>by
  rw[dW];rw[a8]at hi
  cbv;let(xs,s,q):=aP (b:=b) (a:=a) (ds:=ds) c (IE _ (!1));let(p,x1,rfl,d,rfl,y):=y;let(f,e',dn):=q.item hi;rw[y xs s]at e';cases e'
  w_up;show(aS.new d,DN.of2 (SnT.of aq (c.newAddr d)) (.int _) (dn.keep (aO.same (aS.new d))))
 stop:=λc=>by
  let(xs,s,q):=aP (b:=b) (a:=a) (ds:=ds) c (IE _ (!1));show(xs,s,by rw[q.len,a8])
 nv := DF
def v5(ds es:Nz):Nz:=List.zipWith (λd e=>LC [d,e]) ds es
def ci(ds es:Nz):(v5 ds es).length=min (-ds) (-es):=by simp[v5]
def qk{b c:Bool}{a g:ap}{ds es:Nz}:jL K (Itz K b c a g) [(.ref a,.fr (if b then .tuple ds else .list ds)),(.ref g,.fr (if c then .tuple es else .list es))] (v5 ds es) where
 go := λd i hi=>by
  rw[ci]at hi
  cbv;let(xs,s,q):=aP (b:=b) (a:=a) (ds:=ds) d (IE _ (!1));let(f,s',h):=aP (b:=c) (a:=g) (ds:=es) d (IE _ (!1));let(x,e,_):=q.item (i:=i) (!0);let(o,e',_):=h.item (i:=i) (!0)
  w_up;show(xs,f,x,o,s,s',e,e')
 yld:=λ{M P H0 H σ0 σ env ts} d i x H' hi y=>by
  let k:=hi;rw[ci]at k
  cbv;let(xs,s,q):=aP (b:=b) (a:=a) (ds:=ds) d (IE _ (!1));let(f,s',h):=aP (b:=c) (a:=g) (ds:=es) d (IE _ (!1));let(p,x1,u,rfl,j,rfl,y1,r):=y;let(v,e1,l):=q.item (i:=i) (!0);let(z,e2,n):=h.item (i:=i) (!0);rw[y1 xs s]at e1;rw[r f s']at e2;cases e1;cases e2
  w_up;let t:(v5 ds es)[i]=.tuple [ds[i]'(!0),es[i]'(!0)]:=by simp[v5]
  rw[t];show(aS.new j,DN.of2 (SnT.of aq (d.newAddr j)) (l.keep (aO.same (aS.new j))) (n.keep (aO.same (aS.new j))))
 stop:=λd=>by
  let(xs,s,q):=aP (b:=b) (a:=a) (ds:=ds) d (IE _ (!1));let(f,s',h):=aP (b:=c) (a:=g) (ds:=es) d (IE _ (!1));show(xs,f,s,s',?_);rw[q.len,h.len,ci];lia
 nv := λw i m=>by
  simp only[IR,Jk,or_false]at m;rcases m with m|m <;> cases m
end
section
variable{K:ca}{M P:ap->Prop}{H0 H H':Hp}{σ0 σ:St}{env:NA}{ts kp:Ni}{v:V}{s:Sl}{X:Cx}{pos p:Pos}{e e1 e2 tg iter:bb}{es:NF}{te:DE}{tl:DA}
def qL(te:DE):DI:=λenv RR=>te env λs a=>∃ds,aV a s=NI (.list ds)/\RR ds a
def aA(h:PE X e (up K te))(hK:X.K=K:=by rfl):PI X tg e (upI K (qL te)):=(DR (K:=K) hK h).imp λσ H R h=>by
 let(M,P,H0,σ0,env,ts,RR,c,ht,f):=h;show(M,P,H0,σ0,env,ts,_,c,ht,λs1 d v1 H1 h1 b=>?_);let(ds,k,g):=h1;let dn:=b.kept (v:=v1) (s:=s1) (!1) k;let(a,xs,rfl,i,q):=dn.list;show(a,rfl,(xs,i.sq),f _ _ _ _ _ g (b.drop.addFr dn) uO)
def xY(ta:DA):DI:=λenv RR=>ta env λss a=>∃s j,ss=[s]/\aC a s=NI (.int j)/\-4611686018427387904<=j/\j<4611686018427387904/\RR (gA 0 j.toNat) a
def eY(hg:Gl X "range")(d:X.mg "range" = none)(f:PA X [e] (upA K tl))(hs:kq [e] X.env=[(false,eval e X.env)]:=by rfl):PI X tg (.Call (.Name "range" p) [e] [] pos) (upI K (xY tl)):=(t9 hg d f hs).imp λσ H R h=>by
 let(M,P,H0,σ0,env,ts,RR,b,ht,g):=h;show(M,P,H0,σ0,env,ts,_,b,ht,λss c vs H1 h1 hl a=>?_);let(s,j,rfl,e1,i,k,l):=h1;let(v,rfl):=sB hl;let w:=(a.view (v:=v) (!1) e1).int;show(j,by rw[w],i,k,g _ _ _ _ [] l (by simpa using a.drop) rT)
def sqD(b:Bool)(ds:Nz):ab:=if b then .tuple ds else .list ds
def x4(b:Bool)(ta:DA):DI:=λenv RR=>ta env λss a=>∃s ds,ss=[s]/\aV a s=NI (sqD b ds)/\RR (kA ds) a
def j0(b:Bool){es:NF}{j:Nat}{d:Pos}(hK:X.K=K)(hg:Gl X "enumerate")(l:X.mg "enumerate" = none)(m:PA X [e] (upA K tl))(hs:kq [e] X.env=[(false,eval e X.env)]:=by rfl) :
  PI X (.Tuple es j d) (.Call (.Name "enumerate" p) [e] [] pos) (upI K (x4 b tl)):=(DU (K:=K) hK b hg l m hs).imp λσ H R h=>by
 let(M,P,H0,σ0,env,ts,RR,f,ht,n):=h;show(M,P,H0,σ0,env,ts,_,f,ht,λss g vs H1 h1 hl c=>?_)
 cbv;let(s,ds,rfl,k,o):=h1;let(v,rfl):=sB hl;let dn:=c.kept (v:=v) (s:=s) (!1) k;let i:=c.drop.addFr dn;let hv:∃a,v=.ref a:=by
  cases b with
  |false=>let(a,_,e,_):=DN.list dn;show(a,e)
  |true=>let(a,_,e,_):=DN.tuple dn;show(a,e)
 let(a,rfl):=hv;let(xs,sq,_):=aP (b:=b) (a:=a) (ds:=ds) i (IE _ (by simp[sqD]))
 w_up;show(a,xs,rfl,sq,n _ _ _ _ _ o i uQ)
def Fa(b c:Bool)(ta:DA):DI:=λenv RR=>ta env λss a=>∃s s' ds es,ss=[s,s']/\aV a s=NI (sqD b ds)/\aV a s'=NI (sqD c es)/\RR (v5 ds es) a
def CU(b c:Bool){es:NF}{w:Nat}{g:Pos}(hK:X.K=K)(hg:Gl X "zip")(x:X.mg "zip" = none)(y:PA X [e1,e2] (upA K tl))
  (hs:kq [e1,e2] X.env=[(false,eval e1 X.env),(false,eval e2 X.env)]:=by rfl) (m:kq [e2] X.env=[(false,eval e2 X.env)]:=by rfl) :
  PI X (.Tuple es w g) (.Call (.Name "zip" p) [e1,e2] [] pos) (upI K (Fa b c tl)):=(FZ (K:=K) hK b c hg x y hs m).imp λσ H R h=>by
 let(M,P,H0,σ0,env,ts,RR,n,ht,z):=h;show(M,P,H0,σ0,env,ts,_,n,ht,λss i vs H1 h1 hl d=>?_);let(s,s',ds,f,rfl,A,B,C):=h1;let(v,v',rfl):=EZ hl;let j:=d.keptAll (vs:=[v,v']) (ds:=[sqD b ds,sqD c f]) hl (λp D=>D) (by simp[aN,A,B]);let k:=d.drop.addFrs j;let k:Rel K M P H0 σ0 σ i (ts++[(v,.fr (sqD b ds)),(v',.fr (sqD c f))]) H1:=by simpa using k
 cases j with
 |cons dn q =>
  cases q with
  |cons l q =>
   cbv;cases q;let hv:∃a,v=.ref a:=by
    cases b with
    |false=>let(a,_,e,_):=DN.list dn;show(a,e)
    |true=>let(a,_,e,_):=DN.tuple dn;show(a,e)
   let o:∃a,v'=.ref a:=by
    cases c with
    |false=>let(a,_,e,_):=DN.list l;show(a,e)
    |true=>let(a,_,e,_):=DN.tuple l;show(a,e)
   let(a,rfl):=hv;let(u,rfl):=o;let(xs,sq,_):=aP (b:=b) (a:=a) (ds:=ds) k (IE _ (by simp[sqD]));let(r,t,_):=aP (b:=c) (a:=u) (ds:=f) k (IE _ (by simp[sqD]))
   w_up;show(a,u,xs,r,rfl,sq,t,z _ _ _ _ _ C k qk)
def Rel.dropMid{t:V×Sl}(h:Rel K M P H0 σ0 σ env (ts++kp++[t]) H):Rel K M P H0 σ0 σ env (ts++[t]) H:=by
 show(?_,h.len,λw i m=>h.vw w i (by
  rcases II.mp m with m|m;show IJ _ (IJ _ m);show IE _ m),h.ios)
 let a:=h.e;rw[ar,ar]at a;rw[ar];show a.sub (λx s m=>.inl ?_) ?_;rcases II.mp m with m|m;show IJ _ (IJ _ m);show IE _ m;let nd:=a.nd;rw[ah,ah]at nd;rw[ah];let(b,c,d):=IT.mp nd;show IT.mpr ((IT.mp b).1,c,λx hx y f=>d x (IJ _ hx) y f)
def FD(ds:Nz)(g:DG)(tb:DS):DS:=λDD env=>∃W:Nat->NA->Prop,W 0 env /\
 (∀i env,(h:i< -ds)->W i env->g ds[i] env λa=>tb { DD with nx:=dI (W (i+1)) ⟨⟩,ct:=dI (W (i+1)) ⟨⟩,bk:=DD.nx } a)/\∀env,W (-ds) env->DD.nx env
def Fh(it:DI)(g:DG)(tb:DS):DS:=λDD env=>it env λds a=>FD ds g tb DD a
def gh{body:Nn}{it:DI}{g:DG}{tb:DS}(o:PassesOwn (qb X.prog X.w) X.A X.env X.xe)(hc:X.calm=true)(hi:PI X tg iter (upI K it))(hg:PG X tg (upG K g))(p:PSs X body (upS K tb))(hs:∀x,KC iter X.env x=pure x:=by intro _;rfl) :
  PS X (.For tg iter body [] pos) (upS K (Fh it g tb)):=(Df o hc hi hg p hs).imp λD σ H h=>by
 let(M,P,H0,σ0,env,ts,DD,nv,l,ht,ok):=h;show(M,P,H0,σ0,env,ts,_,l,ht,λds d J H1 kp hF f io=>?_);let(W,t,turn,done):=hF;let j:yl (ts++kp):=λw i m=>by
  rcases II.mp m with m|m;show nv w i m;show io.nv w i m
 show(λi m σ H=>m=-ds-i/\i<=-ds/\∃env,W i env/\Rel K M P H0 σ0 σ env (ts++kp) H,(_,rfl,Jb _,d,t,f),?_);rintro i m u F ⟨rfl,z,c,n,a⟩;by_cases b:i< -ds;show .inr (io.go a i b,λσ' H'=>∃env',W (i+1) env'/\Rel K M P H0 σ0 σ' env' (ts++kp) H',λσ' H' ⟨env',w',r'⟩=>(-ds-(i+1),!0,rfl,b,env',w',r'),λx B y=>?_);let(C,dn):=io.yld a i x B b y;let k:=a.same C;show(M,P,H0,σ0,c,ts++kp,ds[i],_,j,k,dn,turn i c b n,λσ' env' H' E r=>?_);show(M,P,H0,σ0,env',ts++kp,_,j,r,E,(λσ' env' H' q r=>(env',q,r),λs env' v σ' H' q r=>ok.rt s env' v σ' H' q r.dropMid,λσ' env' H' q r=>ok.nx _ _ _ q r.drop,λσ' env' H' q r=>(env',q,r)))
 .let e:i=-ds:=!0
  subst e;show .inl (io.stop a,ok.nx _ _ _ (done _ n) a.drop)
def zi(c:DT)(tb:DS):DS:=λDD env=>∃W:Nat->NA->Prop,(∃m,W m env)/\∀m env,W m env ->
 c env λk a=>if k=NK then tb { DD with nx:=dI (λenv'=>∃b,b<m/\W b env') ⟨⟩,ct:=dI (λenv'=>∃b,b<m/\W b env') ⟨⟩,bk:=DD.nx } a else DD.nx a
def j4{c:bb}{body:Nn}{tc:DT}{tb:DS}(i:PassesOwn (qb X.prog X.w) X.A X.env X.xe)(hc:PT X c (upT K tc))(j:PSs X body (upS K tb)):PS X (.While c body [] pos) (upS K (zi tc tb)):=(wM i hc j).imp λD σ H h=>by
 let(M,P,H0,σ0,env,ts,DD,nv,g,(W,(l,n),turn),ok):=h;show(λm σ H=>∃env,W m env/\Rel K M P H0 σ0 σ env ts H,(l,env,n,g),?_);rintro m o t ⟨a,p,d⟩;show(M,P,H0,σ0,a,ts,_,d,turn m a p,λk e u h3 b=>?_);cases k with
 |false=>show ok.nx _ _ _ h3 b
 |true =>
  show(λσ' H'=>∃env',(∃f,f<m/\W f env')/\Rel K M P H0 σ0 σ' env' ts H',λσ' H' ⟨env',⟨f,s,w'⟩,r'⟩=>(f,s,env',w',r'),?_);show(M,P,H0,σ0,e,ts,_,nv,b,h3,(λσ' env' H' q r=>(env',q,r),ok.rt,λσ' env' H' q r=>ok.nx _ _ _ q r,λσ' env' H' q r=>(env',q,r)))
end
noncomputable def mM:Option Sl->Sl
 |some (.fr d)=>.fr d
 |_=>.un
def GG(env:NA):Nl->Sl
 |none=>.un
 |some j=>mM env[j]?
def fm(ix:M5)(env:NA):NA:=ix.map (GG env)
theorem gH{α β γ:Type}{f:α->β}{g:α->γ}:∀{l:List α}{x:β}{y:γ},(x,y)∈(l.map f).zip (l.map g)->∃o∈l,x=f o/\y=g o
 |[],_,_,h=>by simp at h
 |a :: l,x,y,h=>by
  let h:(x,y)∈(f a,g a)::(l.map f).zip (l.map g):=h;rcases IR.mp h with h|h;cases h;show(a,IL,rfl,rfl);let(o,ho,e):=gH h;show(o,IM _ ho,e)
def xX:DT:=λenv R=>R NK env
def PIf.imp{X:Cx}{ifs:NF}{t t':TT}(h:PIf X ifs t)(k:∀σ H Q,t' σ H Q->t σ H Q):PIf X ifs t':=λpins s σ H Q I hw=>h pins s σ H Q I (k σ H Q hw)
def iD{X:Cx}{K:ca}:PIf X [] (upT K xX):=AD.imp λσ H Q h=>by
 let(M,P,H0,σ0,env,ts,R,a,ht,b):=h;show b _ _ _ ht a
def iC{X:Cx}{K:ca}{c:bb}{t:DT}(h:PT X c (upT K t)):PIf X [c] (upT K t):=AC h
section
variable{K:ca}{M P:ap->Prop}{H0 H:Hp}{σ0 σ:St}{env:NA}{ts:Ni}{v:V}{s:Sl}{d:ab}
def dA{ix:M5}{x:Nx}(a:Rel K M P H0 σ0 σ env ts H)(m:(x,s)∈(c5 σ ix).zip (fm ix env)):s=.un\/∃d v,s=.fr d/\x=NI v/\DN K (Nw M (aw σ env ts)) H v d:=by
 let(o,_,e1,e2):=gH m;cases o with
 |none=>show .inl e2
 |some j =>
  let e2:s=mM env[j]?:=e2;cases q:env[j]? with
  |none=>rw[q]at e2;show .inl e2
  |some s' =>
   rw[q]at e2;cases s' with
   |fr d =>
    let(f,e3,b):=a.slot q;let(v,c,dn):=a.e.fr _ _ b;show .inr (d,v,e2,?_,dn);rw[e1];show(σ[j]?).join=_;rw[e3,c];rfl
   |_=>show .inl e2
def kH{ix:M5}(a:Rel K M P H0 σ0 σ env ts H):oas ((c5 σ ix).zip (fm ix env))=[]:=by
 unfold oas;rw[pQ];rintro⟨x,s⟩ m;rcases dA a m with e|⟨d,v,e,e2,_⟩
 subst e;show gi _;subst e e2;show dy _ _
def o5{ix:M5}(c:Rel K M P H0 σ0 σ env ts H):Rel K (Nw M (aw σ env ts)) (λY=>False) H (c5 σ ix) (c5 σ ix) (fm ix env) [] H:=by
 let g:=kH (ix:=ix) c;let f:aw (c5 σ ix) (fm ix env) []=(c5 σ ix).zip (fm ix env):=by simp[aw,tmp]
 show((aO.refl,λa q=>q,λa z hn=>c.newAddr hn z,λa z=>z.elim,λx d m=>?_,λx l m=>?_,λx l m=>?_,λx S l m=>?_,by rw[f,g];show J4),by simp[c5,fm],λw i m=>(by cases m),λi l e=>rfl)
 rotate_right
 rw[f]at m;rcases dA c m with e|⟨d',v,e,e2,dn⟩ <;> cases e
 rw[f]at m;rcases dA c m with e|⟨d',v,e,e2,dn⟩
 cases e;cases e;show(v,e2,dn.to λb Y Y z=>?_);rcases z with z|z;show z;rw[f,g]at z;cases z;rw[f]at m;rcases dA c m with e|⟨d',v,e,e2,dn⟩ <;> cases e
 rw[f]at m;rcases dA c m with e|⟨d',v,e,e2,dn⟩ <;> cases e
def yb{ix:M5}{k j:Nat}{r:Sl}{l:Nz}(c:Rel K M P H0 σ0 σ env ts H)(hk:ix[k]?=NI (NI j))(s:env[j]?=NI r)(u:gR r=NI l){a:ap}(y:σ[j]?=NI (NI (.ref a))) :
  Rel K (Nw M (aw σ env ts)) (λb=>b=a) H (c5 σ ix) (c5 σ ix) ((fm ix env).set k (.io l)) [] H:=by
 let p:=kH (ix:=ix) c;let F:=o5 (ix:=ix) c;let G:k< -ix:=(IN.mp hk).1;let I:(fm ix env)[k]?=NI .un:=by unfold fm;rw[Jt,hk];show NI (mM env[j]?)=_;rw[s];cases r <;> first|rfl|cases u
 let es:(c5 σ ix)[k]?=NI (NI (.ref a)):=by unfold c5;rw[Jt,hk];show NI ((σ[j]?).join)=_;rw[y];rfl
 cbv;let(x,A,B,e1,C,g):=F.split I;rw[es]at e1;cases e1;let D:aw (c5 σ ix) (fm ix env) []=(c5 σ ix).zip (fm ix env):=by simp[aw,tmp]
 let h:oas A=[]/\oas B=[]:=by rw[<-D,C,ah,aj]at p;let p:oas A++oas B=[]:=p;show List.append_eq_nil_iff.mp p
 let(O,us,n,J,L):=c.mine s u;rw[y]at n;cases n
 w_up;let E:Nw M (aw σ env ts) a:=by
  cbv;let(x,e1,N):=c.slot s;rw[y]at e1;cases e1
  w_up;show .inr (aT.mpr ⟨_,N,?_⟩);show(pZ u).2 a
 let o:oas (A++(Pm (NI (.ref a)) (Sl.io l))::B)=[a]:=by rw[ah,aj,h.1,h.2];rfl
 let ne:∀b,Nw (Nw M (aw σ env ts)) (A++(Pm (NI (.ref a)) (Sl.io l))::B) b->Nw M (aw σ env ts) b:=λb z=>by
  rcases z with z|z;show z;rw[o,IG]at z;rw[z];show E
 let f:∀x t,(Pm x t)∈A++(Pm (NI (.ref a)) (Sl.io l))::B->(Pm x t)=(Pm (NI (.ref a)) (Sl.io l))\/(Pm x t)∈(c5 σ ix).zip (fm ix env):=λx t m=>by
  rw[<-D,C];rcases II.mp m with m|m;show .inr (IJ _ m);rcases IR.mp m with m|m;show .inl m;show .inr (IE _ (IM _ m))
 show⟨⟨aO.refl,λa q=>q,λa z hn=>c.newAddr hn z,λb z=>by rw[z];show E,λx d m=>?_,λx l' m=>?_,λx l' m=>?_,λx S l' m=>?_,by rw[g,o];simp⟩,by simp[c5,fm],λw i m=>(by cases m),λi l' e=>rfl⟩
 rotate_right
 rw[g]at m;rcases f _ _ m with m|m;cases m;rcases dA c m with e|⟨d',v,e,e2,dn⟩ <;> cases e
 rw[g]at m ⊢;rcases f _ _ m with m|m;cases m;rcases dA c m with e|⟨d',v,e,e2,dn⟩
 cases e;cases e;show⟨v,e2,dn.to λb Y Y z=>ne b z⟩;rw[g]at m;rcases f _ _ m with m|m;cases m;rcases dA c m with e|⟨d',v,e,e2,dn⟩ <;> cases e
 rw[g]at m ⊢;rcases f _ _ m with m|m;cases m;show⟨a,us,rfl,J,L.to λb Y Y z=>ne b z,rfl⟩;rcases dA c m with e|⟨d',v,e,e2,dn⟩ <;> cases e
end
def CD(ds:Nz)(ix:M5)(g:DG)(tt:DT)(te:DE)(env:NA)(R:Sl->NA->Prop):Prop:=∃W:Nat->Nz->Prop,W 0 [] /\
 (∀i rs,(h:i< -ds)->W i rs->-rs<sizeLine/\g ds[i] (fm ix env) λa=>tt a λk b=>if k=NK then te b λs c=>∃d,aV c s=NI d/\W (i+1) (rs++[d]) else W (i+1) rs)/\∀rs,W (-ds) rs->R (.ow rs) env
def oY(it:DI)(ix:M5)(g:DG)(tt:DT)(te:DE):DE:=λenv R=>it env λds a=>CD ds ix g tt te a (dK R ⟨⟩)
def CD1(k j:Nat)(ds:Nz)(ix:M5)(g:DG)(tt:DT)(te:DE)(env:NA)(R:Sl->NA->Prop):Prop:=∃W:Nat->Nz->Nz->Prop,∃a b,env[j]?=NI a/\gR a=NI b/\W 0 [] b /\
 (∀i rs l,(h:i< -ds)->W i rs l->-rs<sizeLine/\∃s,cx a l=NI s/\g ds[i] ((fm ix (env.set j s)).set k (.io l)) λf=>tt f λm c=>if m=NK then te c λs e=>∃d l',aV e s=NI d/\e[k]?=NI (.io l')/\W (i+1) (rs++[d]) l' else ∃l',c[k]?=NI (.io l')/\W (i+1) rs l') /\
 ∀rs l,W (-ds) rs l->∃s,cx a l=NI s/\R (.ow rs) (env.set j s)
def qO(k j:Nat)(it:DI)(ix:M5)(g:DG)(tt:DT)(te:DE):DE:=λenv R=>it env λds a=>CD1 k j ds ix g tt te a (dK R ⟨⟩)
section
variable{K:ca}
def o3{it:DI}{ix:M5}{g:DG}{tt:DT}{te:DE}:∀σ H Q,up K (oY it ix g tt te) σ H Q->sR (upI K it) ix (upG K g) (upT K tt) (up K te) σ H Q:=λσ H Q h=>by
 let(M,P,H0,σ0,env,ts,R,B,ht,N):=h;show(M,P,H0,σ0,env,ts,_,B,ht,λds f J H1 kp hF t io=>?_);let(W,O,turn,done):=hF;show(λi m ys H=>m=-ds-i/\i<=-ds/\∃rs,W i rs/\DNs K (Nw M (aw σ f (ts++kp))) H ys rs/\Rel K M P H0 σ0 σ f (ts++kp) H,(_,rfl,Jb _,[],O,.nil,t),?_);rintro i m ys H2 ⟨rfl,S,rs,F,l,j⟩;by_cases n:i< -ds;let(hz,tr):=turn i rs n F;show .inr (io.go j i n,by rw[l.len];show hz,λu H'=>∃o,W (i+1) o/\DNs K (Nw M (aw σ f (ts++kp))) H' u o/\Rel K M P H0 σ0 σ f (ts++kp) H',λu H' ⟨o,a,b,c⟩=>(-ds-(i+1),!0,rfl,n,o,a,b,c),λx C y=>?_);let(D,dn):=io.yld j i x C n y;let k:=j.same D;let T:=o5 (ix:=ix) k;let U:=kH (ix:=ix) k;let nb:∀b,Nw (Nw M (aw σ f (ts++kp))) (aw (c5 σ ix) (fm ix f) []) b->Nw M (aw σ f (ts++kp)) b:=λb z=>by
  rcases z with z|z;show z;let V:aw (c5 σ ix) (fm ix f) []=(c5 σ ix).zip (fm ix f):=by simp[aw,tmp]
  rw[V,U]at z;cases z
 show(_,_,_,_,fm ix f,[],ds[i],_,λw i m=>(by cases m),T,dn.to λb _ _ z=>nb b z,tr,λX Y H4 Z A=>?_);show(_,_,_,_,Y,[],_,A,Z,λkk b2 H5 G q=>?_);cases kk with
 |false =>
  let I:aS C H5:=(q.e.keep.mono (M:=N0) λb z=>z).none;show(rs,G,l.keep (aO.same (D.trans I)),k.same I)
 |true =>
  show(_,_,_,_,b2,[],_,q,G,λs b3 v H6 h6 r=>?_);let(d,kd,w6):=h6;let L:aS C H6:=(r.e.keep.mono (M:=N0) λb z=>z).none;let E:=r.kept (ts:=[]) (tt:=[]++[(v,s)]) (v:=v) (s:=s) (!1) kd;show(rs++[d],w6,(l.keep (aO.same (D.trans L))).app (.cons (E.to λb _ _ z=>.inl z) .nil),k.same L)
 .let e:i=-ds:=!0
  subst e;show .inl (io.stop j,λp hp=>N _ _ _ _ (done _ F) (j.resOw hp l))
def o4{k j:Nat}{ix:M5}{M P:ap->Prop}{H0 H1 u t:Hp}{σ0 σ v:St}{c L:NA}{ts kp S:Ni}{h s:Sl}{l l':Nz}{a:ap}(hk:ix[k]?=NI (NI j))(m:j< -c)(T:c[j]?=NI h)(f:Rel K M P H0 σ0 σ c (ts++kp) H1)(es:cx h l=NI s)(N:σ[j]?=NI (NI (.ref a)))(g:Rel K M P H0 σ0 σ (c.set j s) (ts++kp) u)(U:Nw M (aw σ (c.set j s) (ts++kp)) a)(w:Nw M (aw σ (c.set j s) (ts++kp))=Nw M (aw σ c (ts++kp)))(i:Rel K (Nw M (aw σ (c.set j s) (ts++kp))) (λb=>b=a) u (c5 σ ix) v L S t)(O:L[k]?=NI (.io l')) :
  ∃s',cx h l'=NI s'/\Rel K M P H0 σ0 σ (c.set j s') (ts++kp) t/\∀{ys:NH}{rs:Nz},DNs K (Nw M (aw σ c (ts++kp))) u ys rs->DNs K (Nw M (aw σ c (ts++kp))) t ys rs:=by
 let y:(c.set j s)[j]?=NI s:=Jc m
 cbv;let(Z,W,X):=i.slot O;let Q:=i.ios _ _ O;let n:(c5 σ ix)[k]?=NI (NI (.ref a)):=by unfold c5;rw[Jt,hk];show NI ((σ[j]?).join)=_;rw[N];rfl
 rw[W,n]at Q;cases Q;let(a',C,z,D,E,_):=i.e.io _ _ X;cases z;let(x,A,B,e3,o,F):=g.split y;rw[N]at e3;cases e3;let G:∃s',cx h l'=NI s'/\Bi s l' s':=by
  obtain⟨p,rfl⟩|⟨p,rfl⟩:(∃p,h=.ow p)\/∃p,h=.io p:=(cM (ju es).1).imp (λ⟨d,e,_⟩=>(d,e)) λ⟨d,e,_⟩=>(d,e)
  cases es;show(_,rfl,rfl);cases es;show(_,rfl,rfl)
 let(s',r,H):=G
 w_up;let R:=g.e;rw[o]at R;let I:DNs K (Nw M (A++(NI (.ref a),s)::B)) t C l':=E.to λb V V z=>.inl (by rw[o];show z);let hM:=R.muted H i.e.keep i.e.live D I;rw[<-F]at hM;let Y:(c.set j s).set j s'=c.set j s':=List.set_set ..;show(s',r,(by rw[<-Y];show hM,by simp[f.len],g.vw,λq l2 e'=>?_),λ{ys rs} q=>q.keep (i.e.keep.mono λb z=>?_))
 .by_cases hj:j=q
  .cbv;subst hj;rw[Jc m]at e';cases e';let(J,rfl):=tx r
   w_up;show f.ios _ J T
  rw[Je hj]at e';show f.ios q l2 e'
 rw[z,<-w];show U
def C1I(K:ca)(M P:ap->Prop)(H0:Hp)(σ0 σ:St)(a:NA)(ts:Ni)(b:Sl)(j:Nat)(W:Nz->Nz->Prop)(ys:NH)(H:Hp):Prop:=∃rs l s,cx b l=NI s/\W rs l/\DNs K (Nw M (aw σ a ts)) H ys rs/\Rel K M P H0 σ0 σ (a.set j s) ts H
def x9{k j:Nat}{it:DI}{ix:M5}{g:DG}{tt:DT}{te:DE}(hk:ix[k]?=NI (NI j)):∀σ H Q,up K (qO k j it ix g tt te) σ H Q->sR (upI K it) ix (upG K g) (upT K tt) (up K te) σ H Q:=λσ H Q h=>by
 let(M,P,H0,σ0,env,ts,R,a4,ht,hq):=h;show(M,P,H0,σ0,env,ts,_,a4,ht,λds f J H1 kp hF r io=>?_);let(W,u,l0,N,eo,w0,turn,done):=hF;let F:j< -f:=(IN.mp N).1;let O:cx u l0=NI u:=(pZ eo).1;let env0:f.set j u=f:=by rw[<-(IN.mp N).2];show List.set_getElem_self F
 let(a,b5,ea,_,_):=r.mine N eo;let G:∀{ls:Nz}{s:Sl},cx u ls=NI s->Nw M (aw σ (f.set j s) (ts++kp))=Nw M (aw σ f (ts++kp)):=λ{ls s} es=>by
  cbv;let(x,A,B,e3,a5,a6):=r.split N;rw[ea]at e3;cases e3
  w_up;rw[a5,a6];let oa:cH (NI (.ref a),u)=[a]/\cH (NI (.ref a),s)=[a]:=by show fU (ju es).1
  unfold Nw;rw[ah,ah,aj,aj,oa.1,oa.2]
 show(λi m ys H=>m=-ds-i/\i<=-ds/\C1I K M P H0 σ0 σ f (ts++kp) u j (W i) ys H,(_,rfl,Jb _,[],l0,u,O,w0,.nil,by rw[env0];show r),?_);rintro i m ys H2 ⟨rfl,b6,rs,l,s,es,w2,I,o⟩;by_cases C:i< -ds
 .cbv;let(hz,s',n,tr):=turn i rs l C w2;rw[es]at n;cases n
  w_up;let S:gR s=NI l:=(ju es).2;let T:(f.set j s)[j]?=NI s:=Jc F;show .inr (io.go o i C,by rw[I.len];show hz,λU H'=>C1I K M P H0 σ0 σ f (ts++kp) u j (W (i+1)) U H',
   λU H' ⟨a7,l',s',z,a,b,c⟩=>(-ds-(i+1),!0,rfl,C,a7,l',s',z,a,b,c),λx H3 y=>?_)
  let(sm,dn):=io.yld o i x H3 C y;let t:=o.same sm;let rb:=yb (ix:=ix) t hk T S ea;let ma:Nw M (aw σ (f.set j s) (ts++kp)) a:=by
   cbv;let(x,e1,mm):=t.slot T;rw[ea]at e1;cases e1
   w_up;show .inr (aT.mpr (_,mm,?_));show(pZ S).2 a
  let nb:∀b,Nw (Nw M (aw σ (f.set j s) (ts++kp))) (aw (c5 σ ix) ((fm ix (f.set j s)).set k (.io l)) []) b->Nw M (aw σ (f.set j s) (ts++kp)) b:=λb z=>by
   rcases z with z|z;show z;let(_,_,hP):=rb.e.own z;rcases hP with q|q;let(vs,q2,_):=rb.e.own z;rw[q]at q2;cases q2;rw[q];show ma
  let after:∀{L:St}{b3:NA}{t3:Ni}{X:Hp}{l':Nz},Rel K (Nw M (aw σ (f.set j s) (ts++kp))) (λb=>b=a) H3 (c5 σ ix) L b3 t3 X->b3[k]?=NI (.io l') ->
    ∃s',cx u l'=NI s'/\Rel K M P H0 σ0 σ (f.set j s') (ts++kp) X/\∀{ys:NH}{rs:Nz},DNs K (Nw M (aw σ f (ts++kp))) H3 ys rs->DNs K (Nw M (aw σ f (ts++kp))) X ys rs:=λ{L b3 t3 X l'} r6 e6=>o4 hk F N r es ea t ma (G es) r6 e6
  let Y:=I.keep (aO.same sm);show(_,_,_,_,_,[],ds[i],_,λw i m=>(by cases m),rb,dn.to λb V V z=>nb b z,tr,λL b1 H4 h4 Z=>?_);show(_,_,_,_,b1,[],_,Z,h4,λkk b2 H5 h5 D=>?_);cases kk with
  |false =>
   let(l',e5,w5):=h5;let(s',n,r',kd):=after D e5;show(rs,l',s',n,w5,kd Y,r')
  |true =>
   show(_,_,_,_,b2,[],_,D,h5,λs6 b3 v X h6 E=>?_);let(d,l',b0,e6,w6):=h6;let(s',n,r',kd):=after E e6;let b4:=E.kept (ts:=[]) (tt:=[]++[(v,s6)]) (v:=v) (s:=s6) (!1) b0;show(rs++[d],l',s',n,w6,(kd Y).app (.cons (b4.to λb V V z=>.inl (by rw[G es];show z)) .nil),r')
 .let e:i=-ds:=!0
  subst e;show .inl (io.stop o,λp hp=>?_)
  cbv;let(s',n,hR):=done _ _ w2;rw[es]at n;cases n
  w_up;show hq _ _ _ _ hR (o.resOw hp (by rw[G es];show I))
end
section
variable{K:ca}{X:Cx}{N':ND}{ix:M5}{sc:KL}{tg iter elt:bb}{ifs:NF}{pos:Pos}{it:DI}{g:DG}{tt:DT}{te:DE}
def Ar(hc:X.calm=true)(S:cF X.N X.env N' ix sc)(hi:PI X tg iter (upI K it))
  (hg:∀s H C fp,PG (bCx X N' sc s H C fp) tg (upG K g)) (ht:∀s H C fp,PIf (bCx X N' sc s H C fp) ifs (upT K tt)) (a:∀s H C fp,PE (bCx X N' sc s H C fp) elt (up K te))
  (hs:∀x,KC iter X.env x=pure x:=by intro _;rfl):PE X (.ListComp elt [(tg,iter,ifs,0)] sc pos) (up K (oY it ix g tt te)):=(oq hc S hi hg ht a hs).imp o3
def bX{NN:ND}{sc0:KL}(hi:PI X tg iter (upI K it))
  (hg:∀s H C fp,PG (bCx X N' sc s H C fp) tg (upG K g)) (a:∀s H C fp,PE (bCx X N' sc s H C fp) elt (up K te))
  (ht:∀s H C fp,PIf (bCx X N' sc s H C fp) ifs (upT K tt):=by exactλY Y Y Y=>iD) (hc:X.calm=true:=by rfl) (h1:X.N=NN:=by rfl) (h2:X.env.scope=sc0:=by rfl) (h3:bOk NN sc0 N' ix sc=true:=by decide +kernel)
  (hs:∀x,KC iter X.env x=pure x:=by intro _;rfl):PE X (.ListComp elt [(tg,iter,ifs,0)] sc pos) (up K (oY it ix g tt te)):=(oq hc (vD h1 h2 h3) hi hg ht a hs).imp o3
def yD{i:Nat}{t:TE}{c:DE}(h:∀σ H Q,up K c σ H Q->t σ H Q):∀D σ H,upS K (zj i c) D σ H->Cd t (uV i) D σ H:=λD σ H e=>by
 let(M,P,H0,σ0,env,ts,DD,nv,b,ht,ok):=e;show h _ _ _ (M,P,H0,σ0,env,ts,_,b,ht,λs1 d v1 H1 h1 a=>?_);let(s',hl,es,f):=h1;let(r,cs):=a.unVw es;show ok.nx _ _ _ f (r.store nv hl cs)
def bw{NN:ND}{sc0:KL}(i:Nat){y:bx}{a d:Pos}(hN:X.N.Nodup)(hi:PI X tg iter (upI K it))
  (hg:∀s H C fp,PG (bCx X N' sc s H C fp) tg (upG K g)) (e:∀s H C fp,PE (bCx X N' sc s H C fp) elt (up K te))
  (ht:∀s H C fp,PIf (bCx X N' sc s H C fp) ifs (upT K tt):=by exactλY Y Y Y=>iD) (hc:X.calm=true:=by rfl) (h1:X.N=NN:=by rfl) (h2:X.env.scope=sc0:=by rfl) (h3:bOk NN sc0 N' ix sc=true:=by decide +kernel)
  (b:X.N[i]?=some y:=by rfl) (f:X.env.scope.names.lookup y=some .local:=by rfl) (c:Qn (.ListComp elt [(tg,iter,ifs,0)] sc pos) (some (.Name y d)) a.line X.env=pure true:=by rfl)
  (hs:∀x,KC iter X.env x=pure x:=by intro _;rfl):PS X (.Assign [.Name y d] (.ListComp elt [(tg,iter,ifs,0)] sc pos) a) (upS K (zj i (oY it ix g tt te))):=(jC hN b f hc (vD h1 h2 h3) hi hg ht e c hs).imp (yD o3)
def jA{NN:ND}{sc0:KL}(i:Nat){y:bx}{a d:Pos}(k j:Nat)(hk:ix[k]?=some (some j))(hN:X.N.Nodup)(hi:PI X tg iter (upI K it))
  (hg:∀s H C fp,PG (bCx X N' sc s H C fp) tg (upG K g)) (e:∀s H C fp,PE (bCx X N' sc s H C fp) elt (up K te))
  (ht:∀s H C fp,PIf (bCx X N' sc s H C fp) ifs (upT K tt):=by exactλY Y Y Y=>iD) (hc:X.calm=true:=by rfl) (h1:X.N=NN:=by rfl) (h2:X.env.scope=sc0:=by rfl) (h3:bOk NN sc0 N' ix sc=true:=by decide +kernel)
  (b:X.N[i]?=some y:=by rfl) (f:X.env.scope.names.lookup y=some .local:=by rfl) (c:Qn (.ListComp elt [(tg,iter,ifs,0)] sc pos) (some (.Name y d)) a.line X.env=pure true:=by rfl)
  (hs:∀x,KC iter X.env x=pure x:=by intro _;rfl):PS X (.Assign [.Name y d] (.ListComp elt [(tg,iter,ifs,0)] sc pos) a) (upS K (zj i (qO k j it ix g tt te))):=(jC hN b f hc (vD h1 h2 h3) hi hg ht e c hs).imp (yD (x9 hk))
end
noncomputable def yo:ab->Option Bool
 |.none=>NI NL
 |.bool b=>NI b
 |.int i=>NI (i != 0)
 |.list ds=>NI (!ds.isEmpty)
 |.tuple ds=>NI (!ds.isEmpty)
 |_=>NJ
section
variable{K:ca}{M P N:ap->Prop}{H0 H:Hp}{σ0 σ:St}{env:NA}{ts:Ni}{v:V}{s:Sl}{d:ab}{X:Cx}{pos p:Pos}{e e1 e2 a:bb}{es:NF}{te tj:DE}
def DNs.emp{vs:NH}{ds:Nz}(q:DNs K N H vs ds):vs.isEmpty=ds.isEmpty:=by cases q <;> rfl
def Vw.tru(w:Vw K N H v d){k:Bool}(e:yo d=NI k):Fj K v H k:=by
 cases d with
 |none=>cases e;rw[w.none];rfl
 |bool b=>cases e;rw[w.bool];rfl
 |int b=>cases e;rw[w.int];rfl
 |list ds =>
  cbv;cases e;let(a,vs,rfl,s,q):=w.list
  w_up;show .inl (vs,s,by rw[q.emp])
 |tuple ds =>
  cbv;cases e;let(a,vs,rfl,s,q):=w.tuple
  w_up;show .inr (.inl (vs,s,by rw[q.emp]))
 |_=>cases e
def qK(te:DE):DT:=λenv R=>te env λs a=>∃d k,aC a s=NI d/\yo d=NI k/\R k a
def gU(hK:X.K=K)(g:PE X a (up K te))(i:∀b,QF a X.env b=(do let v <-b;K2 a.pos;KI [v] (Ze v)):=by intro _;rfl):PT X a (upT K (qK te)):=(yU (K:=K) hK g i).imp λσ H Q h=>by
 let(M,P,H0,σ0,env,ts,R,e,ht,j):=h;show(M,P,H0,σ0,env,ts,_,e,ht,λs1 f v1 H1 h1 c=>?_);let(d,k,e1,e2,l):=h1;show(k,(c.view (v:=v1) (!1) e1).tru e2,j _ _ _ l c.drop)
def oM:ab->String
 |.none => "NoneType"
 |.bool _ => "bool"
 |.int _ => "int"
 |.str _ => "str"
 |.list _ => "list"
 |.tuple _ => "tuple"
 |.dict _ => "dict"
inductive m8 (K:ca) (H:Hp):V->String->Prop
 |non:m8 K H .non "NoneType"
 |bl (b:Bool):m8 K H (.bl b) "bool"
 |int (b:Int):m8 K H (.int b) "int"
 |str (b:bx):m8 K H (.str b) "str"
 |lst {a:ap}{xs:NH}:SqL K H a xs->m8 K H (.ref a) "list"
 |tup {a:ap}{xs:NH}:SqT K H a xs->m8 K H (.ref a) "tuple"
def yd(hK:X.K=K):cZ X (.builtin "isinstance") (λxs H Q=>∃(x:V) (t n:String) (b:Bool),xs=[x,.ty n]/\m8 K H x t/\rz K (.type t) (.type n)=NI b/\Q (.bl b) H):=by
 subst hK;intro pins s σ H xs us Q I r h;let(x,t,n,b,rfl,ty,e,q):=h;let(u,w',rfl,c,d):=sJ r;cases (show w'=nc n from d);let fin:∀tk,EP X pins σ Q (.bool b) { s with toks:=tk }:=λtk=>(.bl b,H,I.tok tk,rfl,q)
 cases ty with
 |non=>cases (show u=eC from c);show lk PySem.W.kitx_none I.kIn True.intro e (λz=>nomatch z) fin
 |bl y=>cases (show u=lv y from c);show lk PySem.W.kitx_bool I.kIn True.intro e (λz=>nomatch z) fin
 |int i=>let(t,q):=(show ∃t,u=eh i t from c);cases q;show lk PySem.W.kitx_int I.kIn True.intro e (λz=>nomatch z) fin
 |str y=>let(t,q):=(show ∃t,u=xj y t from c);cases q;show lk PySem.W.kitx_str I.kIn True.intro e (λz=>nomatch z) fin
 |@lst a xs hs =>
  cases (show u=da a from c);let(f,_,(o,g,h1,h2,_,_),_):=I.list hs;show lk PySem.W.kitx_list I.kIn (o,h1,h2) e (λz=>nomatch z) fin
 |@tup a xs hs =>
  cases (show u=da a from c);let(f,_,(o,h1,h2,_),_):=I.tuple hs;show lk PySem.W.kitx_tuple I.kIn (o,h1,h2) e (λz=>nomatch z) fin
def isK(n:String)(d:ab):Bool:=(oM d==n) ||(n == "int" && oM d == "bool")
def kr(d:ab):rz K (.type (oM d)) (.type "list")=NI (isK "list" d):=by cases d <;> rfl
def uJ(d:ab):rz K (.type (oM d)) (.type "tuple")=NI (isK "tuple" d):=by cases d <;> rfl
def Vw.kind(w:Vw K N H v d)(hd:∀kvs,d≠.dict kvs):m8 K H v (oM d):=by
 cases d with
 |none=>rw[w.none];show .non
 |bool b=>rw[w.bool];show .bl b
 |int b=>rw[w.int];show .int b
 |str b=>rw[w.str];show .str b
 |list ds=>let(a,vs,rfl,s,q):=w.list;show .lst s
 |tuple ds=>let(a,vs,rfl,s,q):=w.tuple;show .tup s
 |dict kvs=>show absurd rfl (hd kvs)
def Ce:ab->Bool
 |.dict _=>NL
 |_=>NK
def Ce.no{d:ab}(h:Ce d=NK):∀kvs,d≠.dict kvs:=λkvs e=>by subst e;cases h
def dIs(n:String)(te:DE):DE:=λenv R=>te env λs a=>∃d,aC a s=NI d/\Ce d=NK/\R (.fr (.bool (isK n d))) a
def wH{n:bx}{T:String}{c:Pos}(hK:X.K=K)(e:∀d,rz K (.type (oM d)) (.type T)=some (isK T d))(hg:Gl X "isinstance")(s:X.mg "isinstance" = none)(f:Gl X n)(g:X.mg n=none)(i:KJ n=some (.type T))(t:PE X a (up K te))
  (q:kq [a,.Name n c] X.env=(false,eval a X.env)::kq [.Name n c] X.env:=by rfl) (j:kq [.Name n c] X.env=(false,eval (.Name n c) X.env)::kq [] X.env:=by rfl)
  (k:n ≠ "__name__" := by decide) (l:(n==("__debug__" : bx))=false:=by decide) (m:(ze pos (kq [.Name n c] X.env)).any (·.1)=false:=by rfl) :
  PE X (.Call (.Name "isinstance" p) [a,.Name n c] [] pos) (up K (dIs T te)) :=
 (gX (yd hK) hg s PyProof.Rows.boot_isinstance (cB t (cB (AR (v:=.ty T) f g i rfl k l) fM j) q) (!2) (!2) q m).imp λσ H Q h=>by
 let(M,P,H0,σ0,env,ts,R,o,ht,u):=h;show(M,P,H0,σ0,env,ts,_,o,ht,λs1 r v1 H1 h1 b=>?_);let(d,e1,nd,x):=h1;let w:=b.view (v:=v1) (!1) e1;show(v1,oM d,T,isK T d,rfl,w.kind (Ce.no nd),e d,u _ _ _ _ x (b.drop.addFr (.bl _)))
def vf(i:Nat)(tj te:DE):DS:=λDD env=>te env λs b=>(∃ds,(b[i]?).bind gR=NI ds)/\tj b λe a=>∃d c ds z j s',aV a s=NI d/\aC a e=NI (.int z)/\a[i]?=NI c/\gR c=NI ds/\ixN (-ds) z=NI j /\
 cx c (ds.set j d)=NI s'/\DD.nx (a.set i s')
theorem DNs.set:∀{vs:NH}{ds:Nz}{x:V}{d:ab} (j:Nat),DNs K N H vs ds->DN K N H x d->DNs K N H (vs.set j x) (ds.set j d)
 |_,_,_,_,_,.nil,_=>.nil
 |_,_,_,_,0,.cons _ q,h=>.cons h q
 |_,_,_,_,j+1,.cons g q,h=>.cons g (q.set j h)
def Aj(i:Nat){y:bx}{npos b:Pos}{j:bb}(hN:X.N[i]?=some y)(hj:PE X j (up K tj))(x:PE X e (up K te))
  (hv:Vis X.env.scope y:=by walk_at"v0") (hd:(y==("__debug__" : bx))=false:=by decide)
  (o:(y==("__classdict__" : bx))=false:=by decide)
  (A:∀v,Qm (.Subscript (.Name y npos) j b) X.env v=(do
   let ov <-KI [v] (eval (.Name y npos) X.env)
   let iv <-KI [v,ov] (eval j X.env)
   K2 b
   KI [v,ov,iv] (Q9 ov iv v)
   release [v,ov,iv] []):=by intro _;rfl)
  (hs:Zo [.Subscript (.Name y npos) j b] e pos.line X.env=pure false:=by rfl) (hw:Zp [.Subscript (.Name y npos) j b] e X.env=pure none:=by rfl)
  (h1:(KH [.Subscript (.Name y npos) j b] X.env).map (·.2)=[Qm (.Subscript (.Name y npos) j b) X.env]:=by rfl):PS X (.Assign [.Subscript (.Name y npos) j b] e pos) (upS K (vf i tj te)) :=
 (tX x (ua (bu hN hv hd o) hj wv A) hs hw h1).imp λD σ H h=>by
 let(M,P,H0,σ0,env,ts,DD,nv,p,ht,ok):=h;show(M,P,H0,σ0,env,ts,_,p,ht,λs1 l v1 H1 h1 f=>?_)
 cbv;let((B,C),h1):=h1;let(O,E,F):=kJ C;let(a,vs,r,Q,_):=f.mine E F
 w_up;show(.ref a,r,M,P,H0,σ0,l,ts++[(v1,s1)],_,f,h1,λs2 m u G h2 g=>?_)
 cbv;let(d,R,ds,z,w,s',k,I,e2,J,ix,es,L):=h2;let c:Rel K M P H0 σ0 σ m (ts++[(v1,s1),(u,s2)]) G:=by simpa using g
 let(S,us,n,t,q):=c.drop.mine e2 J;rw[r]at n;cases n
 w_up;let dn:=c.kept (v:=v1) (s:=s1) (!1) k;show(a,us,z,w,rfl,(g.view (v:=u) (!1) I).int,t,by rw[q.len];show ix,ok.nx _ _ _ L (c.drop.mut (ds:=ds) e2 es r (q.set w dn)))
noncomputable def nX(env:NA):Sl->Option Sl
 |.fr d=>NI (.fr d)
 |.ow l=>NI (.ow l)
 |.tr S d=>NI (.tr S d)
 |.vw i=>(env[i]?).bind λs=>match s with
  |.fr d=>NI (.fr d)
  |.ow l=>NI (.ow l)
  |_=>NJ
 |_=>NJ
noncomputable def gM:Sl->Sl
 |.io l=>.io l
 |_=>.un
def jk(n:Nat)(env:NA):NA:=(env.take n).map gM
def oS(n:Nat)(R:Sl->NA->Prop):gx where
 nx := λenv=>R (.fr .none) (jk n env)
 rt := λs env=>∃r,nX env s=NI r/\R r (jk n env)
def cw(n:Nat)(ss:NA):NA:=ss++JN (n- -ss) .un
theorem hX(m:Nat):∀{vs:NH}{ss:NA},-vs=-ss->(vs.map NI++JN m NJ).zip (ss++JN m Sl.un)=tmp (vs.zip ss)++JN m (NJ,Sl.un)
 |[],[],_=>by simp[tmp]
 |v::vs,s::ss,h=>by
  show(NI v,s)::(vs.map NI++JN m NJ).zip (ss++JN m Sl.un)=_;rw[hX m (by simpa using h)];rfl
 |[],_::_,h=>by simp at h
 |_::_,[],h=>by simp at h
def uA(m:Nat):oas (JN m ((NJ,Sl.un):Ent))=[]:=by unfold oas;rw[pQ];intro e a;rw[(vj.mp a).2];rfl
theorem uY:∀{vs:NH}{σ:St}{env:NA},-σ=-env->(∀(j:Nat) (l:Nz),env[j]?=NI (.io l)->j< -vs->σ[j]?=(vs[j]?).map NI)->(oas (tmp (vs.zip (jk (-vs) env)))).Sublist (oas (σ.zip env))
 |[],σ,env,_,_=>by simp[tmp,oas]
 |v::vs,[],[],_,_=>by simp[tmp,oas,jk]
 |v :: vs,x::σ,s::env,hl,h=>by
  let a:=uY (vs:=vs) (σ:=σ) (env:=env) (by simpa using hl) λj l e hj=>by
   let:=h (j+1) l (by simpa using e) (by simpa using hj);simpa using this
  show(oas ((NI v,gM s)::tmp (vs.zip (jk (-vs) env)))).Sublist (oas ((x,s)::σ.zip env));rw[aj,aj];cases s with
  |io l =>
   let b:=h 0 l rfl (!1);simp at b;subst b;show List.Sublist.append (List.Sublist.refl _) a
  |_ =>
   simp only[gM,gi];show a.trans (List.sublist_append_right _ _)
 |_::_,[],_::_,hl,_=>by simp at hl
 |_::_,_::_,[],hl,_=>by simp at hl
def Rel.fin{vs:NH}{r:Sl}{n:Nat}(a:Rel K M P H0 (start N' vs) σ env [(Pm v r)] H)(hn:n=-vs)(A:ji r=NK):aU K M P H0 (tmp ((Pm v r)::vs.zip (jk n env))) H:=by
 subst hn;let b:∀(j:Nat) (l:Nz),env[j]?=NI (.io l)->j< -vs->σ[j]?=(vs[j]?).map NI:=λj l e hj=>by
  rw[a.ios j l e];unfold start;rw[JM (by simpa using hj),Jt]
 let g:=a.e;show g.sub (λx s m=>?_) ?_
 .rw[d4]at m;rcases IR.mp m with m|m;cases m;show .inl (cS (!1))
  .cbv;let((w,s'),m1,e):=IZ.mp m;cases e;let(j,hj,e):=J2 m1
   w_up;rw[J3]at e;let d:=hj;rw[JZ]at d;let e1:vs[j]'(!0)=w:=(ir e).1;let e2:(jk (-vs) env)[j]'(!0)=s':=(ir e).2;let f:j< -env:=by
    let:(jk (-vs) env).length=min (-vs) (-env):=by simp[jk]
    lia
   let e3:s'=gM env[j]:=by rw[<-e2];simp[jk]
   cases q:env[j] with
   |io l =>
    rw[q]at e3
    cbv;subst e3;let eq:env[j]?=NI (.io l):=by rw[IK f,q]
    let c:=b j l eq (!0);let(x,h,i):=a.slot eq;rw[h,IK (by lia:j< -vs),e1]at c;let c:x=NI w:=di c;subst c
    w_up;show .inl i
   |_=>rw[q]at e3;subst e3;show .inr (.inl rfl)
 let nd:=g.nd;let k:aw σ env [(Pm v r)]=σ.zip env++[(Pm (NI v) r)]:=rfl;rw[k,ah]at nd;let(o,p,t):=IT.mp nd;let sub:=uY a.len b;rw[d4,show((Pm (NI (Pm v r).1) ((Pm v r).2)):Ent)::tmp (vs.zip (jk (-vs) env))=[(Pm (NI v) r)]++tmp (vs.zip (jk (-vs) env)) from rfl,ah];show IT.mpr ⟨p,o.sublist sub,λx hx y u z=>t y (sub.subset u) x hx z.symm⟩
end
section
variable{K:ca}{M P:ap->Prop}{H0 H:Hp}{A B:Nt}{σ0 σ:St}{env:NA}{ts:Ni}{v:V}{s:Sl}{d:ab}
def Rel.take{i:Nat}{l:Nz}(h:Rel K M P H0 σ0 σ env [(v,.vw i)] H)(e:env[i]?=NI (.ow l)):Rel K M P H0 σ0 σ (env.set i .un) [(v,.ow l)] H:=by
 cbv;let(x,A,B,e1,D,E):=h.split e;let ev:=h.vw v i (!1);rw[e1]at ev;let ev:x=NI v:=di ev;subst ev;let z1:aw σ env [(v,.vw i)]=σ.zip env++[(NI v,.vw i)]:=rfl;let(F,e3,m2):=sG h.len e
 w_up;let d:(σ.zip env)[i]?=NI (NI v,.ow l):=by rw[dG,e1,e];rfl
 let(f,g,k,n):=fP d;let b:=h.e;rw[z1,k]at b;let o:aw σ (env.set i .un) [(v,.ow l)]=(f++(NI v,.un)::g)++[(NI v,.ow l)]:=by show σ.zip (env.set i .un)++[(NI v,.ow l)]=_;rw[sF e1,n]
 show(?_,by simp[h.len],λw j m=>(by rw[IG]at m;cases m),λj l' e'=>?_);rw[o];show b.sub (λx s m=>?_) ?_;rcases II.mp m with m|m;rcases II.mp m with m|m;show .inl (IJ _ (IJ _ m));rcases IR.mp m with m|m;cases m;show .inr (.inl rfl);show .inl (IJ _ (IE _ (IM _ m)));rw[IG]at m;cases m;show .inl (IJ _ (IE _ IL));let nd:=b.nd;let ov:oas [(NI v,Sl.vw i)]=[]:=by rw[aj,iK];rfl
 rw[ah,ah,aj,ov,Jh]at nd;let p:oas [(NI v,Sl.ow l)]=cH (NI v,Sl.ow l):=by rw[aj];simp[oas]
 rw[ah,ah,aj,gi,p];let(q,r,c):=IT.mp nd;let(t,u,C):=IT.mp r;show IT.mpr (IT.mpr (q,u,λx hx y a=>c x hx y (IE _ a)),t,λx hx y a z=>?_);subst z;rcases II.mp hx with hx|hx;show c x hx x (IJ _ a) rfl;show C x a x hx rfl;by_cases hj:i=j;subst hj;rw[Jc (IN.mp e).1]at e';cases e';rw[Je hj]at e';show h.ios j l' e'
def Bw{i n:Nat}{l:Nz}(e:env[i]?=NI (.ow l)):jk n (env.set i .un)=jk n env:=by
 unfold jk;apply v3;intro j;rw[Jt,Jt,vr,vr];by_cases hj:i=j;subst hj;rw[Jc (IN.mp e).1,e];split <;> rfl
 rw[Je hj]
def Rel.told{n:Nat}{r:Sl}(h:Rel K M P H0 σ0 σ env [(v,s)] H)(e:nX env s=NI r):∃env',Rel K M P H0 σ0 σ env' [(v,r)] H/\jk n env'=jk n env/\ji r=NK:=by
 cases s with
 |fr d=>cases e;show(env,h,rfl,rfl)
 |tr S d=>cases e;show(env,h,rfl,rfl)
 |ow l=>cases e;show(env,h,rfl,rfl)
 |vw i =>
  let e:(env[i]?).bind _=NI r:=e;cases q:env[i]? with
  |none=>rw[q]at e;cases e
  |some s' =>
   rw[q]at e;cases s' with
   |fr d =>
    cases e;let hs:gP env (.vw i)=NI (.fr d):=by show((env[i]?).bind slK).map Sl.fr=_;rw[q];rfl
    let:=(Rel.unVw (ts:=[]) (by simpa using h) hs).1;show(env,by simpa using this,rfl,rfl)
   |ow l=>cases e;show(env.set i .un,h.take q,Bw q,rfl)
   |_=>cases e
 |_=>cases e
end
section
variable{P:q3}{w:zb}{K:ca}{mg:bx->Nm}{base:bd}
def okD{x q:bx}{st:Stmt}{f:ap}{fd:kN}{N ps:ND}{k:Nat}{sp:DSp}(F:Fun K x q st f fd)(S:ak N ps (ac st))(len:∀ss R,sp ss R->-ss=-ps)(hN:-ps<=-N)
  (u:∀(cdv:as) (A:Around) (outer:Nu) (s:ba) (H:Hp) (E:XK),b9 k (A.deeper (Qq q (ac st) (~~~s) f cdv)) ->
   ∃t:DS,PSs (sC CX0 P w K mg base N q (ac st) f cdv A outer s H E).nox (bI st) (upS K t)/\∀ss R,sp ss R->t (oS (-ps) R) (cw (-N) ss)):a9 P w K mg base CX0 (k+1) f fd ps (spD K sp):=by
 show F.ok S (λvs H Q E h=>?_) λcdv A outer s H vs Q E y h=>?_;let(M,ss,R,hl,_,a,_):=h;rw[hl];show len ss R a;let(M,ss,R,hl,j,a,o):=h;let hn:=len ss R a;let(t,ht,g):=u cdv A outer s H E y;let z:aw (start N vs) (cw (-N) ss) []=tmp (vs.zip ss)++JN (-N- -vs) (NJ,Sl.un):=by show(start N vs).zip (cw (-N) ss)++[]=_;unfold start cw;rw[Jh,<-hl];show hX _ hl
 show(_,ht,M,vS vs ss,H,start N vs,cw (-N) ss,[],oS (-ps) R,λw i m=>(by cases m),(?_,by simp[start,cw,hl],λw i m=>(by cases m),λi l e=>rfl),g ss R a,(λσ' env' H' q r=>?_,λs env' v σ' H' q r=>?_,λσ' env' H' q r=>(show False from q),λσ' env' H' q r=>(show False from q)));rw[z];show j.sub (λx s m=>?_) (by rw[ah,uA,Jh];show j.nd);rcases II.mp m with m|m;show .inl m;let:=(vj.mp m).2;cases this;show .inr (.inl rfl);let b:=(Rel.addFr r (v:=.non) (d:=.none) .non)
 let b:Rel K M (vS vs ss) H (start N vs) σ' env' [(.non,.fr .none)] H':=by simpa using b
 show o _ _ _ _ q rfl (b.fin (!0) rfl);let(B,C,D):=q;let G:Rel K M (vS vs ss) H (start N vs) σ' env' [(v,s)] H':=by simpa using r
 let(p,b,I,c):=G.told (n:=-ps) C;show o B _ v H' D c (by rw[<-I];show b.fin (!0) c)
def HK{x:bx}{st:Stmt}{f:ap}{N ps:ND}{k:Nat}{sp:DSp}{kV doc pm cdv ct oc:as}{an od:No}{osl:M6}
  (y:∀(A:Around) (outer:Nu) (s:ba) (H:Hp) (E:XK),b9 k (A.deeper (Qq x (ac st) (~~~s) f cdv)) ->
   ∃t:DS,PSs (sC CX0 P w K mg base N x (ac st) f cdv A outer s H E).nox (bI st) (upS K t)/\∀ss R,sp ss R->t (oS (-ps) R) (cw (-N) ss))
  (z:K.lookup f=NI (oc,od,.func (fy x x (cT st) (bI st) (ac st) .none kV doc pm an cdv ct),osl)) (g:ip K cdv x=NK) (S:ak N ps (ac st)) (len:∀ss R,sp ss R->-ss=-ps) (hN:-ps<=-N):a9 P w K mg base CX0 (k+1) f (fy x x (cT st) (bI st) (ac st) .none kV doc pm an cdv ct) ps (spD K sp):=by
 show Ef z g S (λvs H Q E h=>?_) λA outer s H vs Q E B h=>?_;let(M,ss,R,hl,_,a,_):=h;rw[hl];show len ss R a;let(M,ss,R,hl,o,a,p):=h;let hn:=len ss R a;let(t,ht,j):=y A outer s H E B;let C:aw (start N vs) (cw (-N) ss) []=tmp (vs.zip ss)++JN (-N- -vs) (NJ,Sl.un):=by show(start N vs).zip (cw (-N) ss)++[]=_;unfold start cw;rw[Jh,<-hl];show hX _ hl
 show(_,ht.nox,M,vS vs ss,H,start N vs,cw (-N) ss,[],oS (-ps) R,λw i m=>(by cases m),(?_,by simp[start,cw,hl],λw i m=>(by cases m),λi l e=>rfl),j ss R a,(λσ' env' H' q r=>?_,λs env' v σ' H' q r=>?_,λσ' env' H' q r=>(show False from q),λσ' env' H' q r=>(show False from q)));rw[C];show o.sub (λx s m=>?_) (by rw[ah,uA,Jh];show o.nd);rcases II.mp m with m|m;show .inl m;let:=(vj.mp m).2;cases this;show .inr (.inl rfl);let b:=(Rel.addFr r (v:=.non) (d:=.none) .non)
 let b:Rel K M (vS vs ss) H (start N vs) σ' env' [(.non,.fr .none)] H':=by simpa using b
 show p _ _ _ _ q rfl (b.fin (!0) rfl);let(D,F,G):=q;let I:Rel K M (vS vs ss) H (start N vs) σ' env' [(v,s)] H':=by simpa using r
 let(u,b,J,c):=I.told (n:=-ps) F;show p D _ v H' G c (by rw[<-J];show b.fin (!0) c)
def Hi{x:bx}{st:Stmt}{f:ap}{fd:kN}{k:Nat}{ps:ND}{sp:DSp}(F:Fun K x x st f fd)(m:mg x=NI (.ref f))(b:cV K fd ps [])(G:a9 P w K mg base CX0 k f fd ps (spD K sp)):Cal P w K mg base x k (spD K sp):=Cal.mk F m b G
end
section
variable{X:Cx}{x:bx}{p pos:Pos}{e:bb}{es:NF}{k:Nat}{sp:DSp}{K:ca}{tl:DA}
def ao(C:Cal X.prog X.w X.K X.mg X.base x k (spD K sp))(b:PA X (e::es) (upA K tl))(c:b9 k X.A:=by exact b9.mono (by assumption) (!2))(hg:Gl X x:=by rfl)(hd:(x==("__debug__" : bx))=false:=by decide)
  (d:kq (e::es) X.env=(false,eval e X.env)::kq es X.env:=by rfl) (a:(ze pos (kq es X.env)).any (·.1)=false:=by rfl):PE X (.Call (.Name x p) (e::es) [] pos) (up K (vp sp tl)):=(lG C c hg b hd d a).imp B4
def iG(m:Nat)(C:Cal X.prog X.w X.K X.mg X.base x k (spD K sp))(b:PA X (e::es) (upA K tl))(c:b9 k X.A:=by exact b9.mono (by assumption) (!2))(hg:Gl X x:=by rfl)(hd:(x==("__debug__" : bx))=false:=by decide)
  (d:kq (e::es) X.env=(false,eval e X.env)::kq es X.env:=by rfl) (a:(ze pos (kq es X.env)).any (·.1)=false:=by rfl):PE X (.Call (.Name x p) (e::es) [] pos) (up K (mH sp m tl)):=(lG C c hg b hd d a).imp yh
def Au(C:Cal X.prog X.w X.K X.mg X.base x k (spD K sp))(b:PA X (e::es) (upA K tl))(c:b9 k X.A:=by exact b9.mono (by assumption) (!2))(hg:Gl X x:=by rfl)(hd:(x==("__debug__" : bx))=false:=by decide)
  (d:kq (e::es) X.env=(false,eval e X.env)::kq es X.env:=by rfl) (a:(ze pos (kq es X.env)).any (·.1)=false:=by rfl):PE X (.Call (.Name x p) (e::es) [] pos) (up K (qR sp tl)):=(lG C c hg b hd d a).imp yg
end
def E6:G1:=λd R=>∃i,d=.int i/\R (.int (-(i)))
def EW{K:ca}:∀(N:ap->Prop) (H:Hp) (x:V) (d1:ab) (R:ab->Prop) (Q:VK),Vw K N H x d1->E6 d1 R->(∀d v,R d->DN K N H v d->Q v H)->(rU λi=>.int (-(i))) x H Q:=by rintro N H x d R Q w ⟨i,rfl,a⟩ b;show(i,w.int,b _ _ a (.int _))
abbrev li(ns:Np):Nz:=ns.map .int
def qw{ds:Nz}{g:DG}{tb:DS}{DD:gx}{env:NA}(W:Nat->NA->Prop)(b:W 0 env)
  (hs:∀i env,(h:i<ds.length)->W i env->g ds[i] env λa=>tb { DD with nx:=dI (W (i+1)) ⟨⟩,ct:=dI (W (i+1)) ⟨⟩,bk:=DD.nx } a) (hd:∀env,W ds.length env->DD.nx env):FD ds g tb DD env:=(W,b,hs,hd)
def bA{ds:Nz}{ix:M5}{g:DG}{te:DE}{env:NA}{R:Sl->NA->Prop}(f:Nat->ab)(hz:-ds<=1000000)
  (h : ∀i,(h:i< -ds)->∀Q:ab->Prop,Q (f i)->g ds[i] (fm ix env) λa=>te a λs b=>∃d,aV b s=NI d/\Q d) (c:R (.ow ((cp (-ds)).map f)) env):CD ds ix g xX te env R:=by show(λi rs=>rs=(cp i).map f/\i<=-ds,(rfl,Jb _),λi rs hi w=>?_,λrs w=>by rw[w.1];show c);let(rfl,_):=w;show(by rw[IF,Jl];show IY (!0) ae,?_);let:=h i hi (λd=>(cp i).map f++[d]=(cp (i+1)).map f/\i+1<=-ds) (by rw[J6,Jm];rfl,hi);simpa only[xX,if_true] using this
def dX{ds:Nz}{ix:M5}{g:DG}{tt:DT}{te:DE}{env:NA}{R:Sl->NA->Prop}(p:Nat->Bool)(f:Nat->ab)(hz:-ds<=1000000)
  (h : ∀i,(h:i< -ds)->∀(Q:ab->Prop) (a:Prop),(p i=NK->Q (f i))->(p i=NL->a)->g ds[i] (fm ix env) λb=>tt b λk c=>if k=NK then te c λs j=>∃d,aV j s=NI d/\Q d else a)
  (l:R (.ow (((cp (-ds)).filter p).map f)) env):CD ds ix g tt te env R:=by show(λi rs=>rs=((cp i).filter p).map f/\i<=-ds,(rfl,Jb _),λi rs hi w=>?_,λrs w=>by rw[w.1];show l);let(rfl,_):=w;show(?_,?_);let:=Jy p (cp i);rw[Jl]at this;rw[IF];show IY (!0) ae;show h i hi _ _ (λe=>(?_,hi)) (λe=>(?_,hi));rw[J6,JY,Jm];simp[e];rw[J6,JY,Jm];simp[e]
def Bg(i:Int):Prop:=i.natAbs<2 ^ 8000
def Cc(i j:Int):Prop:=Bg i/\Bg j
def GS(i j:Int):Prop:=0<j/\Bg j
def Cc.ok{i j:Int}(h:Cc i j):IntMulOk i j:=by
 let up:∀x:Int,Bg x->Builtin.Int.intBits x<=2 ^ 20:=λx hx=>by
  show PySem.intBits_le_iff.mpr (IY hx (JQ (!2) (!2)))
 show IntMulOk.of_bits (up _ h.1) (up _ h.2)
def Bg.log{j:Int}(h:Bg j):j.natAbs.log2<9000:=by by_cases a:j.natAbs=0;rw[a];decide;let h1:=Nat.log2_self_le a;let h:j.natAbs<2 ^ 8000:=h;let h2:(2:Nat) ^ j.natAbs.log2<2 ^ 8000:=Kw h1 h;let h3:=(Nat.pow_lt_pow_iff_right (by decide:1<2)).mp h2;show Nat.lt_trans h3 (!2)
section
variable{X:Cx}{K:ca}
def uq:OpR X (KN .Mult) (rI Cc λi j=>.int (i*j)):=opI λY Y Y Y Y Y Y hc q=>mul_int q hc.ok
def j7:OpR X (KN .FloorDiv) (rI GS λi j=>.int (i / j)):=opI λi j Y Y Y Y Y hc q=>by
 show floordiv_int (Int.ne_of_gt hc.1) ?_ (.inl (PyProof.noPylong_of_log2 hc.2.log));rw[Lx _ (L1 hc.1)];show q
theorem iI(ns:Np):∀n,n<=-ns->preSum (λi=>ns.getD i 0) n=(ns.take n).sum
 | 0,_=>rfl
 |n+1,h=>by
  rw[preSum,iI ns n (!0),JT,Ku,IK (by lia:n< -ns)];simp[IP,IK (by lia:n< -ns)]
def mP(hK:X.K=K)(hc:X.calm=NK):cZ X (.builtin "sum") (λxs H Q=>∃(p:ap) (ns:Np),xs=[.ref p]/\SqL K H p (ns.map V.int)/\Q (.int ns.sum) H):=by
 subst hK;intro pins s σ H xs us Q I r h;let(p,ns,rfl,hs,q):=h;let(u,rfl,k):=fw r;cases (show u=da p from k);let(a,rv,l,_):=I.list hs;let hl:=l.isList;let g:p<(~~~s):=by let(_,e,_):=hl;show IX e
 let hsz:a.toArray.size=-ns:=by let:=-rv;simp at this ⊢;lia
 let W:=(Walks.list (prog:=X.prog) (w:=X.w) (A:=X.A.in1) (I.ok.hd hc) (~~~s) p (Jd g) a.toArray).toS;rw[hsz]at W;show call_sum_walkAnyS (Qb hl ?_);show((~~~s),_,_,_,_,_,_,λi=>ns.getD i 0,rfl,W,((_,IW _ rfl,rfl,rfl),hl.push _),λb d=>?_,λi v c=>?_,λs' t' f=>?_);rcases IR.mp d with rfl|d;show IX (IW _ rfl);obtain rfl:=IG.mp d;show IX (IH _ (id hl).choose_spec.1)
 .let c:a.toArray[i]?=NI v:=c;let c:a[i]?=NI v:=by simpa using c
  let hi:i< -a:=(IN.mp c).1;let hi2:i< -ns:=by simp at hsz;lia
  cbv;let(u,e1,(t,e2)):=rv.get (i:=i) (x:=.int ns[i]) (by rw[Jt,IK hi2];rfl);rw[c]at e1;cases e1
  w_up;show(t,?_);rw[e2];show _=eh (ns.getD i 0) t;rw[IP,IK hi2];rfl
 let(h',g',d',m,j):=s';let e1:g'=s.gens:=f.gens;let e2:d'=s.drawn:=f.drawn;let e3:j=s.os:=f.os;subst e1 e2 e3;let ep:=iI ns (-ns) (IS _);rw[JI]at ep;rw[ep];show(.int ns.sum,H,I.kept λb o e=>f.heap b o (λd=>absurd (IX e) ((IG.mp d)▸JL _)) (IH _ e),(_,rfl),q)
def E5:GB:=λds R=>∃es ns,ds=[.list es]/\dS es=NI ns/\R (.int ns.sum)
def Hd:eO K (λxs H Q=>∃(p:ap) (ns:Np),xs=[.ref p]/\SqL K H p (ns.map V.int)/\Q (.int ns.sum) H) E5:=by
 rintro N H xs ds R Q w ⟨es,ns,rfl,e1,b⟩ c;cases w with
 |cons d e =>
  cbv;cases e;let(a,vs,rfl,s,q):=d.list
  w_up;rw[cD e1]at q;rw[q.ints]at s;show(a,ns,rfl,s,c _ _ b (.int _))
end
def Bg.of{i:Int}(h1:-1000000000000000000000000000000000000000000000<=i)(h2:i<=1000000000000000000000000000000000000000000000):Bg i:=by
 let h:i.natAbs<2 ^ 200:=by
  let:(2:Nat) ^ 200=1606938044258990275541962092341162602522202993782792835301376:=!2
  rw[this];lia
 show IY h (JQ (!2) (!2))
section
variable(env:NA) (d:ab) (l:Nz) (i n:Nat) (s:Sl) (R:Sl->NA->Prop)
def pr:aC env (.fr d)=NI d:=rfl
def pp:aC env (.ow l)=NI (.list l):=rfl
def pq:aC env (.io l)=NI (.list l):=rfl
def pj:aC env (.vw i)=(env[i]?).bind slD:=rfl
def yC:slD (.fr d)=NI d:=rfl
def yA:slD (.ow l)=NI (.list l):=rfl
def yB:slD (.io l)=NI (.list l):=rfl
def yy:slD .un=NJ:=rfl
def yz{S:NE}{kvs:List (ab×ab)}:slD (.tr S (.dict kvs))=NI (.dict kvs):=rfl
def pk{S:NE}{kvs:List (ab×ab)}:aC env (.tr S (.dict kvs))=NI (.dict kvs):=rfl
def yx:slK (.fr d)=NI d:=rfl
def yv:slK (.ow l)=NJ:=rfl
def yw:slK (.io l)=NJ:=rfl
def yu:slK .un=NJ:=rfl
def ml:aV env (.fr d)=NI d:=rfl
def mi:aV env (.ow l)=NI (.list l):=rfl
def mf:aV env (.vw i)=(env[i]?).bind slK:=rfl
def pD:gP env (.fr d)=NI (.fr d):=rfl
def pC:gP env (.ow l)=NI (.ow l):=rfl
def pB{S:NE}:gP env (.tr S d)=NI (.tr S d):=rfl
def pR{S:NE}:nX env (.tr S d)=NI (.tr S d):=rfl
def mh{S:NE}:aV env (.tr S d)=NI d:=rfl
def pA:gP env (.vw i)=((env[i]?).bind slK).map .fr:=rfl
def FC:Sl->Option Sl
 |.fr d=>NI (.fr d)
 |.ow l=>NI (.ow l)
 |_=>NJ
def pU:nX env (.fr d)=NI (.fr d):=rfl
def pS:nX env (.ow l)=NI (.ow l):=rfl
def pP:nX env (.vw i)=(env[i]?).bind FC:=by
 show(env[i]?).bind _=_
 congr 1
def tK:FC (.fr d)=NI (.fr d):=rfl
def tJ:FC (.ow l)=NI (.ow l):=rfl
def my:gM (.fr d)=.un:=rfl
def mw:gM (.ow l)=.un:=rfl
def mx:gM (.io l)=.io l:=rfl
def mv:gM .un=.un:=rfl
def qD:(oS n R).rt s env=∃r,nX env s=NI r/\R r (jk n env):=rfl
def qE:(oS n R).nx env=R (.fr .none) (jk n env):=rfl
def pL:cx (.ow l) d'=NI (.ow d'):=rfl
def pM:cx (.io l) d'=NI (.io d'):=rfl
def uh:gR (.ow l)=NI l:=rfl
def ui:gR (.io l)=NI l:=rfl
def uj:gR (.fr d)=NJ:=rfl
def ug:gR .un=NJ:=rfl
def qY:mM (NI (.fr d))=.fr d:=rfl
def qW:mM (NI (.ow l))=.un:=rfl
def qX:mM (NI (.io l))=.un:=rfl
def qV:mM (NI .un)=.un:=rfl
def mO:GG env NJ=.un:=rfl
def mN:GG env (NI i)=mM env[i]?:=rfl
def jv:eP (.list l)=NI l:=rfl
def ij:eP (.tuple l)=NI l:=rfl
def kX:yo .none=NI NL:=rfl
def kZ(b:Bool):yo (.bool b)=NI b:=rfl
def pv(i:Int):yo (.int i)=NI (i != 0):=rfl
def kY:yo (.list l)=NI (!l.isEmpty):=rfl
def jm:yo (.tuple l)=NI (!l.isEmpty):=rfl
def mn:ng .none=NK:=rfl
def qm(i:Int):ng (.int i)=NL:=rfl
def mq(i:Bool):ng (.bool i)=NL:=rfl
def mo:ng (.list l)=NL:=rfl
def jG:ng (.tuple l)=NL:=rfl
def qp(b:Bool):isK "bool" (.bool b)=NK:=rfl
def qo:isK "list" (.list l)=NK:=rfl
def mr:isK "tuple" (.tuple l)=NK:=rfl
def yY:isK "list" (.tuple l)=NL:=rfl
def yX:isK "tuple" (.list l)=NL:=rfl
def iT:aN env []=NI []:=rfl
def gL(s:Sl)(ss:NA):aN env (s::ss)=(aV env s).bind λd=>(aN env ss).bind λds=>NI (d::ds):=rfl
def jl:fv env []=NI []:=rfl
def hZ(s:Sl)(ss:NA):fv env (s::ss)=(aC env s).bind λd=>(fv env ss).bind λds=>NI (d::ds):=rfl
def qB(i j:Int):ed (.int i) (.int j)=decide (i=j):=by show(i==j)=_;by_cases h:i=j <;> simp[h]
end
def zB{α:Type}(x:α)(l:List α):atI (x::l) 0=NI x:=cU (j:=0) rfl
def zA{α:Type}(x y:α)(l:List α):atI (x::y::l) 1=NI y:=cU (j:=1) rfl
def zz{α:Type}(x y z:α)(l:List α):atI (x::y::z::l) 2=NI z:=cU (j:=2) rfl
def zx{α:Type}(a b c d x:α)(l:List α):atI (a::b::c::d::x::l) 4=NI x:=cU (j:=4) rfl
def zw{α:Type}(a b c d e x:α)(l:List α):atI (a::b::c::d::e::x::l) 5=NI x:=cU (j:=5) rfl
def zv{α:Type}(a b c d e f x:α)(l:List α):atI (a::b::c::d::e::f::x::l) 6=NI x:=cU (j:=6) rfl
def zu{α:Type}(a b c d e f g x:α)(l:List α):atI (a::b::c::d::e::f::g::x::l) 7=NI x:=cU (j:=7) rfl
def qz:ed .none .none=NK:=rfl
def y7(i:Int):ed .none (.int i)=NL:=rfl
def y8(i:Int):ed (.int i) .none=NL:=rfl
def tw(i:Int):shp (.int i)=True:=by simp[shp,lb,eg,nk]
def pH:shp .none=True:=by simp[shp,lb,eg,nk]
def pK(b:Bool):shp (.bool b)=True:=by simp[shp,lb,eg,nk]
def zy{α:Type}(x y z u:α)(l:List α):atI (x::y::z::u::l) 3=NI u:=cU (j:=3) rfl
def DP{K:ca}{H:Hp}{a:ap}{ns:Np}{E:XK}(d:SqL K H a (ns.map V.int)){sp:DSp}(h:sp [.fr (.list (li ns))] (λr Y=>r=.fr (.bool NK))):spD K sp [.ref a] H (λv Y=>v=.bl NK) E:=by
 let c:DNs K (λY=>False) H [.ref a] [.list (li ns)]:=.cons (DN.sqL d) .nil;show(λY=>False,[.fr (.list (li ns))],_,rfl,mZ (ds:=[.list (li ns)]) c (λa z=>z.elim),h,λr f v H' g Y b=>?_)
 cbv;subst g;let(w,e,dn):=b.fr _ _ IL;cases e;cases dn
 w_up;rfl
def Fo{l:py}{q:q3}{e:ND}{m:(bx->Nm)->bd->Prop}{o:zb->bd->Prop}{d:DefRec}{K:Params->ca}{sp:DSp}{k:Nat}(hk:k<=40)(hn:l.most=some 63)(g:d.params.defaults=[])
  (i:∀ns:Np,ns.length<=63->sp [.fr (.list (li ns))] (λr Y=>r=.fr (.bool true)))
  (j:∀(w:zb) (s₀:ba) (mg mb:bx->Nm) (h:bd),Lc q e [] m w s₀ mg mb h->(K w.params).In h->∃tb:List (ap×bx),(∀b q,tb.lookup b=some q->h.get? b=some { cls:=.none,data:=.fields #[] }/\(K w.params).lookup b=none/\∃c,h.TableAt c b #[])/\∀T q,jb (K w.params) T q->tb.lookup T=some q)
  (p:∀(w:zb) (h:bd),o w h->(K w.params).In h)
  (F : ∀(w:zb) (mg:bx->Nm) (fa:ap) (h:bd),(K w.params).In h->h.Ns ky mg->mg d.name=some (.ref fa) ->
   ∃fd:kN,(∀(s:ba) (u:as),QJ s fd ([u],[]) [("_law_script",u)])/\∀base:bd,(K w.params).In base->base.Ns ky mg->a9 l.prog w (K w.params) mg base CX0 k fa fd ["_law_script"] (spD (K w.params) sp)) :
  Mr q e m o l.row.toRowW d [] (λf vs=>Lm f vs):=by show _L.zM (n:=63) (k:=40) (x := "_law_script") (CX:=λY=>CX0) (sp:=λw=>spD (K w.params) sp) hn (!2) g (rfl,!2,!2) j p (λw mg fa h a b c=>?_) (λw H a ns hl Y t=>DP t (i ns hl)) λY Y Y Y Y z=>z;let(fd,h1,h2):=F w mg fa h a b c;show(fd,h1,λbase x y=>(h2 base x y).mono hk)
def Sh(n:Nat)(d:ab):Prop:=d.canLay0=NK/\d.depth<=n
theorem Sh.int(n:Nat)(i:Int):Sh n (.int i):=(by simp[eg],by simp[nk])
theorem Sh.all{n:Nat}:∀{ds:Nz},(∀x∈ds,Sh n x)->eS ds=NK/\hQ ds<=n
 |[],_=>(by simp[eS],by simp[hQ])
 |d::ds,h=>by
  let h1:=h d IL;let h2:=Sh.all λx hx=>h x (IM _ hx);show(by rw[eS,h1.1,h2.1];rfl,?_);rw[hQ];let a:=h1.2;let b:=h2.2;lia
theorem Sh.list{n:Nat}{ds:Nz}(h:∀x∈ds,Sh n x):Sh (n+1) (.list ds):=by let(a,b):=Sh.all h;show(by rw[eg];show a,by rw[nk];lia)
theorem Sh.tuple{n:Nat}{ds:Nz}(h:∀x∈ds,Sh n x):Sh (n+1) (.tuple ds):=by let(a,b):=Sh.all h;show(by rw[eg];show a,by rw[nk];lia)
def Sh.ints(n:Nat)(ns:Np):Sh (n+1) (.list (li ns)):=Sh.list λx hx=>by
 let(i,_,rfl):=IZ.mp hx;show Sh.int _ _
def Sh.intT(n:Nat)(ns:Np):Sh (n+1) (.tuple (li ns)):=Sh.tuple λx hx=>by
 let(i,_,rfl):=IZ.mp hx;show Sh.int _ _
theorem Sh.shp{n:Nat}{d:ab}(h:Sh n d)(hn:n<=64):shp d:=by show lb d=NK;unfold lb;rw[h.1,decide_eq_true (IQ h.2 hn)];rfl
def dE{ns:Np}{k:Nat}(h:k< -ns):atI (li ns) (k:Int)=NI (.int (ns.getD k 0)):=cU (by
 rw[Jt,IK h,IP,IK h];rfl)
def bK{ns:Np}{i:Nat}(h:i<(li ns).length):(li ns)[i]=.int (ns.getD i 0):=by
 let h':i< -ns:=by simpa using h
 simp[IP,IK h']
def DL(ns:Np)(i:Nat)(x:Int):(li ns).set i (.int x)=li (ns.set i x):=by simp[List.map_set]
def dR(ns:Np)(x:Int):li ns++[.int x]=li (ns++[x]):=!1
def xq(n:Nat)(f:Nat->Int):(cp n).map (λi=>eb (f i))=li ((cp n).map f):=by show _=ec _ (ec _ _);rw[Jq];rfl
def qU{i j:Int}(a:-18446744073709551616<i)(h1:i<18446744073709551616):ER i j:=.inl (a,h1)
def zq{i j:Int}(a:-18446744073709551616<j)(h1:j<18446744073709551616):ER i j:=.inr (a,h1)
@[irreducible] def dNx (u:DS):DS:=u
def zk(u:DS):dNx u=u:=by unfold dNx;rfl
def nx{u:DS}{DD:gx}{env:NA}(h:u DD env):dNx u DD env:=by rw[zk];show h
def ai{X:Cx}{K:ca}{st:Stmt}{rest:Nn}{t u:DS}(h1:PS X st (upS K t))(h2:PSs X rest (upS K u)):PSs X (st::rest) (upS K (Ex t (dNx u))):=by rw[zk];show bc h1 h2
def place{x:Int}{n:Nat}(h:0<n):∃a:Nat,x % (n:Int)=(a:Int)/\a<n:=by let b:=JU x (show(n:Int)≠0 by lia);let h1:=JH x (show(0:Int)<n by lia);show((x % (n:Int)).toNat,!0,!0)
mutual
def noL:ab->Bool
 |.none=>NK
 |.bool _=>NK
 |.int _=>NK
 |.str _=>NK
 |.tuple ds=>oG ds
 |_=>NL
def oG:Nz->Bool
 |[]=>NK
 |d::ds=>noL d&&oG ds
end
section
variable{K:ca}{M P N:ap->Prop}{H0 H:Hp}{E T:Nt}{σ0 σ:St}{env:NA}{ts tt:Ni}{v:V}{s:Sl}{d:ab}
def DN.ot{v:V}{d:ab}(h:DN K N H v d):noL d=NK->OT K N H v d [] :=
  DN.rec (motive_1:=λv d Y=>noL d=NK->OT K N H v d []) (motive_2:=λv d Y=>oG d=NK->OTs K N H v d [])
  (λY=>.non) (λb Y=>.bl b) (λi Y=>.int i)
   (λx Y=>.str x)
  (λY Y Y e=>by simp[noL]at e) (λh Y i e=>.tup h (i (by simpa[noL] using e)))
  (λY Y Y Y Y Y Y e=>by simp[noL]at e) (λY Y Y Y e=>by simp[noL]at e) (λY Y Y Y Y Y e=>by simp[noL]at e) (λY Y e=>by simp[noL]at e) (λY=>.nil)
  (λ{_ _ d ds} _ _ i j e=>by
    let e:(noL d&&oG ds)=NK:=e;rw[Jw]at e;show .cons (S:=[]) (S':=[]) (i e.1) (j e.2)) h
def DNs.ots{v:NH}{d:Nz}(h:DNs K N H v d):oG d=NK->OTs K N H v d []:=DNs.ind (C:=λv d=>oG d=NK->OTs K N H v d []) (λY=>.nil) (λ{_ _ d ds} h _ j e=>by
  let e:(noL d&&oG ds)=NK:=e;rw[Jw]at e;show .cons (S:=[]) (S':=[]) (h.ot e.1) (j e.2)) h
noncomputable def fzs:Nz->M8
 |[]=>NI []
 |.list l::ds=>(fzs ds).map (fzD l::·)
 |_::_=>NJ
theorem DNs.fzs:∀{vs:NH}{ds ds':Nz},DNs K N H vs ds->fzs ds=NI ds'->OTs K N H vs ds' []
 |_,_,_,.nil,e=>by cases e;show .nil
 |_, d::ds,_,.cons h q,e=>by
  cases d with
  |list l =>
   let e:(_L.fzs ds).map (fzD l::·)=NI _:=e;cases e2:_L.fzs ds with
   |none=>rw[e2]at e;cases e
   |some ds2 =>
    rw[e2]at e;cases e;show .cons (S:=[]) (S':=[]) (.fz h) (DNs.fzs q e2)
  |_=>cases e
def slF(s:Sl):Option ab:=match s with
 |.fr d=>if noL d=NK then NI d else NJ
 |_=>NJ
def eG(env:NA):Sl->Option ab
 |.fr d=>if noL d=NK then NI d else NJ
 |.ow ds=>if oG ds=NK then NI (.list ds) else (fzs ds).map .list
 |.tr _ d=>NI d
 |.vw i=>(env[i]?).bind slF
 |_=>NJ
def bU(env:NA):NA->M8
 |[]=>NI []
 |s::ss=>(eG env s).bind λd=>(bU env ss).bind λds=>NI (d::ds)
def Rel.tree(h:Rel K M P H0 σ0 σ env ts H)(m:(v,s)∈ts)(e:eG env s=NI d):OT K (Nw M (aw σ env ts)) H v d (cH (NI v,s))/\∀a∈cH (NI v,s),H0 a=NJ:=by
 let g:((NI v,s):Ent)∈aw σ env ts:=cS m;cases s with
 |fr d' =>
  by_cases c:noL d'=NK
  .let e:(if noL d'=NK then NI d' else NJ)=NI d:=e;rw[M0 c]at e
   cbv;cases e;let(v',e1,dn):=h.e.fr _ _ g;cases e1
   w_up;rw[dy];show(dn.ot c,λa j=>by cases j)
  let e:(if noL d'=NK then NI d' else NJ)=NI d:=e;rw[M1 c]at e;cases e
 |ow ds =>
  let e:(if oG ds=NK then NI (dk ds) else (fzs ds).map .list)=NI d:=e;by_cases c:oG ds=NK
  .rw[M0 c]at e
   cbv;cases e;let(a,vs,e1,e2,dn,f):=h.e.ow _ _ g;cases e1
   w_up;show(.lst e2 (dn.ots c),λb k=>by rw[IG.mp k];show f)
  .rw[M1 c]at e;cases e3:fzs ds with
   |none=>rw[e3]at e;cases e
   |some ds' =>
    rw[e3]at e
    cbv;cases e;let(a,vs,e1,e2,dn,f):=h.e.ow _ _ g;cases e1
    w_up;show(.lst e2 (dn.fzs e3),λb k=>by rw[IG.mp k];show f)
 |tr S d' =>
  cbv;cases e;let(v',e1,ot,f):=h.e.tr _ _ _ g;cases e1
  w_up;rw[aK];show(ot,f)
 |vw i =>
  let e:(env[i]?).bind slF=NI d:=e;cases q:env[i]? with
  |none=>rw[q]at e;cases e
  |some s' =>
   rw[q]at e;cases s' with
   |fr d' =>
    let e:(if noL d'=NK then NI d' else NJ)=NI d:=e;by_cases c:noL d'=NK
    .rw[M0 c]at e
     cbv;cases e;let(x,e1,m1):=h.slot q;let(v',e2,dn):=h.e.fr _ _ m1;let e3:=h.vw v i m;rw[e1,e2]at e3;cases e3
     w_up;rw[iK];show(dn.ot c,λa j=>by cases j)
    rw[M1 c]at e;cases e
   |_=>cases e
 |_=>cases e
theorem Rel.trees(h:Rel K M P H0 σ0 σ env ts H):∀{vs:NH}{ss:NA}{ds:Nz},-vs=-ss->(∀p∈vs.zip ss,p∈ts)->bU env ss=NI ds->OTs K (Nw M (aw σ env ts)) H vs ds (oas (tmp (vs.zip ss)))/\∀a∈oas (tmp (vs.zip ss)),H0 a=NJ
 |[],[],_,_,_,e=>by cases e;show(.nil,λa b=>by cases b)
 |v :: vs,s::ss,ds,hl,c,e=>by
  unfold bU at e;cases e1:eG env s with
  |none=>rw[e1]at e;cases e
  |some d =>
   rw[e1]at e;cases e2:bU env ss with
   |none=>rw[e2]at e;cases e
   |some ds' =>
    rw[e2]at e
    cbv;cases e;let(a1,a2):=h.tree (v:=v) (c (v,s) (!1)) e1;let(f,g):=h.trees (vs:=vs) (ss:=ss) (by simpa using hl) (λp i=>c p (by simp[i])) e2
    w_up;let j:oas (tmp ((v::vs).zip (s::ss)))=cH (NI v,s)++oas (tmp (vs.zip ss)):=aj _ _;rw[j];show(.cons a1 f,λa b=>(II.mp b).elim (a2 a) (g a))
 |[],_::_,_,hl,_,_=>by simp at hl
 |_::_,[],_,hl,_,_=>by simp at hl
def aU.fold(h:aU K M P H0 (E++T) H)(ot:OT K (Nw M (E++T)) H v d (oas T))(e:∀a∈oas T,H0 a=NJ):aU K M P H0 (E++[(Pm (NI v) (.tr (oas T) d))]) H:=by
 let c:oas (E++[(Pm (NI v) (Sl.tr (oas T) d))])=oas (E++T):=by rw[ah,ah,aj,aK];simp[oas]
 let ne:Nw M (E++[(Pm (NI v) (Sl.tr (oas T) d))])=Nw M (E++T):=by unfold Nw;rw[c]
 let b:∀x s,(Pm x s)∈E++[(Pm (NI v) (Sl.tr (oas T) d))]->(Pm x s)∈E++T\/(Pm x s)=(Pm (NI v) (Sl.tr (oas T) d)):=λx s m=>by
  rcases II.mp m with m|m;show .inl (IJ _ m);show .inr (IG.mp m)
 show⟨h.keep,h.live,h.mt,h.pm,λx d' m=>?_,λx d' m=>?_,λx d' m=>?_,λx S d' m=>?_,by rw[c];show h.nd⟩;rw[ne];rcases b _ _ m with m|m;show h.fr x d' m;cases m;rw[ne];rcases b _ _ m with m|m;show h.ow x d' m;cases m;rw[ne];rcases b _ _ m with m|m;show h.io x d' m;cases m;rw[ne];rcases b _ _ m with m|m;show h.tr x S d' m;cases m;show⟨v,rfl,ot,e⟩
def uk{p:ap}{o:HO}{vs:NH}{ds:Nz}{S:NE}(q:OTs K N H vs ds S)(b:H p=NJ):OTs K N (upd H p o) vs ds S:=q.keep (aO.same (aS.new b)) λa c=>by
 let(xs,z):=q.lives a c;rw[aS.new b _ _ z,z]
def Rel.resTupT(h:Rel K M P H0 σ0 σ env (ts++tt) H){p:ap}{vs:NH}{ds:Nz}(b:H p=NJ)(q:OTs K (Nw M (aw σ env (ts++tt))) H vs ds (oas (tmp tt)))(f:∀a∈oas (tmp tt),H0 a=NJ) :
  Rel K M P H0 σ0 σ env (ts++[(.ref p,.tr (oas (tmp tt)) (.tuple ds))]) (upd H p (.tup vs)):=by let c:=h.newAddr b;let h':=h.same (aS.new (o:=.tup vs) b);let d:=h'.e;rw[ar]at d q c;show h'.drop.withRes (d.fold (.tup (SnT.of aq c) (uk q b)) f) rfl
def aU.foldL(h:aU K M P H0 (E++T) H){p:ap}{vs:NH}{ds:Nz}(c:H p=NJ)(q:OTs K (Nw M (E++T)) H vs ds (oas T))(k:∀a∈oas T,H0 a=NJ):aU K M P H0 (E++[(Pm (NI (.ref p)) (.tr (p::oas T) (.list ds)))]) (upd H p (.lst vs)):=by
 let j:oas (E++[(Pm (NI (.ref p)) (Sl.tr (p::oas T) (.list ds)))])=oas E++p::oas T:=by rw[ah,aj,aK];simp[oas]
 let i:p ∉ oas (E++T):=λz=>by
  let(vs',q,_):=h.own z;rw[c]at q;cases q
 let l:H0 p=NJ:=by
  cases e:H0 p with
  |none=>rfl
  |some o=>show absurd c (h.live p (by rw[e];simp))
 let up:∀b o,H b=NI o->Nw M (E++[(Pm (NI (.ref p)) (Sl.tr (p::oas T) (.list ds)))]) b->Nw M (E++T) b:=λb o e z=>by
  rcases z with z|z;show .inl z;rw[j]at z;rcases II.mp z with z|z;show .inr (by rw[ah];show IJ _ z);rcases IR.mp z with z|z;rw[z,c]at e;cases e;show .inr (by rw[ah];show IE _ z)
 let d:∀x s,(Pm x s)∈E++[(Pm (NI (.ref p)) (Sl.tr (p::oas T) (.list ds)))]->(Pm x s)∈E++T\/(Pm x s)=(Pm (NI (.ref p)) (Sl.tr (p::oas T) (.list ds))):=λx s m=>by
  rcases II.mp m with m|m;show .inl (IJ _ m);show .inr (IG.mp m)
 let h':=h.same (aS.new (o:=.lst vs) c);show⟨h'.keep,h'.live,h.mt,h.pm,λx d' m=>?_,λx d' m=>?_,λx d' m=>?_,λx S d' m=>?_,?_⟩;rcases d _ _ m with m|m;let(v,e,dn):=h.fr x d' m;show⟨v,e,(dn.to up).keep (aO.same (aS.new c))⟩;cases m;rcases d _ _ m with m|m;let(a,ws,e,e2,dn,r):=h.ow x d' m;show⟨a,ws,e,aS.new c _ _ e2,(dn.to up).keep (aO.same (aS.new c)),r⟩;cases m;rcases d _ _ m with m|m;let(a,ws,e,e2,dn,r):=h.io x d' m;show⟨a,ws,e,aS.new c _ _ e2,(dn.to up).keep (aO.same (aS.new c)),r⟩;cases m;rcases d _ _ m with m|m;let(v,e,dn,r):=h.tr x S d' m;show⟨v,e,(dn.to up).keep (aO.same (aS.new c)) λa f=>by
  let(xs,z):=dn.lives a f;rw[aS.new c _ _ z,z],r⟩
 cases m;show⟨_,rfl,.lst aq (uk (q.to up) c),λa f=>(IR.mp f).elim (λz=>by rw[z];show l) (k a)⟩;rw[j];let nd:=h.nd;rw[ah]at nd i;let(n,t,u):=IT.mp nd;show IT.mpr ⟨n,Jr.mpr ⟨λz=>i (IE _ z),t⟩,λa f b g z=>?_⟩;rcases IR.mp g with g|g;rw[g]at z;show i (IJ _ (z▸f));show u a f b g z
def Rel.resLstT(h:Rel K M P H0 σ0 σ env (ts++tt) H){p:ap}{vs:NH}{ds:Nz}(c:H p=NJ)(q:OTs K (Nw M (aw σ env (ts++tt))) H vs ds (oas (tmp tt)))(d:∀a∈oas (tmp tt),H0 a=NJ) :
  Rel K M P H0 σ0 σ env (ts++[(.ref p,.tr (p::oas (tmp tt)) (.list ds))]) (upd H p (.lst vs)):=by let b:=h.e;rw[ar]at b q;show h.drop.withRes (b.foldL c q d) rfl
end
section
variable{X:Cx}{K:ca}{pos:Pos}{es:NF}{tl:DA}
def BM(t:DA):DE:=λenv R=>t env λss a=>∃ds,bU a ss=NI ds/\ss.length<=sizeLine/\∀S,R (.tr S (.tuple ds)) a
def yG{x1}(h:PA X es (upA K tl)):PE X (.Tuple es x1 pos) (up K (BM tl)):=(yM h).imp λσ H Q h=>by
 let(M,P,H0,σ0,env,ts,R,b,ht,f):=h;show(M,P,H0,σ0,env,ts,_,b,ht,λss d vs H1 h1 hl a=>?_);let(ds,e,hz,g):=h1;let(q,i):=a.trees hl (λp c=>IE _ c) e;show(!0,λp c=>f _ _ _ _ (g _) (a.resTupT c q i))
end
section
variable{K:ca}{M P:ap->Prop}{H0 H:Hp}{E:Nt}{σ0 σ:St}{env:NA}{ts:Ni}{v:V}{s:Sl}{d:ab}
def xa{E E':Nt}(p:E'.Perm E):(oas E').Perm (oas E):=List.Perm.flatMap_right _ p
def aU.perm(h:aU K M P H0 E H){E':Nt}(p:E'.Perm E):aU K M P H0 E' H:=h.sub (λx s m=>.inl (p.mem_iff.mp m)) ((xa p).nodup_iff.mpr h.nd)
theorem Rel.perm(h:Rel K M P H0 σ0 σ env ts H){a:Ni}(p:a.Perm ts):Rel K M P H0 σ0 σ env a H :=
 (h.e.perm (hA _ (p.map _)),h.len,λv i m=>h.vw v i (p.mem_iff.mp m),h.ios)
def k4{env env':NA}{s:Sl}(h:ji s=NK):eG env s=eG env' s:=by cases s <;> first|rfl|cases h
theorem fW{env env':NA}:∀{ss:NA},(∀s∈ss,ji s=NK)->bU env ss=bU env' ss
 |[],_=>rfl
 |s::ss,h=>by
  unfold bU;rw[k4 (env':=env') (h s IL),fW λx hx=>h x (IM _ hx)]
theorem jo{env:NA}{d:ab}{s:Sl}(e:eG env s=NI d):∀{ss:NA}{ds:Nz},bU env ss=NI ds->bU env (ss++[s])=NI (ds++[d])
 |[],ds,h=>by
  cases h;show(eG env s).bind _=_;rw[e];rfl
 |z :: ss,ds,h=>by
  unfold bU at h;cases e1:eG env z with
  |none=>rw[e1]at h;cases h
  |some d1 =>
   rw[e1]at h;cases e2:bU env ss with
   |none=>rw[e2]at h;cases h
   |some ds' =>
    rw[e2]at h;cases h;show(eG env z).bind _=_;rw[e1];show(bU env (ss++[s])).bind _=_;rw[jo e e2];rfl
end
def CDT(ds:Nz)(ix:M5)(g:DG)(tt:DT)(te:DE)(env:NA)(R:Sl->NA->Prop):Prop:=∃W:Nat->Nz->Prop,W 0 [] /\
 (∀i rs,(h:i< -ds)->W i rs->-rs<sizeLine/\g ds[i] (fm ix env) λa=>tt a λk b=>if k=NK then te b λs c=>∃s' d,gP c s=NI s'/\eG [] s'=NI d/\W (i+1) (rs++[d]) else W (i+1) rs)/\∀rs,W (-ds) rs->∀S,R (.tr S (.list rs)) env
def qN(it:DI)(ix:M5)(g:DG)(tt:DT)(te:DE):DE:=λenv R=>it env λds a=>CDT ds ix g tt te a (dK R ⟨⟩)
section
variable{K:ca}
def x8{it:DI}{ix:M5}{g:DG}{tt:DT}{te:DE}:∀σ H Q,up K (qN it ix g tt te) σ H Q->sR (upI K it) ix (upG K g) (upT K tt) (up K te) σ H Q:=λσ H Q h=>by
 let(M,P,H0,σ0,env,ts,R,I,ht,Z):=h;show⟨M,P,H0,σ0,env,ts,_,I,ht,λds a J H1 kp hF r io=>?_⟩;let(W,w0,turn,done):=hF
 let' S:Nat->NH->Hp->Prop:=λi ys H=>∃rs ss,W i rs/\ys.length=-ss/\(∀s∈ss,ji s=NK)/\bU [] ss=NI rs/\Rel K M P H0 σ0 σ a ((ts++ys.zip ss)++kp) H
 show⟨λi m ys H=>m=-ds-i/\i<=-ds/\S i ys H,⟨_,rfl,Jb _,[],[],w0,rfl,λs hs=>(by cases hs),rfl,by simpa using r⟩,?_⟩;rintro i m ys H2 ⟨rfl,a4,rs,ss,U,hl,G,k,f⟩;let rl:-ys=-rs:=by let(q,_):=f.trees hl (λp u=>IJ _ (IE _ u)) ((fW G).trans k);show q.len
 by_cases l:i< -ds;let(hz,tr):=turn i rs l U;show .inr ⟨io.go f i l,by rw[rl];show hz,λA H'=>S (i+1) A H',λA H' z=>⟨-ds-(i+1),!0,rfl,l,z⟩,λx B y=>?_⟩;let(sm,dn):=io.yld f i x B l y;let c:=f.same sm;let rb:=o5 (ix:=ix) c;let oe:=kH (ix:=ix) c;let nb:∀b,Nw (Nw M (aw σ a ((ts++ys.zip ss)++kp))) (aw (c5 σ ix) (fm ix a) []) b->Nw M (aw σ a ((ts++ys.zip ss)++kp)) b:=λb z=>by
  rcases z with z|z;show z;let ee:aw (c5 σ ix) (fm ix a) []=(c5 σ ix).zip (fm ix a):=by simp[aw,tmp]
  rw[ee,oe]at z;cases z
 show⟨_,_,_,_,fm ix a,[],ds[i],_,λw i m=>(by cases m),rb,dn.to λb V V z=>nb b z,tr,λC b1 H4 h4 D=>?_⟩;show⟨_,_,_,_,b1,[],_,D,h4,λkk b2 H5 X n=>?_⟩;cases kk with
 |false =>
  let k5:aS B H5:=(n.e.keep.mono (M:=N0) λb z=>z).none;show⟨rs,ss,X,hl,G,k,c.same k5⟩
 |true =>
  show⟨_,_,_,_,b2,[],_,n,X,λs Y v L h6 o=>?_⟩;let(s',d,es,td,w6):=h6;let k6:aS B L:=(o.e.keep.mono (M:=N0) λb z=>z).none;let(E,N):=o.unVw (ts:=[]) es;let rk:cI K (Nw M (aw σ a ((ts++ys.zip ss)++kp))) B L v s':=by
   let O:=E.e;rw[show aw C Y ([]++[(Pm v s')])=aw C Y []++tmp [(Pm v s')] from ar]at O;let e8:aU K _ _ B [(Pm (NI v) s')] L:=O.sub (λx t m=>.inl (IE _ m)) (by
    let nd:=O.nd;rw[ah]at nd;show(IT.mp nd).2.1)
   show aU.resOk (T:=[]) e8 N
  let F:=c.withRes (c.e.called k6 rk) N;show⟨rs++[d],ss++[s'],w6,by simp[hl],λt j=>?_,jo td k,?_⟩;rcases II.mp j with j|j;show G t j;rw[IG.mp j];show N;rw[List.zip_append hl];show F.perm ?_;let:ts++(ys.zip ss++[v].zip [s'])++kp=(ts++ys.zip ss)++([(Pm v s')]++kp):=!1
  rw[this];let e9:ts++ys.zip ss++kp++[(Pm v s')]=(ts++ys.zip ss)++(kp++[(Pm v s')]):=!1
  rw[e9];show hA _ r4
 .let e:i=-ds:=!0
  subst e;show .inl ⟨io.stop f,λp u=>?_⟩;let c:=f.drop;let(q,h0):=c.trees hl (λp u=>IE _ u) ((fW G).trans k);show Z _ _ _ _ (done _ U _) (c.resLstT u q h0)
section
variable{X:Cx}{pos:Pos}{N':ND}{ix:M5}{it:DI}{g:DG}{tt:DT}{te:DE}{tg iter elt:bb}{ifs:NF}
def Aq{sc}(hc:X.calm=true)(S:cF X.N X.env N' ix sc)(hi:PI X tg iter (upI K it))
  (hg:∀s H C fp,PG (bCx X N' sc s H C fp) tg (upG K g)) (ht:∀s H C fp,PIf (bCx X N' sc s H C fp) ifs (upT K tt)) (a:∀s H C fp,PE (bCx X N' sc s H C fp) elt (up K te))
  (hs:∀x,KC iter X.env x=pure x:=by intro _;rfl):PE X (.ListComp elt [(tg,iter,ifs,0)] sc pos) (up K (qN it ix g tt te)):=(oq hc S hi hg ht a hs).imp x8
end
end
def Cp:Sl->Option ab
 |.fr d=>NI d
 |.ow ds=>NI (.list ds)
 |.io ds=>NI (.list ds)
 |.tr _ d=>NI d
 |_=>NJ
def vE(env:NA):Sl->Option ab
 |.vw i=>(env[i]?).bind Cp
 |.fr d=>NI d
 |.ow ds=>NI (.list ds)
 |.tr _ d=>NI d
 |_=>NJ
def i5(env:NA):NA->M8
 |[]=>NI []
 |s::ss=>(vE env s).bind λd=>(i5 env ss).bind λds=>NI (d::ds)
def atom:ab->Bool
 |.none=>NK
 |.bool _=>NK
 |.int _=>NK
 |.str _=>NK
 |_=>NL
section
variable{K:ca}{M P N:ap->Prop}{H0 H:Hp}{E:Nt}{σ0 σ:St}{env:NA}{ts:Ni}{v:V}{s:Sl}{d:ab}
theorem DN.atom{a:ap->Prop}{c:Hp}(h:DN K N H v d)(e:atom d=NK):DN K a c v d:=by
 cases h with
 |non=>show .non
 |bl b=>show .bl b
 |int i=>show .int i
 |str x=>show .str x
 |lst _ _=>cases e
 |tup _ _=>cases e
 |dct _ _ _ _ _=>cases e
 |idc _ _ _=>cases e
 |dsk _ _ _ _ _=>cases e
 |fz _=>cases e
def aU.lent{x:Nx}(h:aU K M P H0 E H)(m:(x,s)∈E)(e:Cp s=NI d):∃v,x=NI v/\DN K N0 H v d:=by
 cases s with
 |fr d'=>cases e;let(v,e1,dn):=h.fr _ _ m;show(v,e1,dn.to λb Y Y z=>z.elim)
 |ow ds=>cases e;let(a,vs,e1,e2,dn,_):=h.ow _ _ m;show(_,e1,.lst (SnL.of e2 λz=>z) (dn.to λb Y Y z=>z.elim))
 |io ds=>cases e;let(a,vs,e1,e2,dn,_):=h.io _ _ m;show(_,e1,.lst (SnL.of e2 λz=>z) (dn.to λb Y Y z=>z.elim))
 |tr S d'=>cases e;let(v,e1,ot,_):=h.tr _ _ _ m;show(v,e1,ot.dn (λb z=>z.elim) λa Y z=>z)
 |_=>cases e
def Rel.lentAt(h:Rel K M P H0 σ0 σ env ts H){i:Nat}(e:(env[i]?).bind Cp=NI d):∃v,σ[i]?=NI (NI v)/\DN K N0 H v d:=by
 cases q:env[i]? with
 |none=>rw[q]at e;cases e
 |some s =>
  rw[q]at e;let(x,e1,m):=h.slot q;let(v,e2,w):=h.e.lent m e;show(v,by rw[e1,e2],w)
theorem Rel.lent(h:Rel K M P H0 σ0 σ env ts H)(m:(v,s)∈ts)(e:vE env s=NI d):DN K N0 H v d:=by
 cases s with
 |vw i =>
  cbv;let(w,e1,q):=h.lentAt e;rw[h.vw v i m]at e1;cases e1
  w_up;show q
 |fr d'=>let(w,e1,q):=h.e.lent (s:=.fr d') (cS m) e;cases e1;show q
 |ow d'=>let(w,e1,q):=h.e.lent (s:=.ow d') (cS m) e;cases e1;show q
 |tr S d'=>let(w,e1,q):=h.e.lent (s:=.tr S d') (cS m) e;cases e1;show q
 |_=>cases e
theorem Rel.lents(h:Rel K M P H0 σ0 σ env ts H):∀{vs:NH}{ss:NA}{ds:Nz},-vs=-ss->(∀p∈vs.zip ss,p∈ts)->i5 env ss=NI ds->DNs K N0 H vs ds
 |[],[],_,_,_,e=>by cases e;show .nil
 |v :: vs,s::ss,ds,hl,a,e=>by
  unfold i5 at e;cases e1:vE env s with
  |none=>rw[e1]at e;cases e
  |some d =>
   rw[e1]at e;cases e2:i5 env ss with
   |none=>rw[e2]at e;cases e
   |some ds' =>
    rw[e2]at e;cases e;show .cons (h.lent (a (v,s) (!1)) e1) (h.lents (by simpa using hl) (λp b=>a p (by simp[b])) e2)
 |[],_::_,_,hl,_,_=>by simp at hl
 |_::_,[],_,hl,_,_=>by simp at hl
end
section
variable{X:Cx}{K:ca}{pos p:Pos}{tl:DA}{sp:DSp}{x:bx}{k:Nat}{e:bb}{es:NF}
def GD(i:Nat):DE:=λenv R=>∃d,(env[i]?).bind Cp=NI d/\R (.vw i) env
def FP(i:Nat){x:bx}(hN:X.N[i]?=some x:=by rfl)(hv:Vis X.env.scope x:=by walk_at"v0")(hd:(x==("__debug__" : bx))=false:=by decide)
  (b:(x==("__classdict__" : bx))=false:=by decide):PE X (.Name x pos) (up K (GD i)):=(bu hN hv hd b).imp λσ H Q h=>by
 let(M,P,H0,σ0,env,ts,R,a,(d,e,c),f):=h;let(v,e1,_):=a.lentAt e;show(v,e1,f _ _ _ _ c (a.addVw e1))
def qQ(sp:DSp)(t:DA):DE:=λenv R=>t env λss a=>∃ds,i5 a ss=NI ds/\sp (ds.map .fr) (dK (λr Y=>∃d,r=.fr d/\atom d=NK/\R (.fr d) a) ⟨⟩)
def yf:∀σ H Q,up K (qQ sp tl) σ H Q->nq (spD K sp) [] E0 (upA K tl) σ H Q:=λσ H Q h=>by
 let(M,P,H0,σ0,env,ts,R,g,ht,m):=h;show(M,P,H0,σ0,env,ts,_,g,ht,λss l vs H1 h1 hl c=>?_);let(ds,n,i):=h1;rw[Jh];let f:=c.lents hl (λp o=>IE _ o) n;let q:=fN vs ds;show(N0,ds.map .fr,_,by simp[f.len],mZ f λa z=>z.elim,i,λr s v H' j u e=>?_)
 cbv;let(d,rfl,t,j):=j;let k:aS H1 H':=(e.keep.mono (M:=N0) λb z=>by
  let z:b∈oas (tmp (vs.zip (ds.map .fr))):=z;rw[q]at z;cases z).none
 let(w,e1,dn):=e.fr _ _ IL;cases e1
 w_up;show m _ _ _ _ j ((c.drop.same k).addFr (dn.atom t))
def As(C:Cal X.prog X.w X.K X.mg X.base x k (spD K sp))(b:b9 k X.A)(hg:Gl X x)(c:PA X (e::es) (upA K tl))(hd:(x==("__debug__" : bx))=false:=by decide)
  (d:kq (e::es) X.env=(false,eval e X.env)::kq es X.env:=by rfl) (a:(ze pos (kq es X.env)).any (·.1)=false:=by rfl):PE X (.Call (.Name x p) (e::es) [] pos) (up K (qQ sp tl)):=(lG C b hg c hd d a).imp yf
end
noncomputable def yQ(n:ab):Ny->ab->ab
 |[],_=>n
 |i::p,.list ds=>.list (match ds[i]? with|some c=>ds.set i (yQ n p c)|none=>ds)
 |i::p,.tuple ds=>.tuple (match ds[i]? with|some c=>ds.set i (yQ n p c)|none=>ds)
 |_::_,d=>d
inductive vM (K:ca) (H:Hp):V->Ny->V->Prop
 |nil {v:V}:vM K H v [] v
 |cons {b:ap}{xs:NH}{i:Nat}{x u:V}{p:Ny}:(SqL K H b xs\/SqT K H b xs)->xs[i]?=some x->vM K H x p u->vM K H (.ref b) (i::p) u
section
variable{K:ca}{N:ap->Prop}{H:Hp}
def zF(K:ca)(N:ap->Prop)(H:Hp)(v:V)(p:Ny)(d:ab)(S:NE)(ds:Nz):Prop:=∃a us,vM K H v p (.ref a)/\H a=NI (.lst us)/\a∈S/\us.length=-ds /\
  ∀{N1:ap->Prop}{H1:Hp}{w:V}{e:ab}{c:NE},(∀b o,H b=NI o->N1 b->N b)->aS H H1->N1 a->OT K N1 (upd H1 a (.lst (us++[w]))) w e c->∃S',S'.Perm (S++c)/\OT K N1 (upd H1 a (.lst (us++[w]))) v (yQ (.list (ds++[e])) p d) S'
def OT.path0{v:V}{S:NE}{ds:Nz}(o:OT K N H v (.list ds) S)(nd:S.Nodup):zF K N H v [] (.list ds) S ds:=by
 cases o with
 |@lst a us _ c g q =>
  show(a,us,.nil,g,IL,q.len,λ{N1 H1 w e h} m d na i=>?_);let(j,l):=Jr.mp nd;let k:OTs K N1 (upd H1 a (.lst (us++[w]))) us ds c:=(q.to m).keep ((aO.same d).trans (aO.own na)) λb f=>by
   let(xs,z):=q.lives b f;let nb:b≠a:=λz=>j (z▸f);rw[al nb,d _ _ z,z]
  show(a::(c++(h++[])),!1,.lst aq (k.app (.cons i .nil)))
end
section
variable{K:ca}{M P:ap->Prop}{H0 H:Hp}{T A B:Nt}{v:V}{d:ab}
def aU.appAtU{U:Nt}{i:Hp}{S:NE}{p:Ny}{ds:Nz}(I:aU K M P H0 (A++(Pm (NI v) (.tr S d))::(B++U)) i)(Q:OT K (Nw M (A++(Pm (NI v) (.tr S d))::(B++U))) i v d S->S.Nodup->zF K (Nw M (A++(Pm (NI v) (.tr S d))::(B++U))) i v p d S ds):∃a us,vM K i v p (.ref a)/\i a=NI (.lst us)/\us.length=-ds /\
  ∀{T:Nt}{H:Hp}{w:V}{e:ab},aS i H->(∀a∈oas T,i a=NJ\/a∈oas U)->aU K M P H0 (A++(Pm (NI v) (.tr S d))::(B++T)) H->OT K (Nw M (A++(Pm (NI v) (.tr S d))::(B++T))) H w e (oas T)->(∀a∈oas T,H0 a=NJ)->∃S',aU K M P H0 (A++(Pm (NI v) (.tr S' (yQ (.list (ds++[e])) p d)))::B) (upd H a (.lst (us++[w]))):=by
 cbv;let(v',ev,ot,J):=I.tr _ _ _ (IE _ IL);cases ev;let k:=I.nd;let l:oas (A++(Pm (NI v) (Sl.tr S d))::(B++U))=oas A++(S++(oas B++oas U)):=by rw[ah,aj,aK,ah]
 rw[l]at k;let(a,us,r,R,n,hl,g):=Q ot (IT.mp (IT.mp k).2.1).1
 w_up;show⟨a,us,r,R,hl,λ{T H w e} W X h E Y=>?_⟩;let D:oas (A++(Pm (NI v) (Sl.tr S d))::(B++T))=oas A++(S++(oas B++oas T)):=by rw[ah,aj,aK,ah]
 let nd:=h.nd;rw[D]at nd
 cbv;let(n1,Z,n3):=IT.mp nd;let(n4,n5,L):=IT.mp Z;let(n7,n8,n9):=IT.mp n5;let na:Nw M (A++(Pm (NI v) (Sl.tr S d))::(B++T)) a:=.inr (by rw[D];show IE _ (IJ _ n));let mm:∀b o,i b=NI o->Nw M (A++(Pm (NI v) (Sl.tr S d))::(B++T)) b->Nw M (A++(Pm (NI v) (Sl.tr S d))::(B++U)) b:=λb o N z=>by
  rcases z with z|z;show .inl z;rw[D]at z;show .inr ?_;rw[l];rcases II.mp z with z|z;show IJ _ z;rcases II.mp z with z|z;show IE _ (IJ _ z);rcases II.mp z with z|z;show IE _ (IE _ (IJ _ z));rcases X b z with nb|nb;rw[nb]at N;cases N;show IE _ (IE _ (IE _ nb))
 let s:aO (Nw M (A++(Pm (NI v) (Sl.tr S d))::(B++T))) H (upd H a (.lst (us++[w]))):=aO.own na;let F:=E.keep s λb j=>al λz=>L a n b (IE _ j) z.symm;let(S',pm,G):=g mm W na F
 w_up;show⟨S',?_⟩;let u:oas (A++(Pm (NI v) (Sl.tr S' (yQ (.list (ds++[e])) p d)))::B)=oas A++(S'++oas B):=by rw[ah,aj,aK]
 let y:(oas A++(S'++oas B)).Perm (oas A++(S++(oas B++oas T))):=by show hA _ ((Lr _ pm).trans ?_);rw[JE];show hA _ r4
 let ne:Nw M (A++(Pm (NI v) (Sl.tr S' (yQ (.list (ds++[e])) p d)))::B)=Nw M (A++(Pm (NI v) (Sl.tr S d))::(B++T)):=by funext b;apply propext;unfold Nw;rw[D,u,y.mem_iff]
 let c:∀x t,(Pm x t)∈A\/(Pm x t)∈B->(Pm x t)∈A++(Pm (NI v) (Sl.tr S d))::(B++T):=λx t m=>by
  rcases m with m|m;show IJ _ m;show IE _ (IM _ (IJ _ m))
 let f:∀x t,(Pm x t)∈A++(Pm (NI v) (Sl.tr S' (yQ (.list (ds++[e])) p d)))::B->(Pm x t)=(Pm (NI v) (Sl.tr S' (yQ (.list (ds++[e])) p d)))\/((Pm x t)∈A\/(Pm x t)∈B):=λx t m=>by
  rcases II.mp m with m|m;show .inr (.inl m);rcases IR.mp m with m|m;show .inl m;show .inr (.inr m)
 let other:∀x t b,(Pm x t)∈A\/(Pm x t)∈B->b∈cH (Pm x t)->b≠a:=λx t b m O z=>by
  subst z;rcases m with m|m;show n3 b (aT.mpr ⟨_,m,O⟩) b (IJ _ n) rfl;show L b n b (IJ _ (aT.mpr ⟨_,m,O⟩)) rfl
 show⟨h.keep.put (J a n),λb q z=>?_,h.mt,h.pm,λx d' m=>?_,λx d' m=>?_,λx d' m=>?_,λx S2 d' m=>?_,?_⟩;by_cases j:b=a;subst j;rw[aq]at z;cases z;rw[al j]at z;show h.live b q z;rw[ne];rcases f _ _ m with m|m;cases m;let(w',e1,dn):=h.fr x d' (c _ _ m);show⟨w',e1,dn.keep s⟩;rw[ne];rcases f _ _ m with m|m;cases m;let(b,us2,e1,e2,dn,C):=h.ow x d' (c _ _ m);subst e1;show⟨b,us2,rfl,by rw[al (other _ _ b m (IG.mpr rfl))];show e2,dn.keep s,C⟩;rw[ne];rcases f _ _ m with m|m;cases m;let(b,us2,e1,e2,dn,C):=h.io x d' (c _ _ m);subst e1;show⟨b,us2,rfl,by rw[al (other _ _ b m (IG.mpr rfl))];show e2,dn.keep s,C⟩;rw[ne];rcases f _ _ m with m|m;cases m;show⟨v,rfl,G,λb j=>?_⟩;rcases II.mp (pm.mem_iff.mp j) with z|z;show J b z;show Y b z;let(w',e1,dn,C):=h.tr x S2 d' (c _ _ m);subst e1;show⟨w',rfl,dn.keep s λb j=>al (other _ _ b m (by rw[aK];show j)),C⟩;rw[u];show y.nodup_iff.mpr nd
end
section
variable{K:ca}{M P:ap->Prop}{H0 H H':Hp}{σ0 σ:St}{env:NA}{ts:Ni}
def Rel.setTr{i:Nat}{S S':NE}{d d':ab}{v:V}{A B:Nt}(h:Rel K M P H0 σ0 σ env ts H)(e:env[i]?=NI (.tr S d))(a:aw σ (env.set i (.tr S' d')) ts=A++(NI v,.tr S' d')::B)(b:aU K M P H0 (A++(NI v,.tr S' d')::B) H'):Rel K M P H0 σ0 σ (env.set i (.tr S' d')) ts H':=by show(by rw[a];show b,by simp[h.len],h.vw,λj ds' e'=>?_);by_cases hj:i=j;subst hj;let hi:i< -env:=(IN.mp e).1;rw[Jc hi]at e';cases e';rw[Je hj]at e';show h.ios j ds' e'
end
def lY(ns:Np):oG (ns.map eb)=NK:=by
 induction ns with
 |nil=>rfl
 |cons n ns a=>show a
def B3{ds:Nz}{ix:M5}{g:DG}{te:DE}{env:NA}{R:Sl->NA->Prop}(f:Nat->ab)(hz:-ds<=1000000)
  (h : ∀i,(h:i< -ds)->∀Q:ab->Prop,Q (f i)->g ds[i] (fm ix env) λa=>te a λs b=>∃s' d,gP b s=NI s'/\eG [] s'=NI d/\Q d) (c:∀S,R (.tr S (.list ((cp (-ds)).map f))) env):CDT ds ix g xX te env R:=by show(λi rs=>rs=(cp i).map f/\i<=-ds,(rfl,Jb _),λi rs hi w=>?_,λrs w S=>by rw[w.1];show c S);let(rfl,_):=w;show(by rw[IF,Jl];show IY (!0) ae,?_);let:=h i hi (λd=>(cp i).map f++[d]=(cp (i+1)).map f/\i+1<=-ds) (by rw[J6,Jm];rfl,hi);simpa only[xX,if_true] using this
def jy{α:Type}(l:List α)(z:α):(cp (-l)).map (λi=>l.getD i z)=l:=by show JJ (!1) λi h1 h2=>?_;simp[IP,IK h2]
def bO{α β:Type}(l:List α)(z:α)(g:α->β):(cp (-l)).map (λi=>g (l.getD i z))=l.map g:=by
 conv=>rhs;rw[<-jy l z,Jq]
 rfl
def dw{α β:Type}(l:List α)(z:α)(p:α->Bool)(g:α->β):((cp (-l)).filter λi=>p (l.getD i z)).map (λi=>g (l.getD i z))=(l.filter p).map g:=by
 conv=>rhs;rw[<-jy l z,MC,Jq]
 rfl
abbrev lr(rs:M9):Nz:=rs.map λr=>.list (li r)
def gJ{rs:M9}{i:Nat}{h:i<(lr rs).length}:(lr rs)[i]=.list (li (rs.getD i [])):=by
 let h':i< -rs:=by simpa using h
 rw[Jn,IP,IK h'];rfl
theorem Sh.lr(n:Nat)(rs:M9):Sh (n+2) (.list (lr rs)):=Sh.list λx hx=>by
 let(r,_,rfl):=IZ.mp hx;show Sh.ints n r
def Sh.two{n:Nat}{a b:ab}(c:Sh n a)(d:Sh n b):Sh (n+1) (.tuple [a,b]):=Sh.tuple λx hx=>by
 simp only[IR,Jk,or_false]at hx;rcases hx with rfl|rfl <;> assumption
def qy{d:ab}{n:Nat}(h:Sh n d)(hn:n<=64):ed d d=NK:=SeqAt.eqv_refl _ (du (h.shp hn))
section
variable{X:Cx}{K:ca}{pos:Pos}{es:NF}{tl:DA}{e:bb}{ta:DE}{M P N:ap->Prop}{H0 H:Hp}{σ0 σ:St}{env:NA}{ts:Ni}
def BR(t:DA):DE:=λenv R=>t env λss a=>∃ds,bU a ss=NI ds/\ss.length<=sizeLine/\∀S,R (.tr S (.list ds)) a
def yH(h:PA X es (upA K tl)):PE X (.List es pos) (up K (BR tl)):=(yP h).imp λσ H Q h=>by
 let(M,P,H0,σ0,env,ts,R,b,ht,f):=h;show(M,P,H0,σ0,env,ts,_,b,ht,λss d vs H1 h1 hl a=>?_);let(ds,e,hz,g):=h1;let(q,i):=a.trees hl (λp c=>IE _ c) e;show(!0,λp c=>f _ _ _ _ (g _) (a.resLstT c q i))
def BZ(i:Nat)(te:DE):DE:=λenv R=>(∃S ds,env[i]?=NI (.tr S (.list ds)))/\te env λs a=>∃S ds s' d,a[i]?=NI (.tr S (.list ds))/\gP a s=NI s'/\eG [] s'=NI d/\ds.length<sizeLine/\∀S',R (.fr .none) (a.set i (.tr S' (.list (ds++[d]))))
def C7(i:Nat){y:bx}{apos cpos npos:Pos}(hK:X.K=K)(hN:X.N[i]?=some y)(G:PE X e (up K ta))
  (hv:Vis X.env.scope y:=by walk_at"v0") (hd:(y==("__debug__" : bx))=false:=by decide)
  (z:(y==("__classdict__" : bx))=false:=by decide)
  (q:kq [e] X.env=[(false,eval e X.env)]:=by rfl)
  (l:z5 (.Name y npos) "append" X.env (eval (.Name y npos) X.env)=eval (.Name y npos) X.env:=by rfl)
  (r:((ze cpos (kq [e] X.env)).all (λx=>!x.1)&&(KU cpos (KA [] X.env)).all (λx=>x.1.isSome)&&decide ([e].length+([]:NG).length+(if ([]:NG).isEmpty then 0 else 1)<30))=true:=by rfl)
  (m:(apos.endLine==cpos.line)=true:=by rfl) (j:(ze cpos (kq [] X.env)).any (·.1)=false:=by rfl) :
  PE X (.Call (.Attribute (.Name y npos) "append" apos) [e] [] cpos) (up K (BZ i ta)) :=
 (kBm (K:=K) hK gk Lo Ln lZ (bu hN hv hd z) (cB G fM q) l r m q j).imp λσ H Q h=>by
 cbv;let(M,P,H0,σ0,env,ts,R,n,((S0,I,J),ht),L):=h;let(x,ex,O):=n.slot J;let(v,ev,C,_):=n.e.tr _ _ _ O;subst ev
 w_up;cases C with
 |@lst a vs _ Sq T qH =>
  show(.ref a,ex,.inl (rfl,vs,SqL.of T),M,P,H0,σ0,env,ts,_,n,ht,λs1 t v1 H1 h1 f=>?_)
  cbv;let(S,ds,s',d,e1,es,U,hz,V):=h1;let(k,W):=f.unVw es;let(x',A,B,u,Y,Z):=f.drop.split e1;rw[ex]at u;cases u;let D:=k.e;let eA:aw σ t (ts++[(v1,s')])=A++(NI (.ref a),Sl.tr S (.list ds))::(B++[(NI v1,s')]):=by rw[ar,Y];simp[tmp]
  let(ot,w):=k.tree (v:=v1) (s:=s') (IE _ IL) ((k4 (env':=[]) W).trans U);let oe:oas [((NI v1,s'):Ent)]=cH (NI v1,s'):=by rw[aj];simp[oas]
  rw[eA]at D ot;rw[<-oe]at ot w;let(b,us,rc,E,hl,g):=aU.appAtU (p:=[]) (ds:=ds) D λo nd=>o.path0 nd;cases rc;let(S',re):=g (aS.refl _) (λc hc=>.inr hc) D ot w
  w_up;show(a,us,v1,rfl,rfl,E,by rw[hl];show hz,?_);show L _ _ _ _ (V S') ((f.drop.setTr e1 (Z _) re).addFr .non)
end
def EV:Sl->Bool
 |.ow _=>NK
 |.tr _ _=>NK
 |.fr _=>NK
 |_=>NL
section
variable{X:Cx}{K:ca}{pos:Pos}{M P N:ap->Prop}{H0 H:Hp}{σ0 σ:St}{env:NA}{ts:Ni}{v:V}
def Rel.move{i:Nat}{s:Sl}(h:Rel K M P H0 σ0 σ env ts H)(e:env[i]?=NI s)(hs:EV s=NK):∃v,σ[i]?=NI (NI v)/\Rel K M P H0 σ0 σ (env.set i .un) (ts++[(v,s)]) H:=by
 cbv;let(x,A,B,e1,c,f):=h.split e;let b:=h.e;rw[c]at b;obtain⟨v,ev⟩:∃v,x=NI v:=by
  cases s with
  |fr d=>let(v,ev,_):=b.fr _ _ (IE _ IL);show(v,ev)
  |ow ds=>let(a,vs,ev,_):=b.ow _ _ (IE _ IL);show(_,ev)
  |tr S d=>let(v,ev,_):=b.tr _ _ _ (IE _ IL);show(v,ev)
  |_=>cases hs
 subst ev
 w_up;show(v,e1,?_);let g:aw σ (env.set i .un) (ts++[(v,s)])=(A++(NI v,Sl.un)::B)++[(NI v,s)]:=by rw[ar,f];rfl
 let k:oas ((A++(NI v,Sl.un)::B)++[(NI v,s)])=oas A++(oas B++cH (NI v,s)):=by rw[ah,ah,aj,gi,aj];simp[oas]
 show(?_,by simp[h.len],λw j m=>?_,λj l' e'=>?_);rw[g];show b.sub (λx t m=>?_) ?_;rcases II.mp m with m|m;rcases II.mp m with m|m;show .inl (IJ _ m);rcases IR.mp m with m|m;cases m;show .inr (.inl rfl);show .inl (IE _ (IM _ m));rw[IG]at m;cases m;show .inl (IE _ IL);let nd:=b.nd;rw[ah,aj]at nd;rw[k];show(hA _ r4).nodup_iff.mpr nd;rcases II.mp m with m|m;show h.vw w j m;rw[IG]at m;cases m;cases hs;by_cases hj:i=j;subst hj;rw[Jc (IN.mp e).1]at e';cases e';rw[Je hj]at e';show h.ios j l' e'
def Gy(i:Nat):DE:=λenv R=>∃s,env[i]?=NI s/\EV s=NK/\R s (env.set i .un)
def C2(i:Nat){x:bx}(hN:X.N[i]?=some x:=by rfl)(hv:Vis X.env.scope x:=by walk_at"v0")(hd:(x==("__debug__" : bx))=false:=by decide)
  (b:(x==("__classdict__" : bx))=false:=by decide):PE X (.Name x pos) (up K (Gy i)):=(bu hN hv hd b).imp λσ H Q h=>by
 let(M,P,H0,σ0,env,ts,R,c,(s,e,hs,d),f):=h;let(v,e1,a):=c.move e hs;show(v,e1,f _ _ _ _ d a)
end
open Builtin Builtin.Str StrLaws PySem.NumText PySem.W
def jn(s:Ny):List Ny->Ny
 |[]=>[]
 |[x]=>x
 |x::y::r=>x++(s++jn s (y::r))
def cpl(x:bx):Ny:=x.cps.toList
def oZ{x y:bx}(h:cpl x=cpl y):x=y:=Str.ext' (Array.toList_inj.mp h)
def gu(x y:bx):cpl (x++y)=cpl x++cpl y:=by simp[cpl,Str.cps_append]
theorem eF(s:bx):∀ys:ND,cpl (hC s ys)=jn (cpl s) (ys.map cpl)
 |[]=>rfl
 |[x]=>rfl
 |x::y::r=>by
  show cpl (x++s++hC s (y::r))=cpl x++(cpl s++jn (cpl s) (cpl y::r.map cpl))
  rw[gu,gu,eF s (y::r),JE];rfl
theorem h8{c:Nat}:∀{p q A B:Ny},c ∉ p->c ∉ q->p++c::A=q++c::B->p=q/\A=B
 |[],[],A,B,_,_,h=>by simpa using h
 |[],y::q,A,B,_,a,h=>by
  simp at h;show absurd h.1 λz=>a (by simp[z])
 |x::p,[],A,B,b,_,h=>by
  simp at h;show absurd h.1 λz=>b (by simp[z])
 |x::p,y::q,A,B,b,a,h=>by
  simp at h b a;let(e1,e2):=h8 (p:=p) (q:=q) b.2 a.2 h.2;show(by rw[h.1,e1],e2)
theorem yV(c:Nat):∀{ps qs:List Ny},ps≠[]->qs≠[]->(∀p∈ps,c ∉ p)->(∀q∈qs,c ∉ q)->jn [c] ps=jn [c] qs->ps=qs
 |[],_,h,_,_,_,_=>absurd rfl h
 |_,[],_,h,_,_,_=>absurd rfl h
 |[p],[q],_,_,_,_,h=>by
  let h:p=q:=h;rw[h]
 |[p],q::a::r,_,_,b,_,h=>by
  let h:p=q++([c]++jn [c] (a::r)):=h;show absurd (by rw[h];simp) (b p (!1))
 |p::p2::r,[q],_,_,_,d,h=>by
  let h:p++([c]++jn [c] (p2::r))=q:=h;show absurd (by rw[<-h];simp) (d q (!1))
 |p::p2::r,q::a::r',_,_,b,d,h=>by
  let h:p++c::jn [c] (p2::r)=q++c::jn [c] (a::r'):=h;let(e1,e2):=h8 (b p (!1)) (d q (!1)) h;let e3:=yV c (ps:=p2::r) (qs:=a::r') (!1) (!1) (λx hx=>b x (IM _ hx)) (λx hx=>d x (IM _ hx)) e2;rw[e1,e3]
theorem iO:∀{ps qs:ND},ps.map cpl=qs.map cpl->ps=qs
 |[],[],_=>rfl
 |[],_::_,h=>by simp at h
 |_::_,[],h=>by simp at h
 |p::ps,q::qs,h=>by
  simp at h;rw[oZ h.1,iO h.2]
def jr{c:Nat}{ys:ND}(a:ys≠[])(d:∀y∈ys,c ∉ cpl y):Txt.split (hC ⟨#[c]⟩ ys) ⟨#[c]⟩=ys:=by show iO (yV c ?_ (by simpa using a) (λp f=>?_) (λq g=>?_) ?_);intro z;let:=Iv (hC ⟨#[c]⟩ ys) ⟨#[c]⟩;rw[Mc.mp z]at this;simp at this;let(y,b,rfl):=IZ.mp f;show split_free _ c y b;let(y,b,rfl):=IZ.mp g;show d y b;let e:=congrArg cpl (StrLaws.join_split (hC ⟨#[c]⟩ ys) ⟨#[c]⟩);rw[eF,eF]at e;show e
theorem qj(m:Nat)(s:Ny)(hs:s.count m=1):∀ps:List Ny,ps≠[]->(jn s ps).count m+1=-ps+(ps.map (·.count m)).sum
 |[],h=>absurd rfl h
 |[p],_=>by
  show p.count m+1=1+(p.count m+0)
  lia
 |p::q::r,_=>by
  let a:=qj m s hs (q::r) (!1);show(p++(s++jn s (q::r))).count m+1=_;rw[o1,o1,hs];simp only[IU,JB,Jf]at a ⊢;lia
def bar:bx:=cq " | "
def o7:cpl bar=[32,124,32]:=!3
def sW{A B:bx}(b:124 ∉ cpl A)(d:124 ∉ cpl B):Txt.split (A++bar++B) bar=[A,B]:=by
 let a:=congrArg cpl (StrLaws.join_split (A++bar++B) bar);rw[eF,gu,gu,o7]at a;let c:=Iv (A++bar++B) bar;let two:2<=(Txt.split (A++bar++B) bar).length:=by
  unfold Txt.split;let g:(decide ((A++bar++B).length< -bar) ||decide (ms (A++bar++B)<ms bar))=NL:=by
   let h:ms bar=1:=!3
   let t:1<=ms (A++bar++B):=by unfold ms;split;lia;split <;> lia
   let l1:-bar<=(A++bar++B).length:=by rw[gs,gs];lia
   rw[h,decide_eq_false (!0),decide_eq_false (!0)];rfl
  rw[g];simp only[Jj,if_false];let(f,ch,no):=occ_tight (A++bar++B) bar (!3);let j:-bar=3:=!3
  let la:(cpl A).length=-A:=by simp[cpl,nl]
  let at':At (A++bar++B) bar (A++bar++B).length (-A):=by
   show(by rw[gs,gs];lia,?_);rw[subAt_eq];let e1:(A++bar++B).cps.toList=cpl A++([32,124,32]++cpl B):=by show cpl (A++bar++B)=_;rw[gu,gu,o7,JE]
   let e2:bar.cps.toList=[32,124,32]:=o7;rw[e1,e2,j,<-la,List.drop_left];rfl
  cases e:occurrences (A++bar++B) bar 0 (A++bar++B).length ((A++bar++B).length+1) with
  |nil =>
   rw[e]at ch;let ch:f=0:=ch;show absurd at' (no _ (!0))
  |cons i r =>
   simp only[List.isEmpty_cons,Jj,if_false];rw[partsBetween_eq];let(p,q,e3):=partsFrom_ne (A++bar++B) (-bar) (i+-bar) r;show 2<=(strSub (A++bar++B) 0 i::partsFrom (A++bar++B) (-bar) (i+-bar) r).length;rw[e3];simp
 generalize Txt.split (A++bar++B) bar=ps at *;let hc:=qj 124 [32,124,32] (!2) (ps.map cpl) (by intro z;rw[Mc.mp z]at c;simp at c);rw[a]at hc;let k:(cpl A).count 124=0:=vu.mpr b;let l:(cpl B).count 124=0:=vu.mpr d;rw[o1,o1,k,l]at hc;let m:([32,124,32]:Ny).count 124=1:=!2
 rw[m,IF]at hc
 match ps,two,hc,a with
 |[p,q],_,hc,a =>
  simp only[IU,J5,JB,MY,Jf,List.length_nil]at hc;let n:(cpl p).count 124=0:=!0
  let u:(cpl q).count 124=0:=!0
  let a:cpl p++([32,124,32]++cpl q)=cpl A++[32,124,32]++cpl B:=a;let a:(cpl p++[32])++124::(32::cpl q)=(cpl A++[32])++124::(32::cpl B):=by simpa using a
  let o:124 ∉ cpl p++[32]:=by let:=vu.mp n;simp[this]
  let s:124 ∉ cpl A++[32]:=by simp[b]
  let(e1,e2):=h8 o s a;rw[oZ (List.append_cancel_right e1),oZ (Lg e2).2]
 |[],two,_,_=>simp at two
 |[_],two,_,_=>simp at two
 |_::_::_::_,_,hc,_=>simp at hc;lia
def num(n:Int):bx:=cq (toString n)
def kh(m:Nat):cpl (num (m:Int))=(JX 10 m).map Char.toNat:=PySem.W.KIN.signs_num m
def k7{m k:Nat}(hk:1<=k)(h:m<10 ^ k):(JX 10 m).length<=k:=by
 induction k generalizing m with
 |zero=>lia
 |succ k b =>
  by_cases c:m<10;rw[rg c];simp;let a:m % 10<10:=v2 m (!2);let t:JX 10 (m / 10)++JX 10 (m % 10)=JX 10 (10*(m / 10)+m % 10):=Lp (!2) (!0) a;rw[MI]at t;rw[<-t,Jg,rg a];rw[LW]at h;by_cases d:k=0;subst d;simp at h;lia;let:=b (m:=m / 10) (!0) (!0);simp;lia
def fA{m:Nat}(h:1<=m):∃c r,JX 10 m=c::r/\c≠'0':=by
 induction m using Nat.strongRecOn with
 |_ m b =>
  by_cases a:m<10;rw[rg a];show(_,[],rfl,?_);let:∀d:Nat,d<10->1<=d->Nat.digitChar d≠'0':=!2
  show this m a h;let f:m % 10<10:=v2 m (!2);let t:JX 10 (m / 10)++JX 10 (m % 10)=JX 10 (10*(m / 10)+m % 10):=Lp (!2) (!0) f;rw[MI]at t;let(c,r,e,hc):=b (m / 10) (!0) (!0);show(c,r++JX 10 (m % 10),by rw[<-t,e];rfl,hc)
def bP{n:Int}(b:0<=n):∀c∈cpl (num n),48<=c/\c<=57:=by let(m,rfl):=JS b;intro c hc;rw[kh]at hc;let(ch,a,e):=IZ.mp hc;let r:=PyProof.Rows.digit_range (Nat.isDigit_of_mem_toDigits (!2) (!2) a);rw[<-e];show r
def oF{n:Int}{k:Nat}(a:0<=n)(hk:1<=k)(h:n<10 ^ k):1<=(num n).length/\(num n).length<=k:=by
 let(m,rfl):=JS a;let e:(num (m:Int)).length=(JX 10 m).length:=by let:=congrArg np (kh m);simpa[cpl,nl] using this
 let h':m<10 ^ k:=by
  let:((m:Nat):Int)<((10 ^ k:Nat):Int):=by simpa using h
  lia
 rw[e];show(?_,k7 hk h');by_cases b:m=0;subst b;decide;let(c,r,e,_):=fA (m:=m) (!0);rw[e];simp
def xc{n:Int}(a:0<=n):(cpl (num n))[0]?=NI 48->n=0:=by
 let(m,rfl):=JS a;intro h;by_cases b:m=0;rw[b];rfl;let(c,r,e,hc):=fA (m:=m) (!0);rw[kh,e]at h;let h:c.toNat=48:=by simpa using h
 let:c='0':=by apply Char.ext;apply UInt32.toNat_inj.mp;show h
 show absurd this hc
def xf{n:Int}(a:0<=n)(h:n<10 ^ 100):sg (num n)=NI n:=by
 let hl:=oF a (!2) h;let hd:PySem.NumText.AllDigits (num n).cps.toList:=bP a;let b:(num n).cps.toList≠[]:=λz=>by
  let:(num n).length=0:=by show(num n).cps.size=0;rw[<-hh,z];rfl
  lia
 let e:=intText_digits hd b (!0);let(m,rfl):=JS a;let e2:(num (m:Int)).cps.toList=_:=kh m;rw[e2,PySem.W.KIN.val_back]at e;show e
theorem fX{α:Type}(f:α->Nat)(c:Nat):∀l:List α,(∀x∈l,f x<=c)->(l.map f).sum<=c*-l
 |[],_=>Jb _
 |x::l,h=>by
  let h1:=h x (!1);let h2:=fX f c l λy a=>h y (IM _ a);simp only[IU,JB,Jf,Nat.mul_succ];lia
def NB(ns:Np):Prop:=-ns<=6/\∀n∈ns,0<=n/\n<10 ^ 40
def NB.log{ns:Np}(h:NB ns){n:Int}(hn:n∈ns):n.natAbs.log2<1920:=by let(a,h1):=h.2 n hn;let:n.natAbs<2 ^ 1920:=IY (m:=10 ^ 40) (!0) (!3);by_cases z:n.natAbs=0;rw[z];decide;show(Nat.log2_lt z).mpr this
def NB.lens{ns:Np}(h:NB ns){b:bx}(a:-b<=10):((ns.map num).map (·.length)).sum+(ns.map num).length*-b<=300:=by
 let h1:=fX (·.length) 40 (ns.map num) λx hx=>by
  let(n,hn,rfl):=IZ.mp hx;show(oF (h.2 n hn).1 (!2) (h.2 n hn).2).2
 let h2:=h.1;rw[IF]at h1 ⊢;let h3:-ns*-b<=6*10:=MN h2 a;lia
def sgn(c:Nat):bx:=⟨#[c]⟩
def kg{ns:Np}(h:NB ns)(c:Nat):∀x∈cpl (hC (sgn c) (ns.map num)),x=c\/(48<=x/\x<=57):=by
 intro x hx;rw[eF]at hx;let gen:∀(ps:List Ny),(∀p∈ps,∀x∈p,48<=x/\x<=57)->∀x∈jn [c] ps,x=c\/(48<=x/\x<=57):=by
  intro ps
  induction ps with
  |nil=>intro _ x hx;cases hx
  |cons p r d =>
   intro a x hx;cases r with
   |nil=>show .inr (a p (!1) x hx)
   |cons q r =>
    let hx:x∈p++([c]++jn [c] (q::r)):=hx;rcases II.mp hx with hx|hx;show .inr (a p (!1) x hx);rcases II.mp hx with hx|hx;show .inl (IG.mp hx);show d (λy b=>a y (IM _ b)) x hx
 show gen _ (λp a y b=>?_) x hx;let(z,hz,rfl):=IZ.mp a;let(n,hn,rfl):=IZ.mp hz;show bP (h.2 n hn).1 y b
def rp{ns:Np}(h:NB ns)(a:ns≠[]){c:Nat}(hc:c<48):Txt.split (hC (sgn c) (ns.map num)) (sgn c)=ns.map num:=by show jr (by simpa using a) λy b z=>?_;let(n,hn,rfl):=IZ.mp b;let:=bP (h.2 n hn).1 c z;lia
def d6{ns:Np}(h:NB ns)(c:Nat):(hC (sgn c) (ns.map num)).length<=300:=by show IQ (StrLaws.join_length_le _ _) ?_;show h.lens (by show 1<=10;decide)
def p9{ns:Np}(h:NB ns){c:Nat}(hc:c<48):124 ∉ cpl (hC (sgn c) (ns.map num)):=λz=>by
 rcases kg h c 124 z with e|e <;> lia
def fig(c:Nat)(h:48<=c/\c<=57):(!(ej (cq "0123456789") ⟨#[c]⟩ 0 (cq "0123456789").length 1).isEmpty)=NK:=by
 let:∀k,k<10->(!(ej (cq "0123456789") ⟨#[k+48]⟩ 0 (cq "0123456789").length 1).isEmpty)=NK:=!3
 let:=this (c-48) (!0);rwa [show c-48+48=c by lia]at this
def uB{n:Int}(a:0<=n):(num n).cps.all (·<128)=NK:=by rw[me];intro c hc;let:=bP a c (by simpa[cpl] using hc);simp;lia
def Gs:bx:=cq "-"
def dot:bx:=cq "."
def qJ:cpl Gs=[45]:=!3
def oT:cpl dot=[46]:=!3
def gz(r:Np):bx:=if r=[] then Gs else hC (sgn 44) (r.map num)
def fK(rs:M9):bx:=hC (sgn 32) (rs.map gz)
def dU(rs:M9):bx:=if rs=[] then dot else fK rs
def AA(a b:M9):bx:=dU a++bar++fK b
def CL(x:Nat):Prop:=x=44\/x=45\/(48<=x/\x<=57)
def nV{r:Np}(h:NB r):∀x∈cpl (gz r),CL x:=by intro x hx;unfold gz at hx;split at hx;rw[qJ]at hx;show .inr (.inl (IG.mp hx));rcases kg h 44 x hx with e|e;show .inl e;show .inr (.inr e)
def wF{r:Np}(h:NB r)(a:r≠[]):gz r≠Gs:=by
 intro z;unfold gz at z;rw[M1 a]at z;let:45∈cpl (hC (sgn 44) (r.map num)):=by rw[z,qJ];simp
 rcases kg h 44 45 this with e|e <;> lia
def D5{c:Nat}{b:Nat->Prop}:∀(ps:List Ny),(∀p∈ps,∀x∈p,b x)->∀x∈jn [c] ps,x=c\/b x:=by
 intro ps
 induction ps with
 |nil=>intro _ x hx;cases hx
 |cons p r d =>
  intro a x hx;cases r with
  |nil=>show .inr (a p (!1) x hx)
  |cons q r =>
   let hx:x∈p++([c]++jn [c] (q::r)):=hx;rcases II.mp hx with hx|hx;show .inr (a p (!1) x hx);rcases II.mp hx with hx|hx;show .inl (IG.mp hx);show d (λy e=>a y (IM _ e)) x hx
def jZ{rs:M9}(h:∀r∈rs,NB r):∀x∈cpl (fK rs),x=32\/CL x:=by intro x hx;unfold fK at hx;rw[eF]at hx;show D5 _ (λp a y b=>?_) x hx;let(z,hz,rfl):=IZ.mp a;let(r,c,rfl):=IZ.mp hz;show nV (h r c) y b
def rn{rs:M9}(h:∀r∈rs,NB r)(a:rs≠[]):Txt.split (fK rs) (sgn 32)=rs.map gz:=by show jr (by simpa using a) λy b z=>?_;let(r,c,rfl):=IZ.mp b;rcases nV (h r c) 32 z with e|e|e <;> lia
def pN{rs:M9}(h:∀r∈rs,NB r):124 ∉ cpl (fK rs):=λz=>by
 rcases jZ h 124 z with e|e|e|e <;> lia
def wE{rs:M9}(h:∀r∈rs,NB r):fK rs≠dot:=λz=>by
 let:46∈cpl (fK rs):=by rw[z,oT];simp
 rcases jZ h 46 this with e|e|e|e <;> lia
def xF{rs:M9}(h:∀r∈rs,NB r):124 ∉ cpl (dU rs):=by unfold dU;split;rw[oT];decide;show pN h
def Ad{r:Np}(h:NB r):(gz r).length<=300:=by unfold gz;split;decide +kernel;show d6 h 44
def lz{rs:M9}(h:∀r∈rs,NB r)(hl:-rs<=64){b:bx}(a:-b<=10):((rs.map gz).map (·.length)).sum+(rs.map gz).length*-b<=20000:=by
 let h1:=fX (·.length) 300 (rs.map gz) λx hx=>by
  let(r,c,rfl):=IZ.mp hx;show Ad (h r c)
 rw[IF]at h1 ⊢;let h3:-rs*-b<=64*10:=MN hl a;lia
def fJ{rs:M9}(h:∀r∈rs,NB r)(hl:-rs<=64):(fK rs).length<=20000:=by show IQ (StrLaws.join_length_le _ _) ?_;show lz h hl (by show 1<=10;decide)
section
variable{X:Cx}{K:ca}
def Bt:G2:=λd e R=>∃a b:bx,d=.str a/\e=.str b/\a.length+-b<=1000000/\R (.str (a++b))
def xo:bq K (λx y H Q=>∃i j,x=.str i/\y=.str j/\i.length+-j<=sizeLine/\Q (.str (i++j)) H) Bt:=by rintro N H x y d e R Q c f ⟨a,b,rfl,rfl,hz,g⟩ h;show(a,b,c.str,f.str,IQ hz ae,h _ _ g (.str _))
def Gc:G2:=λd e R=>∃a b:bx,d=.str a/\e=.str b/\R (.bool (!(ej b a 0 (-b) 1).isEmpty))
def HV:bq K (λx y H Q=>∃i j,x=.str i/\y=.str j/\Q (.bl (!(ej j i 0 (-j) 1).isEmpty)) H) Gc:=by rintro N H x y d e R Q c f ⟨a,b,rfl,rfl,g⟩ h;show(a,b,c.str,f.str,h _ _ g (.bl _))
def Br:GB:=λds R=>∃a:bx,ds=[.str a]/\a.length<=1000000/\R (.int (-a))
def FW:eO K (λxs H Q=>∃z,xs=[.str z]/\z.length<=sizeLine/\Q (.int (-z)) H) Br:=by
 rintro N H xs ds R Q w ⟨a,rfl,hz,b⟩ c;cases w with
 |cons d e=>cases e;show(a,by rw[d.str],IQ hz ae,c _ _ b (.int _))
def F6:GB:=λds R=>∃i:Int,ds=[.int i]/\i.natAbs.log2<1920/\R (.str (cq (toString i)))
def HL:eO K (λxs H Q=>∃i,xs=[.int i]/\i.natAbs.log2<1920/\Q (.str (toString i)) H) F6:=by
 rintro N H xs ds R Q w ⟨a,rfl,hz,b⟩ c;cases w with
 |cons d e=>cases e;show(a,by rw[d.int],hz,c _ _ b (.str _))
def F3:cZ X (.type "int") (λxs H Q=>∃(a:bx) (n:Int),xs=[.str a]/\sg a=NI n/\a.length<=640/\Q (.int n) H):=by
 intro pins s σ H xs us Q I r h
 cbv;let(a,n,rfl,hn,hz,q):=h;let(u,rfl,b):=fw r;let(t,rfl):=b
 w_up;show PySem.W.KIN.call_text hn hz (.int n,H,I.tok _,(_,rfl),q)
def Bs:GB:=λds R=>∃(a:bx) (n:Int),ds=[.str a]/\sg a=NI n/\a.length<=640/\R (.int n)
def FX:eO K (λxs H Q=>∃(a:bx) (n:Int),xs=[.str a]/\sg a=NI n/\a.length<=640/\Q (.int n) H) Bs:=by
 rintro N H xs ds R Q w ⟨a,n,rfl,hn,hz,b⟩ c;cases w with
 |cons d e=>cases e;show(a,n,by rw[d.str],hn,hz,c _ _ b (.int _))
theorem kU:∀(ps:ND) (k:Nat),aH (ps.map V.str) (strsFrom k ps)
 |[],_=>.nil
 |p::ps,k=>.cons (_,rfl) (kU ps (k+1))
def CM:V->NH->Hp->VK->Prop:=λx vs H Q=>∃a b:bx,x=.str a/\vs=[.str b]/\(-b==0)=NL/\a.length<=100000/\∀p,H p=NJ->Q (.ref p) (upd H p (.lst ((Txt.split a b).map .str)))
def xk:MtR X "str.split" CM:=by
 intro pins s σ H x vs v us Q I i rv h
 cbv;let(a,b,rfl,rfl,g,hz,q):=h;let(t,rfl):=i;let(u,rfl,j):=rv.one;let(t',rfl):=j
 w_up;let hl:=split_le a b;let l:=ae;let fin:∀(c:NC) (k:Nat),aH ((Txt.split a b).map .str) c->EP X pins σ Q (.ref (~~~s)) { s with toks:=k,heap:=s.heap.push { cls:=.type "list",data:=.seq c.toArray } }:=λc k r =>
  (.ref (~~~s),_,I.laid (t':=k) (o:=.lst ((Txt.split a b).map .str)) (λb ob q=>IH _ q) (IS _) (by rw[IF];lia,c,0,r,IW _ rfl),rfl,q _ (I.hok.fresh (IS _)))
 let one:Txt.split a b=[a]->∀tt:Tok,aH ((Txt.split a b).map .str) [xj a tt]:=λe tt=>by rw[e];show .cons (_,rfl) .nil
 by_cases h1:(decide (-a< -b) ||decide (ms a<ms b))=NK;let e:Txt.split a b=[a]:=by unfold Txt.split;rw[M0 h1]
 show Qd F.slot_str_split (QR _ _ _) F.entry_str_split (F.args_str_split_2 _ _) (meets_str_split_cannot_occur a b t t' h1) (fin _ _ (one e t));let d:(decide (-a< -b) ||decide (ms a<ms b))=NL:=by simpa using h1
 by_cases h2:(ej a b 0 (-a) (-a+1)).isEmpty=NK;let e:Txt.split a b=[a]:=by unfold Txt.split;rw[M1 h1,M0 h2]
 show Qd F.slot_str_split (QR _ _ _) F.entry_str_split (F.args_str_split_2 _ _) (meets_str_split_not_found a b t t' d g h2) (fin _ _ (one e t));let f:(ej a b 0 (-a) (-a+1)).isEmpty=NL:=by simpa using h2
 let e:Txt.split a b=Builtin.Str.partsBetween a (ej a b 0 (-a) (-a+1)) (-b):=by unfold Txt.split;rw[M1 h1,M1 h2]
 show Qd F.slot_str_split (QR _ _ _) F.entry_str_split (F.args_str_split_2 _ _) (meets_str_split_sep a b t t' d g f (!0) (by rw[<-e];lia)) (fin _ _ ?_);rw[<-e];show kU _ _
def CQ(K:ca):V->NH->Hp->VK->Prop:=λx vs H Q=>∃(a:bx) (p:ap) (ys:ND),x=.str a/\vs=[.ref p]/\SqL K H p (ys.map .str)/\(ys.map (·.length)).sum+-ys*-a<=1000000/\Q (.str (Txt.join a ys)) H
theorem px:∀{ys:ND}{a:NC},aH (ys.map .str) a->StrsAre a ys
 |[],_,.nil=>.nil
 |y::ys,_,.cons h r=>by
  let(t,rfl):=h;show .cons y t (px r)
def A4:MtR X "str.join" (CQ X.K):=by
 intro pins s σ H x vs v us Q I b rv h
 cbv;let(a,p,ys,rfl,rfl,c,hz,q):=h;let(t,rfl):=b;let(u,rfl,d):=rv.one;cases d;let(e,r,pl,f):=I.list c
 w_up;show join_list pl.isList (px (by simpa using r)) (!0) λt' k=>(.str _,H,I.tok _,(_,rfl),q)
def F2(hK:X.K=K):MtR X "str.join" (CQ K):=by subst hK;show A4
def Its(x:bx):It:=(λi Y=>i< -x,λi H v H'=>H'=H/\∃c,x.cps[i]?=NI c/\v=.str ⟨#[c]⟩,λi Y=>-x<=i)
def rf{P:q3}{w:zb}{tg:bb}(x:bx)(t:Tok)(it:ap):zD P w K tg (Its x) [it] it (λi h=>h.IsStrIter it "str_ascii_iterator" x t i) where
 mem:=!1
 obj:=λi h st b a=>by
  let e:b=it:=by simpa using a
  subst e;let(o,e,c,d):=st;show(o,e,λv z=>by rw[d]at z;cases z)
 keep:=λi h h' st k=>by
  let(o,e,r):=st;show(o,k it (!1) o e,r)
 item:=by intro X j hw hK hc i pins s σ H E I g st hg;subst j hw hK;let hg:i< -x:=hg;let(l,m,u,n,p,q):=g it (!1);show wpAny_pyNext_ascii_item st (c:=x.cps[i]'hg) (by simp[nl]at hg;simp[hg]) λh' f y=>?_;let A:Inv X pins σ H { s with heap:=h',toks:=s.toks+1 }:=I.turned (t':=s.toks+1) (λb o a e=>(y.2 b a).trans e) l m n p q;let(o,e,c,d):=id f;show(_,rfl,Bo (s:={ s with heap:=h',toks:=s.toks+1 }) e c d (!2) (.str _,H,A,(_,rfl),(rfl,_,by simp[nl]at hg;simp[hg],rfl),f,λb a=>(g b a).1))
 done:=by intro X j hw hK hc i pins s σ H E I g st hg;subst j hw hK;let(l,m,u,n,p,q):=g it (!1);let hg:-x<=i:=hg;show wpAny_pyNext_ascii_end (I.ok.hd hc) st (by simp[nl]at hg;simp[hg]) λh' B=>(rfl,I.turned (t':=s.toks) (λb o a e=>B b o a e) l m n p q)
 self:=λY Y Y Y Y st h=>wpAny_pyIter_striter_ascii st h
def Il(tl:TE):TI:=λσ H R=>tl σ H λx H1=>∃a:bx,x=.str a/\a.cps.all (·<128)=NK/\R (Its a) H1
def Dj{tg l:bb}{tl:TE}(hl:PE X l tl):PI X tg l (Il tl):=by
 intro pins s σ H R I h;show thn (hl pins s σ H _ I h) λv s1 c=>?_
 cbv;let(x,H1,d,f,g):=c;let(a,rfl,i,q):=g;let(t,rfl):=f
 w_up;show wpAny_pyIter_ascii i ?_;show((~~~s1),[(~~~s1)],_,_,H1,rfl,d.kept (t':=s1.toks) λb o e=>IH _ e,rf a t _,(_,IW _ rfl,rfl,rfl),λb j=>?_,q);let e:b=(~~~s1):=by simpa using j
 subst e;show d.fpOk (IS _) (d.hok.fresh (IS _))
end
section
variable{X:Cx}{K:ca}{pos:Pos}{e o:bb}{ta to:DE}{M P N:ap->Prop}{H0 H H':Hp}{σ0 σ:St}{env:NA}{ts:Ni}
def Ga:G2:=λd e R=>∃(a:bx) (i:Int) (c:Nat),d=.str a/\e=.int i/\a.length<=1000000/\atI a.cps.toList i=NI c/\R (.str ⟨#[c]⟩)
def HQ:bq K G4 Ga:=by rintro N H x y d e R Q b f ⟨a,i,c,rfl,rfl,hz,hc,g⟩ h;show(a,i,c,b.str,f.int,IQ hz ae,hc,h _ _ g (.str _))
def DNs.strs{v:NH}{ys:ND}(h:DNs K N H v (ys.map .str)):v=ys.map V.str:=by
 induction ys generalizing v with
 |nil=>cases h;rfl
 |cons y ys a =>
  cases h with
  |cons h q=>cases h;rw[a q];rfl
def BT(to ta:DE):DE:=λenv R=>to env λs b=>∃a,aC b s=NI (.str a)/\ta b λs2 c=>∃ys:ND,aC c s2=NI (.list (ys.map .str))/\(ys.map (·.length)).sum+-ys*-a<=1000000/\R (.fr (.str (hC a ys))) c
def yJ{apos cpos:Pos}(hK:X.K=K)(ho:PE X o (up K to))(n:PE X e (up K ta))
  (i:kq [e] X.env=[(false,eval e X.env)]:=by rfl)
  (f:z5 o "join" X.env (eval o X.env)=eval o X.env:=by rfl)
  (j:((ze cpos (kq [e] X.env)).all (λx=>!x.1)&&(KU cpos (KA [] X.env)).all (λx=>x.1.isSome)&&decide ([e].length+([]:NG).length+(if ([]:NG).isEmpty then 0 else 1)<30))=true:=by rfl)
  (g:(apos.endLine==cpos.line)=true:=by rfl) (b:(ze cpos (kq [] X.env)).any (·.1)=false:=by rfl) :
  PE X (.Call (.Attribute o "join" apos) [e] [] cpos) (up K (BT to ta)) :=
 (kBm (K:=K) hK Lv PySem.F.slot_str_join PySem.F.type_str_join (F2 hK) ho (cB n fM i) f j g i b).imp λσ H Q h=>by
 let(M,P,H0,σ0,env,ts,R,l,ht,r):=h;show(M,P,H0,σ0,env,ts,_,l,ht,λs1 k v1 H1 h1 c=>?_);let(a,e1,h1):=h1;let ev:=(c.view (v:=v1) (!1) e1).str;subst ev;show(rfl,M,P,H0,σ0,k,ts,_,c.drop,h1,λs2 m s t h2 d=>?_);let(ys,e2,hz,u):=h2;let(p,vs,rfl,sq,q):=(d.view (v:=s) (!1) e2).list;rw[q.strs]at sq;show(a,p,ys,rfl,rfl,sq,hz,?_);show Q (.str (Builtin.Str.glued a ys)) t;rw[StrLaws.glued_eq_join];show r _ _ _ _ u (d.drop.addFr (.str _))
def ve(to ta:DE):DE:=λenv R=>to env λs c=>∃a,aC c s=NI (.str a)/\ta c λs2 d=>∃b,aC d s2=NI (.str b)/\(-b==0)=NL/\a.length<=100000/\R (.ow ((Txt.split a b).map .str)) d
def DNs.ofStrs(ys:ND):DNs K N H (ys.map V.str) (ys.map .str):=by
 induction ys with
 |nil=>show .nil
 |cons y ys a=>show .cons (.str y) a
def og{apos cpos:Pos}(hK:X.K=K)(ho:PE X o (up K to))(r:PE X e (up K ta))
  (j:kq [e] X.env=[(false,eval e X.env)]:=by rfl)
  (g:z5 o "split" X.env (eval o X.env)=eval o X.env:=by rfl)
  (k:((ze cpos (kq [e] X.env)).all (λx=>!x.1)&&(KU cpos (KA [] X.env)).all (λx=>x.1.isSome)&&decide ([e].length+([]:NG).length+(if ([]:NG).isEmpty then 0 else 1)<30))=true:=by rfl)
  (i:(apos.endLine==cpos.line)=true:=by rfl) (c:(ze cpos (kq [] X.env)).any (·.1)=false:=by rfl) :
  PE X (.Call (.Attribute o "split" apos) [e] [] cpos) (up K (ve to ta)) :=
 (kBm (K:=K) hK Lv PySem.F.slot_str_split PySem.F.type_str_split xk ho (cB r fM j) g k i j c).imp λσ H Q h=>by
 let(M,P,H0,σ0,env,ts,R,m,ht,s):=h;show(M,P,H0,σ0,env,ts,_,m,ht,λs1 l v1 H1 h1 d=>?_);let(a,e1,h1):=h1;let ev:=(d.view (v:=v1) (!1) e1).str;subst ev;show(rfl,M,P,H0,σ0,l,ts,_,d.drop,h1,λs2 q t z h2 f=>?_);let(b,e2,u,hz,w):=h2;let n:=(f.view (v:=t) (!1) e2).str;subst n;show(a,b,rfl,rfl,u,hz,λp y=>s _ _ _ _ w (f.drop.addOw y (DNs.ofStrs _)))
def BU(te:DE):DI:=λenv RR=>te env λs b=>∃a:bx,aC b s=NI (.str a)/\a.cps.all (·<128)=NK/\RR (a.cps.toList.map λc=>.str ⟨#[c]⟩) b
def xA(a:bx):jL K (Its a) [] (a.cps.toList.map λc=>.str ⟨#[c]⟩) where
 go := λY i hi=>by
  show i<a.cps.size;simpa using hi
 yld := λY i x H' hi y=>by
  let(rfl,c,hc,rfl):=y;show(aS.refl _,?_);rw[Jn];let:a.cps.toList[i]'(by simpa using hi)=c:=by rw[<-r2]at hc;show(IN.mp hc).2
  rw[this];show .str _
 stop:=λY=>by
  show a.cps.size<=_;simp
 nv := λv i m=>by cases m
def CV{tg:bb}(h:PE X e (up K ta)):PI X tg e (upI K (BU ta)):=(Dj h).imp λσ H R h=>by
 let(M,P,H0,σ0,env,ts,RR,c,ht,f):=h;show(M,P,H0,σ0,env,ts,_,c,ht,λs1 d v1 H1 h1 b=>?_);let(a,e1,g,i):=h1;let ev:=(b.view (v:=v1) (!1) e1).str;subst ev;show(a,rfl,g,f _ _ _ _ _ i (by rw[Jh];show b.drop) (xA a))
def dP{x:bx}{a:bx}{t:Tok}(hg:Gl X x)(c:X.mg x=some (.str a t))(hd:(x==("__debug__" : bx))=false:=by decide):PE X (.Name x pos) (up K (dC (.str a))):=(ud (v:=.str a) hg c (_,rfl) hd).imp λσ H Q h=>by
 let(M,P,H0,σ0,env,ts,R,b,ht,d):=h;show d _ _ _ _ ht (b.addFr (.str a))
def tR{x:bx}{a:Int}{t:Tok}(hg:Gl X x)(c:X.mg x=some (.int a t))(hd:(x==("__debug__" : bx))=false:=by decide):PE X (.Name x pos) (up K (dC (.int a))):=(ud (v:=.int a) hg c (_,rfl) hd).imp λσ H Q h=>by
 let(M,P,H0,σ0,env,ts,R,b,ht,d):=h;show d _ _ _ _ ht (b.addFr (.int a))
def vh:DS:=λY Y=>False
def iF{st:Stmt}:PS X st (upS K vh):=λpins s σ H D I h=>by
 let(M,P,H0,σ0,env,ts,DD,nv,a,z,ok):=h;show z.elim
def u3(a b:bx):ed (.str a) (.str b)=decide (a=b):=by show(a==b)=_;rfl
def tu{a:bx}(h:LD a=NK):shp (.str a):=by simp[shp,lb,eg,nk,h]
end
section
variable{X:Cx}{K:ca}
def dFz(i:Nat)(u:DS):DS:=λDD env=>∃ds,env[i]?=NI (.ow ds)/\u DD (env.set i (.fr (.list ds)))
def yF(i:Nat){ss:Nn}{u:DS}(h:PSs X ss (upS K u)):PSs X ss (upS K (dFz i u)):=h.imp λD σ H h=>by
 let(M,P,H0,σ0,env,ts,DD,nv,a,(ds,e,b),ok):=h;show(M,P,H0,σ0,_,ts,DD,nv,a.frz e,b,ok)
end
section
variable{n:Nat}(h1:1<=n)
include h1
end
open PySem.SeqAt PySem.MeetsSeq PySem.MeetsSeq2 PySem.MeetsSeq3 PySem.SeqRoads2
open PySem.AutoSeq1 (wpAny_loadPart')
def uG(l b:ap)(items a:Nq)(n v:Nat)(dd o:No)(sl p:M6)(q:∀j (h:j<items.size),∃x t,items[j]=eh x t)(r:∀j (h:j<a.size),∃x t,a[j]=eh x t)(k:Nat) :
  ∀i : Nat,items.size-i=k->Meets (Builtin.«list.__eq__.loop» ([.ref l,.ref b,K4 i,K4 0],[]))
   (λA R s=>s.heap.get? l=some { cls:=.type "list",dict:=dd,data:=.seq items n,slots:=sl }/\s.heap.get? b=some { cls:=.type "list",dict:=o,data:=.seq a v,slots:=p } /\
    ∀c:Bool,R (.ok (.ret (.bool c))) s):=by
 induction k with
 |zero =>
  intro i hk prog w A R s h;let(z,g,d,tk,os):=s;let(hl,f,h):=h
  wp_walk using wpAny_loadPart' hl,wpAny_loadPart' f
  let hi1:items[((i:Nat):Int).toNat]?=NJ:=by simp;lia
  rw[hi1]
  wp_walk using wpAny_loadPart' hl,wpAny_loadPart' f
  show h _
 |succ k B =>
  intro i hk prog w A R s h;let(z,g,d,tk,os):=s;let(hl,f,h):=h
  wp_walk using wpAny_loadPart' hl,wpAny_loadPart' f
  let m:i<items.size:=!0
  let hi1:items[((i:Nat):Int).toNat]?=NI items[i]:=by simp[m]
  let hc:((i:Int)+1)=((i+1:Nat):Int):=by push_cast;rfl
  rw[hi1];by_cases e:i<a.size
  .let hi2:a[((i:Nat):Int).toNat]?=NI a[i]:=by simp[e]
   rw[hi2];let(x,t,e1):=q i m;let(y,u,e2):=r i e;rw[e1,e2];show jj (QZ ?_);cases hb':(x==y) with
   |true =>
    wp_walk
    rw[hc];show(KQ QO _,K8 entry_eq_loop (by
     rw[Around.under_plainId QO _];show B (i+1) (!0) prog w A R _ (hl,f,h)))
   |false =>
    wp_walk using wpAny_loadPart' hl,wpAny_loadPart' f
    rw[hi1,hi2,e1,e2];show jj (show kw (qb prog w) A.in1 (q4 .Lt (.int x t) (.int y u)) _ _ _ from wpAny_lt_int (ke (h _)))
  .let hi2:a[((i:Nat):Int).toNat]?=NJ:=by simp;lia
   rw[hi2]
   wp_walk using wpAny_loadPart' hl,wpAny_loadPart' f
   show h _
def l8(l b:ap)(items a:Nq)(n m:Nat)(dd e:No)(sl f:M6)(i:∀j (h:j<items.size),∃x t,items[j]=eh x t)(k:∀j (h:j<a.size),∃x t,a[j]=eh x t) :
  Meets (Builtin.«list.__lt__» ([.ref l,.ref b],[]))
   (λA R s=>s.heap.get? l=some { cls:=.type "list",dict:=dd,data:=.seq items n,slots:=sl }/\s.heap.get? b=some { cls:=.type "list",dict:=e,data:=.seq a m,slots:=f } /\
    ∀c:Bool,R (.ok (.ret (.bool c))) s):=by
 intro prog w A R s h;let(p,g,d,tk,os):=s;let(hl,o,h):=h;let q:=AutoSeq1.sub_list_list
 wp_walk using wpAny_loadPart' hl,wpAny_loadPart' o
 show(KQ QO _,K8 entry_eq_loop (by
  rw[Around.under_plainId QO _];show uG l b items a n m dd e sl f i k _ 0 rfl prog w A R _ (hl,o,h)))
section
variable{prog:q3}{w:zb}{A:Around}{E:as->ba->Prop}{s:ba}
def xp{l b:ap}{items a:Nq}{Q:as->ba->Prop}(hl:s.heap.IsList l items)(p:s.heap.IsList b a)(g:∀j (h:j<items.size),∃x t,items[j]=eh x t)(i:∀j (h:j<a.size),∃x t,a[j]=eh x t)
  (q:A.units<KD) (h:∀c:Bool,Q (.bool c) s):kw (qb prog w) A (q4 .Lt (.ref l) (.ref b)) Q E s:=by
 cbv;let((cls,dd,data,sl),ho,hc,n,hd):=id hl;let((o,k,data2,m),d,e,r,f):=id p;simp only at hc hd e f;subst hc hd e f
 w_up;show richCompare_meets_room (op:=.Lt) (_,ho,rfl) (_,d,rfl) F.slot_list_lt F.entry_list_lt (F.args_list_lt_2 _ _) (l8 l b items a n r dd k sl m g i)
  (ho,d,λc=>show lv c≠Value.notImplemented/\Q (.bool c) s from((λx=>nomatch x),h c)) q
end
def EM(h:bd)(v:as):Prop:=∃(a:ap) (o:Obj) (n:Nat) (x:Int) (t:Tok) (l:ap) (b:Nq) (ns:Np) (c:NE),v=.ref a/\h.get? a=NI o/\o.cls=.type "tuple" /\ o.data=.seq #[.int x t,.ref l] n/\h.IsList l b/\(∀j (h:j<b.size),∃x t,b[j]=eh x t)/\Reads h (.ref l) (.list (ns.map eb)) c
def Bj(d:ab):Prop:=∃(n:Int) (ns:Np),d=.tuple [.int n,.list (ns.map .int)]
section
variable{X:Cx}{pins:Nd}{σ:St}{H:Hp}{s:ba}
theorem kt:∀{ns:Np}{vs:NH}{us:NC},DVs X.K H vs (ns.map .int)->aH vs us->∀j (h:j< -us),∃x t,us[j]=eh x t
 |[],_,_,.nil,.nil,j,h=>by simp at h
 |n::ns,_,_,.cons d q,.cons r t,0,h=>by
  cbv;cases d;let(t,rfl):=r
  w_up;show(_,_,rfl)
 |n::ns,_,_,.cons d q,.cons r t,j+1,h=>by
  let(x,u,e):=kt q t j (by simpa using h);show(x,u,by simpa using e)
def DY(I:Inv X pins σ H s){v:V}{d:ab}{u:as}(hd:DV X.K H v d)(r:be v u)(k:Bj d):EM s.heap u:=by
 let(n,ns,rfl):=k;cases hd with
 |@tup a xs _ h q =>
  cases (show _=da a from r);let(i,rv,(o,e,c,m,hd),_):=I.tuple h;cases q with
  |cons p b =>
   cases b with
   |cons b w =>
    cbv;cases w;cases p
    w_up;cases rv with
    |cons x rv =>
     cases rv with
     |cons g rv =>
      cbv;cases rv;let(t,rfl):=x;let(y,z):=b.reads I g (by simpa only[eg] using fS _)
      w_up;cases b with
      |@lst l ys _ h2 b =>
       cases (show _=da l from g);let(f,A,pl,_):=I.list h2;show(a,o,m,n,t,l,f.toArray,ns,y,rfl,e,c,hd,pl.isList,λj hj=>kt b A j (by simpa using hj),z)
theorem uK(I:Inv X pins σ H s):∀{vs:NH}{ds:Nz}{us:NC},DVs X.K H vs ds->aH vs us->(∀d∈ds,Bj d)->∀u∈us,EM s.heap u
 |_,_,_,.nil,.nil,_,u,a=>by simp at a
 |_,_,_,.cons d q,.cons r t,k,u,a=>by
  rcases IR.mp a with rfl|a;show DY I d r (k _ (!1));show uK I q t (λd hd=>k d (by simp[hd])) u a
end
section
theorem jE{h:bd}:∀{us:NC},(∀u∈us,EM h u)->∃fs,KatTups h us fs/\fs.length=-us/\∀f∈fs,∃x t,f=eh x t
 |[],_=>([],.nil,rfl,λf b=>by simp at b)
 |u::us,k=>by
  let(fs,h1,h2,h3):=jE (us:=us) λv hv=>k v (by simp[hv]);let(a,o,n,x,t,l,g,ns,i,rfl,e,c,d,_):=k u (!1);show(.int x t::fs,.cons e c d (by rfl) h1,by simp[h2],λf b=>?_);rcases IR.mp b with rfl|b;show(x,t,rfl);show h3 f b
end
def cA{α β:Type}{f:α->β}{ws bs:List β}(h:ws.Perm bs):∀t:List α,bs=t.map f->∃t':List α,t'.Perm t/\ws=t'.map f:=by
 induction h with
 |nil =>
  intro t e;cases t with
  |nil=>show([],.refl _,rfl)
  |cons _ _=>cases e
 |cons x _ a =>
  intro t e;cases t with
  |nil=>cases e
  |cons y t =>
   injection e with e1 e2;let(t',p,e'):=a t e2;show(y::t',p.cons y,by rw[e1,e'];rfl)
 |swap x y l =>
  intro t e
  match t,e with
  |z1::z2::t,e =>
   injection e with e1 e2;injection e2 with e2 e3;show(z2::z1::t,.swap ..,by rw[e1,e2,e3];rfl)
 |trans _ _ ih1 ih2 =>
  intro t e;let(b,c,e1):=ih2 t e;let(d,p2,e2):=ih1 b e1;show(d,p2.trans c,e2)
theorem nh:∀{t:List (as×V×ab)},(∀x∈t,be x.2.1 x.1)->aH (t.map (·.2.1)) (t.map (·.1))
 |[],_=>.nil
 |x::t,h=>.cons (h x (!1)) (nh λy a=>h y (by simp[a]))
theorem jM:∀{vs:NH}{us:NC}{ds:Nz},aH vs us->∀x∈us.zip (vs.zip ds),be x.2.1 x.1
 |_,_,_,.nil,x,h=>by simp at h
 |_,_,[],.cons r t,x,h=>by simp at h
 |_,_,d::ds,.cons r t,x,h=>by
  simp only[vi]at h;rcases IR.mp h with rfl|h;show r;show jM t x h
def BG{K:ca}{H:Hp}{vs:NH}{ds:Nz}(h:DVs K H vs ds):-vs=-ds:=DVs.ind (C:=λv d=>-v=-d) rfl (λY Y i=>by rw[Jf,Jf,i]) h
def oU{K:ca}{N:ap->Prop}{H:Hp}{vs:NH}{ds:Nz}(h:DNs K N H vs ds):∀z∈vs.zip ds,DN K N H z.1 z.2:=DNs.ind (C:=λvs ds=>∀z∈vs.zip ds,DN K N H z.1 z.2) (λz h=>by simp at h) (λd Y i z h=>by
  simp only[vi]at h;rcases IR.mp h with rfl|h;show d;show i z h) h
theorem oV{K:ca}{N:ap->Prop}{H:Hp}:∀{a:List (V×ab)},(∀z∈a,DN K N H z.1 z.2)->DNs K N H (a.map (·.1)) (a.map (·.2))
 |[],_=>.nil
 |x::t,h=>.cons (h x (!1)) (oV λy b=>h y (by simp[b]))
section
variable{X:Cx}
def on{j p3 p4}:PE X (.UnaryOp .USub (.Constant (.int 1) j p3) p4) (tC (.int (-1))):=(Dl kW lF).imp λσ H Q h=>(1,rfl,h)
end
open PySem.Calls
section
variable{prog:q3}{w:zb}{A:Around}
def sf{E:as->ba->Prop}{s:ba}{id:String}{b:Builtin}{args:NC}{a:Nh}{Q:as->ba->Prop}(hk:builtinKind id=NJ)(d:plainId id=NK)
  (g:entryFor table id=NI b) (c:argsOk id (args,a))
  (hc:kw (qb prog w) A.in1 (b (args,a)) (λfin s'=>match fin with
   |.done f=>(match (Except.ok f:Q2) with|.ok (.ret v)=>Q v s'|.ok _=>False|.error e=>E e s')
   |.again c'=>c'.quiet=NK/\KM (qb prog w) A c' (λr s'=>match r with|.ok (.ret v)=>Q v s'|.ok _=>False|.error e=>E e s') s') E s) :
  kw (qb prog w) A (call (.builtin id) args a) Q E s:=by
 show Zd (codeAny_call_builtin d g ?_);simp only[checkBuiltinCall,hk];cases hsig:Manifest.signature? id with
 |none=>show ke hc
 |some sig =>
  simp only[argsOk,hsig]at c;let h2:Bind.checkArgs id sig (args,a)=pure ():=c;show kw _ A.in1 (Bind.checkArgs id sig (args,a)) _ _ s;rw[h2];show ke hc
end
section
variable{ds:Nz}{ix:M5}{g:DG}{te:DE}{env:NA}{R:Sl->NA->Prop}
def zr(P:ab->Prop)(hz:-ds<=1000000)(h:∀i,(h:i< -ds)->∀Q:ab->Prop,(∀d,P d->Q d)->g ds[i] (fm ix env) λb=>te b λs c=>∃d,aV c s=NI d/\Q d)
  (e:∀rs:Nz,-rs=-ds->(∀d∈rs,P d)->R (.ow rs) env):CD ds ix g xX te env R:=by
 show(λi rs=>-rs=i/\i<=-ds/\∀d∈rs,P d,(rfl,Jb _,!1),λi rs hi w=>?_,λrs w=>e rs w.1 w.2.2);let(a,j,f):=w;show(by rw[a];show IY (!0) ae,?_);let:=h i hi (λd=>(rs++[d]).length=i+1/\i+1<=-ds/\∀x∈rs++[d],P x) λd hd=>(by simp[a],hi,λx hx=>by
  rcases II.mp hx with hx|hx;show f x hx;rw[IG.mp hx];show hd)
 simpa only[xX,if_true] using this
end
theorem kK{p:Int->Prop}:∀{rs:Nz},(∀d∈rs,∃x:Int,d=.int x/\p x)->∃ns:Np,rs=li ns/\∀x∈ns,p x
 |[],_=>([],rfl,!1)
 |d :: rs,h=>by
  let(ns,rfl,h2):=kK (rs:=rs) λe b=>h e (by simp[b]);let(x,rfl,hx):=h d (!1);show(x::ns,rfl,λy a=>by
   rcases IR.mp a with rfl|a;show hx;show h2 y a)
section
variable{CX:CXT}{P:q3}{w:zb}{K:ca}{mg:bx->Nm}{base:bd}{k:Nat}{f c':ap}{qual:bx}{params:QK}{body:bb}{scope:KL}{pm ctv:as}{N ps:ND}
 {A : Around}{outer:Nu}{s:ba}{H:Hp}{us:NC}{vs:NH}{Q:VK}{E:XK}{t:TE}
def A8(S:ak N ps scope)(h:b9 (k+1) A)(c:sy P w K mg base A outer s H)(ho:s.heap.get? f=NI (QT "<lambda>" qual params body scope [] pm c' ctv))(d:s.heap.CodeRec (.ref c') qual)
  (i:Qj (kla_fn "<lambda>" qual params body scope [] pm (.ref c') ctv) (us,[])=pure (ps.zip us)) (r:aH vs us) (hl:-vs=-ps)
  (ht:PE (sC CX P w K mg base N qual scope f (.ref c') A outer s H E) body t) (j:t (start N vs) H Q):KM (qb P w) A (.call (.ref f) (us,[])) (CR CX outer P w H s Q E) s:=by
 let g:s.heap.NoLimit:=c.mod.nolimit.keeps λb o e=>(c.bs b o e).1;let a:∀y∈ps.zip us,scope.names.lookup y.1=NI .local\/(scope.names.lookup y.1=NI .cell/\((Kx ((~~~s)+1) scope.names []).lookup y.1).isSome=NK):=λ⟨n,v⟩ l=>by
  rcases S.par n (Kg l).1 with q|q;show .inl q;show .inr (q,pc _ _ _ (.inl q))
 show kla_callFunE h.depth ho rfl S.co S.gen rfl d ?_;rw[i];show ke ?_;show Zc S.kind a λenv m s1 x=>?_;subst m;show(g.keeps x.toInCall.keep,kla_codeExpr ?_);let I:Inv (sC CX P w K mg base N qual scope f (.ref c') A outer s H E) [] (start N vs) H s1:=mC S h.hd c hl r x;show z3 (ht [] s1 (start N vs) H _ I j) (λu s' hs=>?_) λe s' hs=>hs;let(v,H',J,rv,q):=hs;show(v,H',J.os,J.bare,J.base,J.hok,rv,q)
end
def sk{pos:Pos}{a b:Int}{c cv:as}(l:NC)(h:TriplesOk l)(hn:QI pos (l++[K4 a,K4 b,c])=NI cv):QI pos l=NI cv\/cv=c:=by
 fun_induction TriplesOk l with
 |case1 =>
  simp only[Kt,QI,K4]at hn;split at hn;cases hn;show .inr rfl;cases hn
 |case2 e t f u x rest d =>
  simp only[La,QI]at hn ⊢;split at hn;rename_i hc;rw[M0 hc];show .inl hn;rename_i hc;rw[M1 hc];show d h hn
 |case3 l h1 h2=>show h.elim
def EQ(H:Hp)(c:ap)(q:bx):Prop:=∃oc u vs t,H c=NI (.frz oc u)/\oc.data=.fields vs/\vs[1]?=NI (.str q t)
def ym(X:Cx):Prop:=∃c T,X.env.code=.ref c/\CodeHd X.base c T/\jb X.K T (X.env.qual ++ "<lambda>")
section
variable{X:Cx}{pins:Nd}{σ:St}{H:Hp}{s:ba}
def Inv.grow(I:Inv X pins σ H s){T c':ap}{q:bx}{h':bd}{oc:Obj}{vs:Nq}{t:Tok}{tk:Nat}(a:H T=some (.tbl q))(hx:Lh T s.heap h')(hc:s.heap.objs.size<=c')(ho:h'.get? c'=some oc)(hd:oc.data=.fields vs)(hv:vs[1]?=some (.str q t))
  (ht:B8 (upd H c' (.frz oc (.own 0))) h' T q):Inv X pins σ (upd H c' (.frz oc (.own 0))) { s with heap:=h',toks:=tk }/\aS H (upd H c' (.frz oc (.own 0))):=by
 let hn:H c'=NJ:=I.hok.fresh hc;let f:T<(~~~s):=I.hok.lt a;let i:T≠c':=Jd (IY f hc);let(j,k,_):=id ht;show(I.un (t':=tk) (λb o e n Y Y=>?_,λb o e n Y Y=>(o.slots,?_),λb o e n Y=>?_,λb o e Y=>?_,λb xs e=>?_,λb o u e=>?_,λb q e=>?_) (λb u e=>?_),λb o e=>by rw[al (au e hn)];show e);show hx b o (λz=>by rw[z,a]at n;cases n) e;show hx b o (λz=>by rw[z,a]at n;cases n) e;rw[al (Jd (IY (IX e) hc))];show n;by_cases z:b=T;subst z;show(_,k);show(o,hx b o z e);rw[al (au e hn)];show e;rw[al (au e hn)];show e;rw[al (au e hn)];show e
 .by_cases h:b=c'
  .cbv;subst h;rw[aq]at e;cases e
   w_up;show(ho,_,ho)
  .rw[al h]at e;by_cases d:b=T
   .cbv;subst d;rw[a]at e;cases e
    w_up;show ht
   show(I.hok b u e).stay (λc v g q=>hx c v ?_ q) (λc q=>by rw[al (au q hn)];show q) λc o Y q=>by rw[al (au q hn)];show q
   rcases g with z|z;rw[z];show d
   exactλl=>by rw[l,a]at z;cases z
end
section
variable{X:Cx}{pins:Nd}{σ:St}{H:Hp}{s:ba}
def vP(X:Cx)(pins:Nd)(σ:St)(H:Hp)(s:ba)(d:ab)(u:as)(s':ba):Prop :=
 ∃H' v,Inv X pins σ H' s'/\aS H H'/\be v u/\DN X.K N0 H' v d/\∀b o,hV X pins H b->s.heap.get? b=NI o->s'.heap.get? b=NI o/\H' b=NJ
end
section
variable{X:Cx}{pins:Nd}
def uX{H H':Hp}{b:ap}(h:hV X pins H b)(n:H' b=NJ):hV X pins H' b:=(n,h.2)
def sI{xs:NH}{us:NC}{x:V}{u:as}(h:aH xs us)(q:be x u):aH (xs++[x]) (us++[u]):=by
 induction h with
 |nil=>show .cons q .nil
 |cons r _ i=>show .cons r i
end
section
def D9(d:ab):Prop:=∃ns:Np,d=.list (ns.map .int)
end
section
variable{P:q3}{w:zb}{K:ca}{mg:bx->Nm}{base:bd}
def sx(K:ca)(base:bd)(x:bx)(fd:kN):Prop:=∃c T,fd.code=.ref c/\CodeHd base c T/\jb K T (x ++ ".<locals>.<lambda>")
def FU{x:bx}{st:Stmt}{f:ap}{fd:kN}{N ps:ND}{k:Nat}{sp:DSp}(F:Fun K x x st f fd)(S:ak N ps (ac st))(len:∀ss R,sp ss R->-ss=-ps)(hN:-ps<=-N)
  (b:∀(cdv:as) (a:cdv=fd.code) (A:Around) (outer:Nu) (s:ba) (H:Hp) (E:XK),b9 k (A.deeper (Qq x (ac st) (~~~s) f cdv)) ->
   ∃t:DS,PSs (sC CX0 P w K mg base N x (ac st) f cdv A outer s H E).nox (bI st) (upS K t)/\∀ss R,sp ss R->t (oS (-ps) R) (cw (-N) ss)):a9 P w K mg base CX0 (k+1) f fd ps (spD K sp):=by let(oc,od,kV,doc,pm,an,cdv,ct,osl,rfl,c,a):=F.ex;show HK (λA outer s H E d=>b cdv rfl A outer s H E d) c a S len hN
def vQ(vs:Nq)(c T:ap):Prop:=vs[11]?=NI (.ref T)/\vs.getD 11 .none=.ref T/\(∃a d,vs.getD 18 .none=.str a d)/\(∃i t,vs.getD 7 .none=.int i t)/\(∃b,vs.getD 9 .none=.bool b)/\(∃i t,vs.getD 10 .none=.int i t)/\c≠T
def DQ{x:bx}{f c T:ap}{fd:kN}{oc:as}{od e:No}{osl g:M6}{vs:Nq}(hx:x∈d8)(a:cb K ky x=NI (NI (.ref f)))(l:K.lookup f=NI (oc,od,.func fd,osl))(hc:fd.code=.ref c)
  (h:K.lookup c=NI (.type "code",e,.fields vs,g)) (k:vQ vs c T) (m:K.In base):sx K base x fd:=by let(h1,h2,(d,n,h3),(i,t,o),(b,p),(j,u,q),r):=k;show(c,T,hc,(_,vs,d,n,i,t,b,j,u,m _ _ h,rfl,rfl,h1,h2,h3,o,p,q,r),x,hx,f,_,fd,c,_,vs,a,l,rfl,hc,h,rfl,h1,rfl)
structure sw(K:ca)(h:bd)(x:bx)(c T:ap):Prop where
 tab:∀T0,(∃f o fd c0 oc vs,cb K ky x=some (some (.ref f))/\K.lookup f=some o/\o.data=.func fd/\fd.code=.ref c0/\K.lookup c0=some oc/\oc.data=.fields vs/\vs[11]?=some (.ref T0))->T0=T
 at':h.get? T=some { cls:=.none,data:=.fields #[] }/\K.lookup T=none/\∃c,h.TableAt c T #[]
def ko{q:q3}{b:ND}{r:(bx->Nm)->bd->Prop}{s₀:ba}{mb:bx->Nm}{h:bd}{d:DefRec}{x:bx}{f c T:ap}{fd:kN}{oc:as}{od i:No}{osl j:M6}{vs:Nq}
  (G : Lc q b [] r w s₀ mg mb h) (s:K.In h) (t:(recsOf q).find? (λe=>e.name==x)=NI d)
  (a : cb K ky x=NI (NI (.ref f))) (l:K.lookup f=NI (oc,od,.func fd,osl)) (hc:fd.code=.ref c) (k:K.lookup c=NI (.type "code",i,.fields vs,j)) (m:vQ vs c T) (hn:K.lookup T=NJ):sw K h x c T:=by
 let ht:tabIn K x=NI (c,T):=by unfold tabIn;rw[a];simp only[l,hc,k,m.1]
 let(C,g):=tab_of G.T s t ht;show(λT0 e=>?_,g,hn,c,C.tab g)
 cbv;let(A,B,u,c0,v,y,a1,a2,a3,n,o,z,p):=e;rw[a]at a1;cases a1;rw[l]at a2;cases a2;cases a3;rw[hc]at n;cases n;rw[k]at o;cases o;cases z;rw[m.1]at p;cases p
 w_up;rfl
def zO{h:bd}(ps:List (bx×ap×ap))(a:∀p∈ps,sw K h p.1 p.2.1 p.2.2)(nd:(ps.map λp=>p.2.2).Nodup)(hL:∀n∈d8,n∈ps.map (·.1)\/cb K ky n=some none) :
  ∃tb:List (ap×bx),(∀b q,tb.lookup b=some q->h.get? b=some { cls:=.none,data:=.fields #[] }/\K.lookup b=none/\∃c,h.TableAt c b #[])/\∀T q,jb K T q->tb.lookup T=some q:=by
 show(ps.map λp=>(p.2.2,p.1 ++ ".<locals>.<lambda>"),λb r e=>?_,λT0 r L=>?_);let : ∃p∈ps,p.2.2=b:=by
  clear a nd hL
  induction ps with
  |nil=>cases e
  |cons p ps f =>
   rw[IU,Js]at e;by_cases l:b=p.2.2;show(p,IL,l.symm);let h1:(b==p.2.2)=NL:=by simpa using l
   rw[h1]at e;let(g,m,e'):=f e;show(g,IM _ m,e')
 let(p,m,rfl):=this;show(a p m).at';let(n,s,t,u,i,c0,j,k,a1,a2,a3,v,w,x,o,rfl):=L;rcases hL n s with d|d;let(p,m,rfl):=IZ.mp d;let e:=(a p m).tab T0 (t,u,i,c0,j,k,a1,a2,a3,v,w,x,o);subst e;clear a hL a1 o d
 induction ps with
 |nil=>cases m
 |cons g ps f =>
  rw[IU,Js];rw[IU,Jr]at nd;rcases IR.mp m with rfl|m;simp;let h1:(p.2.2==g.2.2)=NL:=by
   simp only[beq_eq_false_iff_ne,ne_eq]
   exactλz=>nd.1 (z▸Kn m)
  rw[h1];show f nd.2 m
 rw[d]at a1;cases a1
def A9{h:bd}:∀p∈([]:List (bx×ap×ap)),sw K h p.1 p.2.1 p.2.2:=λp a=>by cases a
def kn{h:bd}{x:bx}{c T:ap}{ps:List (bx×ap×ap)}(h1:sw K h x c T)(h2:∀p∈ps,sw K h p.1 p.2.1 p.2.2):∀p∈(Pm x (Pm c T))::ps,sw K h p.1 p.2.1 p.2.2:=λp a=>by
 rcases IR.mp a with rfl|a;show h1;show h2 p a
def Ba{P:bx->Prop}(h1:P "choices")(h2:P "full_rows")(h3:P "chain_plan")(a:P "least_ranks"):∀n∈d8,P n:=λn hn=>by
 simp only[d8,IR,Jk,or_false]at hn;rcases hn with rfl|rfl|rfl|rfl <;> assumption
end
open PySem.AutoSeq1 (wpAny_loadPart')
def At(items:Nq)(ns:Np):Prop:=-ns=items.size/\∀j (h:j<items.size),∃t,items[j]=eh (ns.getD j 0) t
open Builtin.ObjectAttr
abbrev GP:=NA->(Sl->NA->Prop)->(Int->Prop)->Prop
def us1{Q:NC->Prop}{us:NC}(l:-us=1)(h:∀a:as,Q [a]):Q us:=by let(a,rfl):=sB l;show h a
def us2{Q:NC->Prop}{us:NC}(l:-us=2)(h:∀a b:as,Q [a,b]):Q us:=by let(a,b,rfl):=EZ l;show h a b
def us3{Q:NC->Prop}{us:NC}(l:-us=3)(h:∀a b c:as,Q [a,b,c]):Q us:=by let(a,b,c,rfl):=HZ l;show h a b c
theorem t8:∀{a b:Np},a.map eb=b.map eb->a=b
 |[],[],_=>rfl
 |[],_::_,e=>by simp at e
 |_::_,[],e=>by simp at e
 |x::xs,y::ys,e=>by
  rw[IU,IU]at e;injection e with e1 e2;injection e1 with e1;rw[e1,t8 e2]
def wm{k k':aL}(e:dD k=dD k'):k=k':=by let(d,l):=k;let(d',l'):=k';simp only[dD,PyData.tuple.injEq,gf,LQ,and_true]at e;rw[e.1,t8 e.2]
theorem hJ:∀{kvs a:Nf},kvs.map (λp=>(Pm (dD p.1) p.2))=a.map (λp=>(Pm (dD p.1) p.2))->kvs=a
 |[],[],_=>rfl
 |[],_::_,e=>by simp at e
 |_::_,[],e=>by simp at e
 |(Pm k v)::xs,(Pm k' v')::ys,e=>by
  rw[IU,IU]at e;injection e with e1 e2;injection e1 with e1 e3;let e1:=wm e1;simp only at e1 e3;rw[e1,e3,hJ e2]
section
variable{K:ca}{M P N:ap->Prop}{H0 H:Hp}{A B:Nt}{σ0 σ:St}{env:NA}{ts:Ni}{v:V}{d:ab}{kvs:Nf}
def Fn(K:ca)(N:ap->Prop)(H:Hp)(v:V)(kvs:Nf):Prop :=
 ∃a es,v=.ref a/\H a=NI (.ext (ce a es))/\DNs K N H (es.map λp=>V.ref p.2.1) (kvs.map λp=>dD p.1)/\DNs K N H (es.map λp=>p.2.2) (kvs.map λp=>p.2)/\es.map (λp=>p.1)=kvs.map (λp=>p.1)
def Fn.dctV(h:Fn K N H v kvs):GO K H v kvs:=by let(a,es,e,b,hk,hv,c):=h;show(a,es,e,b,hk.dv,hv.dv,c)
def xN{ds:Nz}(e:fzD ds=eD kvs):False:=by
 cases kvs with
 |nil=>cases e
 |cons p kvs=>simp[fzD,eD,dD]at e
def jI{p:ab×ab}{l:List (ab×ab)}(a:p.1=.none)(e:.dict (p::l)=eD kvs):False:=by
 cases kvs with
 |nil=>cases e
 |cons q kvs =>
  simp only[eD,IU,lp,gf]at e;rw[e.1]at a;cases a
def DN.dct_of(h:DN K N H v d)(e:d=eD kvs):Fn K N H v kvs:=by
 cases h with
 |fz _=>show(xN e).elim
 |idc _ _ _=>show(jI rfl e).elim
 |dsk _ _ _ _ _=>show(jI rfl e).elim
 |@dct a es b n c hk hv f =>
  injection e with e;let e:=hJ e;subst e;show(a,es,rfl,c,hk,hv,f)
 |_=>cases e
theorem Vw.dct_of(h:Vw K N H v d)(e:d=eD kvs):Fn K N H v kvs:=by
 cases h with
 |dn h=>show h.dct_of e
 |ow h q=>cases e
 |@dct a es b c hk hv f =>
  injection e with e;let e:=hJ e;subst e;show(a,es,rfl,c,hk,hv,f)
def OT.dct_of{S:NE}(h:OT K N H v d S)(e:d=eD kvs):∃a es,v=.ref a/\S=[a]/\H a=NI (.ext (ce a es))/\DNs K N H (es.map λp=>V.ref p.2.1) (kvs.map λp=>dD p.1)/\DNs K N H (es.map λp=>p.2.2) (kvs.map λp=>p.2)/\es.map (λp=>p.1)=kvs.map (λp=>p.1):=by
 cases h with
 |fz _=>show(xN e).elim
 |@dct a es b c hk hv f =>
  injection e with e;let e:=hJ e;subst e;show(a,es,rfl,rfl,c,hk,hv,f)
 |_=>cases e
def Gd:G2:=λd e R=>∃k kvs,d=dD k/\e=eD kvs/\R (.bool (cu kvs k).isSome)
def oP:G2:=λd e R=>∃k kvs,d=dD k/\e=eD kvs/\R (.bool (!(cu kvs k).isSome))
def E7:G2:=λd e R=>∃kvs k x,d=eD kvs/\e=dD k/\cu kvs k=NI x/\R x
def HW:bq K (FJ K) Gd:=by rintro N H x y d e R Q a b ⟨k,kvs,rfl,rfl,c⟩ f;show(k,kvs,a.dv,(b.dct_of rfl).dctV,f _ _ c (.bl _))
def oJ:bq K (nY K) oP:=by rintro N H x y d e R Q a b ⟨k,kvs,rfl,rfl,c⟩ f;show(k,kvs,a.dv,(b.dct_of rfl).dctV,f _ _ c (.bl _))
def HR:bq K (FH K) E7:=by
 rintro N H x y d e R Q b c ⟨kvs,k,z,rfl,rfl,hg,f⟩ g;let(a,es,rfl,h,hk,hv,j):=b.dct_of rfl;show(k,a,es,kvs,rfl,c.dv,h,hk.dv,hv.dv,j,by rw[hg];rfl,λi v d hd h1 h2=>?_);rw[hg]at hd
 cbv;cases hd;let(l,e1,dn):=hv.get h1;rw[h2]at e1;cases e1
 w_up;show g _ _ f dn
theorem vJ:∀{es:Nb}{kvs:Nf} (k:aL),es.map (λp=>p.1)=kvs.map (λp=>p.1)->(es.any λp=>decide (p.1=k))=(cu kvs k).isSome
 |[],[],k,_=>rfl
 |[],_::_,k,e=>by simp at e
 |_::_,[],k,e=>by simp at e
 |p::es,q::kvs,k,e=>by
  rw[IU,IU]at e;injection e with e1 e2;rw[pa,vJ k e2,bz,e1];by_cases h:q.1=k <;> simp[h]
def wJ{es:Nb}{kvs:Nf}(k:aL)(v:V)(d:ab)(e:es.map (λp=>p.1)=kvs.map (λp=>p.1))(h1:DNs K N H (es.map λp=>V.ref p.2.1) (kvs.map λp=>dD p.1))(h2:DNs K N H (es.map λp=>p.2.2) (kvs.map λp=>p.2))(dn:DN K N H v d) :
    (es.map λp=>if p.1=k then (p.1,p.2.1,v) else p).map (λp=>p.1)=(kvs.map λp=>if p.1=k then (p.1,d) else p).map (λp=>p.1) /\
    DNs K N H ((es.map λp=>if p.1=k then (p.1,p.2.1,v) else p).map λp=>V.ref p.2.1) ((kvs.map λp=>if p.1=k then (p.1,d) else p).map λp=>dD p.1) /\
    DNs K N H ((es.map λp=>if p.1=k then (p.1,p.2.1,v) else p).map λp=>p.2.2) ((kvs.map λp=>if p.1=k then (p.1,d) else p).map λp=>p.2):=by
  induction es generalizing kvs with
  |nil =>
    cases kvs with
    |nil=>show(rfl,.nil,.nil)
    |cons q kvs=>simp at e
  |cons p es c =>
   cases kvs with
   |nil=>simp at e
   |cons q kvs =>
    rw[IU,IU]at e h1 h2;injection e with e1 e2;cases h1 with
    |cons a1 a2 =>
      cases h2 with
      |cons f g =>
        let(i1,i2,b):=c e2 a2 g;simp only[IU];by_cases h:q.1=k;let a:p.1=k:=e1.trans h;simp only[h,a,if_true];show(by rw[i1],.cons ?_ i2,.cons dn b);rw[<-h];show a1;let a:¬p.1=k:=λz=>h (e1.symm.trans z);simp only[h,a,if_false];show(by rw[i1,e1],.cons a1 i2,.cons f b)
def Aw{es:Nb}{k:aL}{b:ap}(e:es.map (λp=>p.1)=kvs.map (λp=>p.1))(h1:DNs K N H (es.map λp=>V.ref p.2.1) (kvs.map λp=>dD p.1))(h2:DNs K N H (es.map λp=>p.2.2) (kvs.map λp=>p.2))(a:DN K N H (.ref b) (dD k))(dn:DN K N H v d) :
  (tT es k b v).map (λp=>p.1)=(kO kvs k d).map (λp=>p.1)/\DNs K N H ((tT es k b v).map λp=>V.ref p.2.1) ((kO kvs k d).map λp=>dD p.1)/\DNs K N H ((tT es k b v).map λp=>p.2.2) ((kO kvs k d).map λp=>p.2):=by unfold tT kO;rw[vJ k e];by_cases c:(cu kvs k).isSome=NK;rw[M0 c,M0 c];show wJ k v d e h1 h2 dn;rw[M1 c,M1 c];simp only[Jm,IU,J5];show(by rw[e],h1.app (.cons a .nil),h2.app (.cons dn .nil))
def aU.retreeR{S S' R:NE}{d':ab}{a:ap}{o:HO}(h:aU K M P H0 (A++(Pm (NI v) (.tr S d))::B) H)(l:a∈S)(pm:S.Perm (S'++R))(p:OT K (Nw M (A++(Pm (NI v) (.tr S d))::B)) (upd H a o) v d' S') :
  aU K M P H0 (A++(Pm (NI v) (.tr S' d'))::B) (upd H a o):=by
 cbv;let(v',ev,ot,w):=h.tr _ _ _ (IE _ IL);cases ev;let r:oas (A++(Pm (NI v) (Sl.tr S d))::B)=oas A++(S++oas B):=by rw[ah,aj,aK]
 let nd:=h.nd;rw[r]at nd;let(F,C,D):=IT.mp nd;let(G,I,E):=IT.mp C
 w_up;let na:Nw M (A++(Pm (NI v) (Sl.tr S d))::B) a:=.inr (by rw[r];show IE _ (IJ _ l));let n:aO (Nw M (A++(Pm (NI v) (Sl.tr S d))::B)) H (upd H a o):=aO.own na;let i:oas (A++(Pm (NI v) (Sl.tr S' d'))::B)=oas A++(S'++oas B):=by rw[ah,aj,aK]
 let j:∀b,b∈S'->b∈S:=λb z=>pm.mem_iff.mpr (IJ _ z);let up:∀b,Nw M (A++(Pm (NI v) (Sl.tr S' d'))::B) b->Nw M (A++(Pm (NI v) (Sl.tr S d))::B) b:=Nw.sub λb z=>by
  rw[i]at z;rw[r];rcases II.mp z with z|z;show IJ _ z;rcases II.mp z with z|z;show IE _ (IJ _ (j b z));show IE _ (IE _ z)
 let e:∀(b:ap) (u:HO),upd H a o b=NI u->Nw M (A++(Pm (NI v) (Sl.tr S' d'))::B) b->Nw M (A++(Pm (NI v) (Sl.tr S d))::B) b:=λb Y Y z=>up b z;let c:∀x t,(Pm x t)∈A\/(Pm x t)∈B->(Pm x t)∈A++(Pm (NI v) (Sl.tr S d))::B:=λx t m=>by
  rcases m with m|m;show IJ _ m;show IE _ (IM _ m)
 let f:∀x t,(Pm x t)∈A++(Pm (NI v) (Sl.tr S' d'))::B->(Pm x t)=(Pm (NI v) (Sl.tr S' d'))\/((Pm x t)∈A\/(Pm x t)∈B):=λx t m=>by
  rcases II.mp m with m|m;show .inr (.inl m);rcases IR.mp m with m|m;show .inl m;show .inr (.inr m)
 let other:∀x t b,(Pm x t)∈A\/(Pm x t)∈B->b∈cH (Pm x t)->b≠a:=λx t b m y z=>by
  subst z;rcases m with m|m;show D b (aT.mpr ⟨_,m,y⟩) b (IJ _ l) rfl;show E b l b (aT.mpr ⟨_,m,y⟩) rfl
 show⟨h.keep.put (w a l),λb q z=>?_,h.mt,h.pm,λx d' m=>?_,λx d' m=>?_,λx d' m=>?_,λx S2 d' m=>?_,?_⟩;by_cases g:b=a;subst g;rw[aq]at z;cases z;rw[al g]at z;show h.live b q z;rcases f _ _ m with m|m;cases m;let(w',e1,dn):=h.fr x d' (c _ _ m);show⟨w',e1,(dn.keep n).to e⟩;rcases f _ _ m with m|m;cases m;let(b,us2,e1,e2,dn,k):=h.ow x d' (c _ _ m);subst e1;show⟨b,us2,rfl,by rw[al (other _ _ b m (IG.mpr rfl))];show e2,(dn.keep n).to e,k⟩;rcases f _ _ m with m|m;cases m;let(b,us2,e1,e2,dn,k):=h.io x d' (c _ _ m);subst e1;show⟨b,us2,rfl,by rw[al (other _ _ b m (IG.mpr rfl))];show e2,(dn.keep n).to e,k⟩;rcases f _ _ m with m|m;cases m;show⟨v,rfl,p.to e,λb g=>w b (j b g)⟩;let(w',e1,dn,k):=h.tr x S2 d' (c _ _ m);subst e1;show⟨w',rfl,(dn.keep n λb g=>al (other _ _ b m (by rw[aK];show g))).to e,k⟩;rw[i];let s:(oas A++((S'++R)++oas B)).Nodup:=(hA _ (Lr _ pm)).nodup_iff.mp nd;show s.sublist (List.Sublist.append_left (List.Sublist.append_right ?_ _) _);show List.sublist_append_left _ _
def Rel.retreeT{i:Nat}{S S' R:NE}{d':ab}{a:ap}{o:HO}(h:Rel K M P H0 σ0 σ env ts H)(e:env[i]?=NI (.tr S d))(ev:σ[i]?=NI (NI v))(f:a∈S)(pm:S.Perm (S'++R))(b:OT K (Nw M (aw σ env ts)) (upd H a o) v d' S') :
  Rel K M P H0 σ0 σ (env.set i (.tr S' d')) ts (upd H a o):=by
 cbv;let(x,A,B,e1,g,k):=h.split e;rw[ev]at e1;cases e1
 w_up;let r:=h.e;rw[g]at r b;show(by rw[k];show r.retreeR f pm b,by simp[h.len],h.vw,λj c e'=>?_);by_cases hj:i=j;subst hj;let hi:i< -env:=(IN.mp e).1;rw[Jc hi]at e';cases e';rw[Je hj]at e';show h.ios j c e'
def Rel.dct{i:Nat}{S:NE}(h:Rel K M P H0 σ0 σ env ts H)(e:env[i]?=NI (.tr S (eD kvs))):∃a es,σ[i]?=NI (NI (.ref a))/\S=[a]/\H a=NI (.ext (ce a es))/\DNs K (Nw M (aw σ env ts)) H (es.map λp=>V.ref p.2.1) (kvs.map λp=>dD p.1) /\
  DNs K (Nw M (aw σ env ts)) H (es.map λp=>p.2.2) (kvs.map λp=>p.2)/\es.map (λp=>p.1)=kvs.map (λp=>p.1):=by
 cbv;let(x,e1,m):=h.slot e;let(v,ev,ot,_):=h.e.tr _ _ _ m;let(a,es,rfl,b,c,hk,hv,d):=ot.dct_of rfl
 w_up;show(a,es,by rw[e1,ev],b,c,hk,hv,d)
end
section
variable{X:Cx}{K:ca}{pos:Pos}{e:bb}{te tj:DE}
def Ih(hK:X.K=K)(a:X.A.units+2<KD):OpR X (q4 .In) (FJ K):=by subst hK;show Dv a
def oN(hK:X.K=K)(a:X.A.units+2<KD):OpR X (q4 .NotIn) (nY K):=by subst hK;show um a
def Ig(hK:X.K=K)(a:X.A.units+2<KD):IxR X (FH K):=by subst hK;show Ij a
def hu2{k:Nat}{A:Around}(a:b9 k A):A.units+2<KD:=Kw (Nat.add_le_add_left (by decide:2<=64) _) a.units
def BO(i:Nat)(tj te:DE):DS:=λDD env=>te env λs1 b=>(∃S kvs,b[i]?=NI (.tr S (eD kvs)))/\tj b λs2 a=>∃(S:NE) (kvs:Nf) (k:aL) (d:ab),
 a[i]?=NI (.tr S (eD kvs))/\aV a s2=NI (dD k)/\aV a s1=NI d/\kvs.length<sizeLine/\DD.nx (a.set i (.tr S (eD (kO kvs k d))))
def pW(i:Nat){y:bx}{npos c:Pos}{j:bb}(hK:X.K=K)(J:X.A.units+2<KD)(hN:X.N[i]?=some y)(hj:PE X j (up K tj))(L:PE X e (up K te))
  (hv:Vis X.env.scope y:=by walk_at"v0") (hd:(y==("__debug__" : bx))=false:=by decide)
  (r:(y==("__classdict__" : bx))=false:=by decide)
  (O:∀v,Qm (.Subscript (.Name y npos) j c) X.env v=(do
   let ov <-KI [v] (eval (.Name y npos) X.env)
   let iv <-KI [v,ov] (eval j X.env)
   K2 c
   KI [v,ov,iv] (Q9 ov iv v)
   release [v,ov,iv] []):=by intro _;rfl)
  (hs:Zo [.Subscript (.Name y npos) j c] e pos.line X.env=pure false:=by rfl) (hw:Zp [.Subscript (.Name y npos) j c] e X.env=pure none:=by rfl)
  (h1:(KH [.Subscript (.Name y npos) j c] X.env).map (·.2)=[Qm (.Subscript (.Name y npos) j c) X.env]:=by rfl):PS X (.Assign [.Subscript (.Name y npos) j c] e pos) (upS K (BO i tj te)):=by
 subst hK;show(tX L (ua (bu hN hv hd r) hj (FA J) O) hs hw h1).imp λD σ H h=>?_;let(M,P,H0,σ0,env,ts,DD,nv,t,ht,ok):=h;show(M,P,H0,σ0,env,ts,_,t,ht,λs1 n v1 H1 h1 l=>?_);let((S0,E,Q),h1):=h1;let(a,_,q,_):=l.dct Q;show(.ref a,q,M,P,H0,σ0,n,ts++[(v1,s1)],_,l,h1,λs2 g F u h2 o=>?_)
 cbv;let(S,kvs,k,d,e2,T,U,hl,V):=h2;let f:Rel X.K M P H0 σ0 σ g (ts++[(v1,s1),(F,s2)]) u:=by simpa using o
 let w:=f.kept (v:=v1) (s:=s1) (!1) U;let m:=f.kept (v:=F) (s:=s2) (!1) T;let(a',es,p,z,W,hk,hv,C):=f.drop.dct e2;rw[q]at p;cases p;let(b,xs,rfl,_,_):=m.tuple
 w_up;let G:-es=-kvs:=by let:=congrArg np C;simpa using this
 show(k,a,b,es,kvs,rfl,rfl,m.dv,W,hk.dv,C,!0,ok.nx _ _ _ V ?_);let(Y,p2,p3):=Aw (b:=b) (k:=k) C hk hv m w;let na:Nw M (aw σ g ts) a:=by let(x,A,B,e1,Z,q2):=f.drop.split e2;show .inr ?_;rw[Z,ah,aj];rw[q]at e1;cases e1;rw[aK,z];simp
 let I:aO (Nw M (aw σ g ts)) u (upd u a (.ext (ce a (tT es k b v1)))):=aO.own na;show f.drop.retreeT (R:=[]) e2 q (by rw[z];simp) (!1) ?_;rw[z];show .dct aq (p2.keep I) (p3.keep I) Y
end
section
variable{K:ca}{M P N:ap->Prop}{H0 H:Hp}{E:Nt}{σ0 σ:St}{env:NA}{ts:Ni}{v:V}{d:ab}{kvs:Nf}
def aU.addO(h:aU K M P H0 E H){p:ap}{o:HO}(c:H p=NJ)(ot:∀N,OT K N (upd H p o) (.ref p) d [p]):aU K M P H0 (E++[(NI (.ref p),.tr [p] d)]) (upd H p o):=by
 let g:oas (E++[(NI (.ref p),Sl.tr [p] d)])=oas E++[p]:=by rw[ah];rfl
 let i:p ∉ oas E:=λz=>by
  let(vs',q,_):=h.own z;rw[c]at q;cases q
 let j:H0 p=NJ:=by
  cases e:H0 p with
  |none=>rfl
  |some o=>show absurd c (h.live p (by rw[e];simp))
 let up:∀b o,H b=NI o->Nw M (E++[(NI (.ref p),Sl.tr [p] d)]) b->Nw M E b:=λb Y e z=>by
  rcases z with z|z;show .inl z;rw[g]at z;rcases II.mp z with z|z;show .inr z;rw[IG.mp z,c]at e;cases e
 let h':=h.same (aS.new (o:=o) c);show(h'.keep,h'.live,h.mt,h.pm,λx d' m=>?_,λx d' m=>?_,λx d' m=>?_,λx S d' m=>?_,?_);rcases II.mp m with m|m;let(v,e,dn):=h.fr x d' m;show(v,e,(dn.to up).keep (aO.same (aS.new c)));rw[IG]at m;cases m;rcases II.mp m with m|m;let(a,ws,e,e2,dn,r):=h.ow x d' m;show(a,ws,e,aS.new c _ _ e2,(dn.to up).keep (aO.same (aS.new c)),r);rw[IG]at m;cases m;rcases II.mp m with m|m;let(a,ws,e,e2,dn,r):=h.io x d' m;show(a,ws,e,aS.new c _ _ e2,(dn.to up).keep (aO.same (aS.new c)),r);rw[IG]at m;cases m;rcases II.mp m with m|m;let(v,e,dn,r):=h.tr x S d' m;show(v,e,(dn.to up).keep (aO.same (aS.new c)) λa f=>by
  let(xs,z):=dn.lives a f;rw[aS.new c _ _ z,z],r)
 rw[IG]at m;cases m;show(_,rfl,ot _,λa f=>by rw[IG.mp f];show j);rw[g];show IT.mpr (h.nd,!1,λa f b k=>by rw[IG.mp k];exactλz=>i (z▸f))
def aU.addD(h:aU K M P H0 E H){p:ap}(a:H p=NJ):aU K M P H0 (E++[(NI (.ref p),.tr [p] (eD []))]) (upd H p (.ext (ce p []))):=h.addO a λY=>.dct (es:=[]) (kvs:=[]) aq .nil .nil rfl
theorem Rel.addD(h:Rel K M P H0 σ0 σ env ts H){p:ap}(a:H p=NJ):Rel K M P H0 σ0 σ env (ts++[(.ref p,.tr [p] (eD []))]) (upd H p (.ext (ce p []))):=h.withRes (h.e.addD a) rfl
end
section
variable{X:Cx}{K:ca}{pos:Pos}{e1 e2:bb}{tk tv:DE}
def BX:DE:=λenv R=>∀S,R (.tr S (eD [])) env
def yK:PE X (.Dict [] [] pos) (up K BX):=AN.imp λσ H Q h=>by
 let(M,P,H0,σ0,env,ts,R,a,ht,b):=h
 exactλp c=>b _ _ _ _ (ht _) (a.addD c)
def BW(tk tv:DE):DE:=λenv R=>tk env λs1 b=>tv b λs2 a=>∃(k:aL) (d:ab),aV a s1=NI (dD k)/\aV a s2=NI d/\∀S,R (.tr S (eD [(k,d)])) a
def C5(hK:X.K=K)(y:X.A.units+2<KD)(hk:PE X e1 (up K tk))(hv:PE X e2 (up K tv)):PE X (.Dict [NI e1] [e2] pos) (up K (BW tk tv)):=by
 subst hK;show(AM (Kw (Kb _) y) hk hv).imp λσ H Q h=>?_;let(M,P,H0,σ0,env,ts,R,q,ht,z):=h;intro p C;show(M,P,H0,σ0,env,_,_,q.addD C,ht,λs1 j v1 H1 h1 l=>(M,P,H0,σ0,j,_,_,l,h1,λs2 f o r h2 m=>?_))
 cbv;let(k,d,D,E,F):=h2;let c:Rel X.K M P H0 σ0 σ f ((ts++[(.ref p,.tr [p] (eD []))])++[(v1,s1),(o,s2)]) r:=by simpa using m
 let g:=c.kept (v:=v1) (s:=s1) (!1) D;let n:=c.kept (v:=o) (s:=s2) (!1) E;let i:=c.drop;let t:=i.e;rw[ar]at t g n;let(v',ev,ot,N):=t.tr _ _ _ (IE _ IL);let(a,es,u,O,G,I,J,L):=ot.dct_of (kvs:=[]) rfl;rw[u]at ev;cases ev;let w:es=[]:=by simpa using L
 subst w;let(b,xs,rfl,_,_):=g.tuple
 w_up;show(k,b,rfl,g.dv,G,z _ _ _ _ (F [p]) ?_);let na:Nw M (aw σ f ts++tmp [(V.ref p,Sl.tr [p] (eD []))]) p:=.inr (by rw[ah];show IE _ (aT.mpr (_,IG.mpr rfl,IG.mpr rfl)));let x:aO (Nw M (aw σ f ts++tmp [(V.ref p,Sl.tr [p] (eD []))])) r (upd r p (.ext (ce p [(k,b,o)]))):=aO.own na;show i.drop.withRes ?_ rfl;show aU.retreeR (B:=[]) (R:=[]) (S:=[p]) t (!1) (!1) ?_;show .dct (es:=[(k,b,o)]) (kvs:=[(k,d)]) aq ((DNs.cons g .nil).keep x) ((DNs.cons n .nil).keep x) rfl
end
abbrev wD(w:M9):ab:=.list (w.map λr=>fzD (r.map .int))
abbrev fu(W:M3):ab:=.list (W.map wD)
section
variable{K:ca}{M P N:ap->Prop}{H0 H:Hp}{A B:Nt}{σ0 σ:St}{env:NA}{ts:Ni}{v:V}{s:Sl}{d:ab}
def OT.unfz{S:NE}{ds:Nz}(h:OT K N H v d S)(e:d=fzD ds):DN K N H v (.list ds)/\S=[]:=by
 cases h with
 |@fz _ ds' h =>
  simp only[fzD,lp,gf,lc,LF,and_true,true_and]at e;subst e;show(h,rfl)
 |dct _ _ _ _=>show(xN e.symm).elim
 |_=>cases e
def DN.unfz{ds:Nz}(h:DN K N H v d)(e:d=fzD ds):DN K N H v (.list ds):=by
 cases h with
 |@fz _ ds' h =>
  simp only[fzD,lp,gf,lc,LF,and_true,true_and]at e;subst e;show h
 |dct _ _ _ _ _=>show(xN e.symm).elim
 |idc _ _ _=>simp[fzD,qt]at e
 |dsk _ _ _ _ _=>simp[fzD,jK]at e
 |_=>cases e
theorem y6:∀w:M9,fzs (w.map λr=>dk (r.map .int))=NI (w.map λr=>fzD (r.map .int))
 |[]=>rfl
 |r::w=>by
  show(fzs (w.map λr=>dk (r.map .int))).map (fzD (r.map .int)::·)=_;rw[y6 w];rfl
def pw(w:M9):eG env (.ow (w.map λr=>dk (r.map .int)))=NI (wD w):=by
 show(if oG _=NK then _ else _)=_;rw[y6];cases w with
 |nil=>rfl
 |cons r w =>
  rw[M1 (by simp[oG,noL])];rfl
theorem OTs.row:∀{w:M9}{us:NH}{S:NE},OTs K N H us (w.map λr=>fzD (r.map .int)) S->S=[]/\DNs K N H us (w.map λr=>dk (r.map .int))
 |[],_,_,h=>by cases h;show(rfl,.nil)
 |r :: w,_,_,h=>by
  rw[IU]at h;cases h with
  |cons h q =>
   cbv;let(e1,e2):=OTs.row q;let(d1,d2):=h.unfz rfl;subst e1 d2
   w_up;show(rfl,.cons d1 e2)
theorem DNs.row:∀{w:M9}{us:NH},DNs K N H us (w.map λr=>dk (r.map .int))->OTs K N H us (w.map λr=>fzD (r.map .int)) []
 |[],_,h=>by cases h;show .nil
 |r::w,_,h=>by
  rw[IU]at h;cases h with
  |cons h q=>show .cons (S:=[]) (S':=[]) (.fz h) (DNs.row q)
def OTs.last{W:M3}{w:M9}{vs:NH}{S:NE}(h:OTs K N H vs ((W++[w]).map wD) S) :
  ∃vs' S' b us,vs=vs'++[.ref b]/\S=S'++[b]/\OTs K N H vs' (W.map wD) S'/\H b=NI (.lst us)/\DNs K N H us (w.map λr=>dk (r.map .int)):=by
 induction W generalizing vs S with
 |nil =>
  rw[Kt,IU,J5]at h;cases h with
  |cons h q =>
   cases q;cases h with
   |@lst b us _ S a c =>
    let(e1,e2):=c.row;subst e1;show([],[],b,us,rfl,!1,.nil,a,e2)
 |cons f W d =>
  rw[La,IU]at h;cases h with
  |@cons x xs _ _ S1 S2 h q =>
   let(vs',S',b,us,e1,e2,e,a,dn):=d q;subst e1 e2;show(x::vs',S1++S',b,us,rfl,!1,.cons h e,a,dn)
def OTs.snoc{W:M3}{w:M9}{vs:NH}{S:NE}{b:ap}{us:NH}(q:OTs K N H vs (W.map wD) S)(a:H b=NI (.lst us))(dn:DNs K N H us (w.map λr=>dk (r.map .int))) :
  OTs K N H (vs++[.ref b]) ((W++[w]).map wD) (S++[b]):=by rw[Jm];show q.app ?_;let:=OTs.cons (OT.lst a dn.row) (OTs.nil (K:=K) (N:=N) (H:=H));simpa using this
def Rel.ways{i:Nat}{S:NE}{W:M3}{w:M9}(h:Rel K M P H0 σ0 σ env ts H)(e:env[i]?=NI (.tr S (fu (W++[w])))) :
  ∃a vs S' b us,σ[i]?=NI (NI (.ref a))/\S=a::(S'++[b])/\S.Nodup/\(∀c∈S,Nw M (aw σ env ts) c)/\H a=NI (.lst (vs++[.ref b]))/\OTs K (Nw M (aw σ env ts)) H vs (W.map wD) S'/\H b=NI (.lst us)/\DNs K (Nw M (aw σ env ts)) H us (w.map λr=>dk (r.map .int)):=by
 cbv;let(x,A,B,e1,g,o):=h.split e;let(p,d,m):=h.slot e;let(v,ev,ot,_):=h.e.tr _ _ _ m;rw[e1]at d;cases d;subst ev
 w_up;cases ot with
 |@lst a j _ s k q =>
  let(vs',S',b,us,rfl,rfl,l,n,dn):=OTs.last q;let f:oas (aw σ env ts)=oas A++((a::(S'++[b]))++oas B):=by rw[g,ah,aj,aK]
  let nd:=h.e.nd;rw[f]at nd;show(a,vs',S',b,us,e1,rfl,(IT.mp (IT.mp nd).2.1).1,λc hc=>.inr ?_,k,l,n,dn);rw[f];show IE _ (IJ _ hc)
def F9:G2:=λd e R=>∃ds i x,eP d=NI ds/\e=.int i/\atI ds i=NI (fzD x)/\R (.list x)
def HP:bq K (FI K) F9:=by rintro N H x y d e R Q g b ⟨ds,i,z,e1,rfl,e2,c⟩ f;let(a,vs,rfl,s,q):=g.seq e1;let(u,e3,dn):=q.atI e2;rcases s with s|s;show .inl (a,vs,i,u,rfl,b.int,s,e3,f _ _ c (dn.unfz rfl));show .inr (a,vs,i,u,rfl,b.int,s,e3,f _ _ c (dn.unfz rfl))
def cX{α:Type}(xs:List α)(v:α):atI (xs++[v]) (-1)=NI v:=by unfold atI ixN;rw[M1 (!2),M0 (by rw[Jg];simp;lia)];show(xs++[v])[(-1+((xs++[v]).length:Int)).toNat]?=NI v;rw[show(-1+((xs++[v]).length:Int)).toNat=-xs by rw[Jg];simp;lia];simp
end
section
variable{X:Cx}{K:ca}{pos npos:Pos}{y:bx}{j j2:Nat}{p3 p4 p5 p6 apos cpos:Pos}
def kC(i:Nat):DT:=λenv R=>∃(S:NE) (W:M3) (w:M9),env[i]?=NI (.tr S (fu (W++[w])))/\R (!w.isEmpty) env
def tM(i:Nat)(hK:X.K=K)(hN:X.N[i]?=some y)(hv:Vis X.env.scope y:=by walk_at"v0")(hd:(y==("__debug__" : bx))=false:=by decide)
  (f:(y==("__classdict__" : bx))=false:=by decide) (g:dZ (.UnaryOp .USub (.Constant (.int 1) j p3) p4):=by intro _ _;rfl)
  (k:∀c,QF (.Subscript (.Name y npos) (.UnaryOp .USub (.Constant (.int 1) j p3) p4) pos) X.env c=(do let v <-c;K2 (Expr.pos (.Subscript (.Name y npos) (.UnaryOp .USub (.Constant (.int 1) j p3) p4) pos));KI [v] (Ze v)):=by intro _;rfl) :
  PT X (.Subscript (.Name y npos) (.UnaryOp .USub (.Constant (.int 1) j p3) p4) pos) (upT K (kC i)) :=
 (yU (K:=K) hK (uc (jF hK) (bu hN hv hd f) on g) k).imp λσ H Q h=>by
 let(M,P,H0,σ0,env,ts,R,d,(S,W,w,e,l),m):=h;let(a,vs,S',b,us,n,_,_,_,o,_,p,dn):=d.ways e;show(.ref a,n,.inl (a,_,-1,.ref b,rfl,rfl,SqL.of o,cX _ _,_,.inl (us,SqL.of p,?_),m _ _ _ l d));let:=dn.len;cases us with
 |nil=>cases w with
  |nil=>rfl
  |cons r w=>simp at this
 |cons u us=>cases w with
  |nil=>simp at this
  |cons r w=>rfl
def qM(i:Nat):DE:=λenv R=>∃(S:NE) (W:M3) (r:Np) (w:M9),env[i]?=NI (.tr S (fu (W++[r::w])))/\R (.fr (.list (r.map .int))) env
def Ao(i:Nat)(hK:X.K=K)(hN:X.N[i]?=some y)(hv:Vis X.env.scope y:=by walk_at"v0")(hd:(y==("__debug__" : bx))=false:=by decide)
  (d:(y==("__classdict__" : bx))=false:=by decide) (k:dZ (.UnaryOp .USub (.Constant (.int 1) j p3) p4):=by intro _ _;rfl) (f:dZ (.Constant (.int 0) j2 p5):=by intro _ _;rfl) :
  PE X (.Subscript (.Subscript (.Name y npos) (.UnaryOp .USub (.Constant (.int 1) j p3) p4) pos) (.Constant (.int 0) j2 p5) p6) (up K (qM i)) :=
 (uc (jF hK) (uc (jF hK) (bu hN hv hd d) on k) lF f).imp λσ H Q h=>by
 let(M,P,H0,σ0,env,ts,R,c,(S,W,r,w,e,l),m):=h;let(a,vs,S',b,us,n,_,_,_,o,_,p,dn):=c.ways e;rw[IU]at dn;cases dn with
 |@cons u us _ _ g q =>
  show(.ref a,n,.inl (a,_,-1,.ref b,rfl,rfl,SqL.of o,cX _ _,.inl (b,_,0,u,rfl,rfl,SqL.of p,by simp[atI,ixN],m _ _ _ _ l (c.addFr g))))
def vg(i:Nat):DE:=λenv R=>∃(S:NE) (W:M3) (r:Np) (w:M9),env[i]?=NI (.tr S (fu (W++[r::w])))/\R (.fr (.list (r.map .int))) (env.set i (.tr S (fu (W++[w]))))
def Ak(i:Nat)(hK:X.K=K)(hN:X.N[i]?=some y)(hv:Vis X.env.scope y:=by walk_at"v0")(hd:(y==("__debug__" : bx))=false:=by decide)
  (n:(y==("__classdict__" : bx))=false:=by decide) (L:dZ (.UnaryOp .USub (.Constant (.int 1) j p3) p4):=by intro _ _;rfl)
  (l:kq [.Constant (.int 0) j2 p5] X.env=[(false,eval (.Constant (.int 0) j2 p5) X.env)]:=by rfl)
  (f:z5 (.Subscript (.Name y npos) (.UnaryOp .USub (.Constant (.int 1) j p3) p4) pos) "pop" X.env (eval (.Subscript (.Name y npos) (.UnaryOp .USub (.Constant (.int 1) j p3) p4) pos) X.env)=eval (.Subscript (.Name y npos) (.UnaryOp .USub (.Constant (.int 1) j p3) p4) pos) X.env:=by rfl)
  (m:((ze cpos (kq [.Constant (.int 0) j2 p5] X.env)).all (λx=>!x.1)&&(KU cpos (KA [] X.env)).all (λx=>x.1.isSome)&&decide ([Expr.Constant (.int 0) j2 p5].length+([]:NG).length+(if ([]:NG).isEmpty then 0 else 1)<30))=true:=by rfl)
  (g:(apos.endLine==cpos.line)=true:=by rfl) (d:(ze cpos (kq [] X.env)).any (·.1)=false:=by rfl) :
  PE X (.Call (.Attribute (.Subscript (.Name y npos) (.UnaryOp .USub (.Constant (.int 1) j p3) p4) pos) "pop" apos) [.Constant (.int 0) j2 p5] [] cpos) (up K (vg i)) :=
 (kBm (K:=K) hK gk p7 p1 xl (uc (jF hK) (bu hN hv hd n) on L) (cB lF fM l) f m g l d).imp λσ H Q h=>by
 let(M,P,H0,σ0,env,ts,R,k,(S,W,r,w,e,O),T):=h;let(a,vs,S',b,us,p,G,s,t,I,q,J,dn):=k.ways e;rw[IU]at dn;cases dn with
 |@cons u us _ _ v C =>
  show(.ref a,p,.inl (a,_,-1,.ref b,rfl,rfl,SqL.of I,cX _ _,.inl (rfl,_,SqL.of J),b,_,0,0,u,rfl,rfl,J,!2,!2,by simp[Zt],rfl,T _ _ _ _ O ?_));let mb:b∈S:=by rw[G];simp
  let D:aO (Nw M (aw σ env ts)) H (upd H b (.lst us)):=aO.own (t b mb)
  cbv;subst G;let(U,V):=Jr.mp s;let(n3,n4,Y):=IT.mp V
  w_up;let E:a≠b:=λz=>U (by rw[z];simp);show Rel.addFr (k.retreeT (R:=[]) e p mb (!1) ?_) ?_;show .lst (by rw[al E];show I) ?_;show OTs.snoc (q.keep D λc hc=>al λz=>Y c hc b (!1) z) aq (C.keep D);let oe:aw σ (env.set i (.tr (a::(S'++[b])) (fu (W++[w])))) ts=aw σ (env.set i (.tr (a::(S'++[b])) (fu (W++[w])))) ts:=rfl;let(x,A,B,e1,Z,q2):=k.split e;show(v.keep D).to λc o F z=>?_;rw[q2]at z;rw[Z];rcases z with z|z;show .inl z;show .inr ?_;rw[p]at e1;cases e1;rw[ah,aj,aK]at z ⊢;show z
def xZ(i:Nat):DE:=λenv R=>∃(S:NE) (W:M3) (w:M9),env[i]?=NI (.tr S (fu (W++[w])))/\∀S',R .un (env.set i (.tr S' (fu W)))
def C1(i:Nat)(hK:X.K=K)(hN:X.N[i]?=some y)(hv:Vis X.env.scope y:=by walk_at"v0")(hd:(y==("__debug__" : bx))=false:=by decide)
  (k:(y==("__classdict__" : bx))=false:=by decide)
  (d:z5 (.Name y npos) "pop" X.env (eval (.Name y npos) X.env)=eval (.Name y npos) X.env:=by rfl) (f:(apos.endLine==cpos.line)=true:=by rfl) :
  PE X (.Call (.Attribute (.Name y npos) "pop" apos) [] [] cpos) (up K (xZ i)) :=
 (He (K:=K) hK gk p7 p1 yS (bu hN hv hd k) d f).imp λσ H Q h=>by
 cbv;let(M,P,H0,σ0,env,ts,R,g,(S,W,w,e,u),v):=h;let(a,vs,S',b,us,p,A,l,n,r,q,E,dn):=g.ways e;subst A
 w_up;show(.ref a,p,.inl (rfl,_,SqL.of r),a,_,.ref b,rfl,rfl,r,!1,v _ _ _ _ (u (a::S')) ?_);let s:a∈a::(S'++[b]):=IL;let B:aO (Nw M (aw σ env ts)) H (upd H a (.lst vs)):=aO.own (n a s);let(C,G):=Jr.mp l;rw[List.dropLast_concat];let j:=g.retreeT (o:=.lst vs) (S':=a::S') (R:=[b]) (d':=fu W) e p s (!1) (.lst aq (q.keep B λc hc=>al λz=>C (by rw[<-z];simp[hc])));let D:aU K M P H0 (aw σ (env.set i (.tr (a::S') (fu W))) ts++tmp [(V.ref b,Sl.un)]) (upd H a (.lst vs)):=by show j.e.sub (λx t m=>?_) ?_;rcases II.mp m with m|m;show .inl m;let m:=IG.mp m;injection m with m1 m2;show .inr (.inl m2);rw[ah];show(oas _++oas [(NI (.ref b),Sl.un)]).Nodup;rw[show oas [((NI (.ref b),Sl.un):Ent)]=[] from rfl,Jh];show j.e.nd
 show(by rw[ar];show D,j.len,λw i m=>?_,j.ios);rcases II.mp m with m|m;show j.vw w i m;rw[IG]at m;cases m
end
section
variable{prog:q3}{w:zb}{A:Around}{E:as->ba->Prop}{s:ba}
def IB(h:bd)(v:as):Prop:=∃(l:ap) (a:Nq),v=.ref l/\h.IsList l a/\∀j (h:j<a.size),∃x t,a[j]=eh x t
def rL{l b:ap}{items a:Nq}{Q:Bool->ba->Prop}(hl:s.heap.IsList l items)(p:s.heap.IsList b a)(f:∀j (h:j<items.size),∃x t,items[j]=eh x t)(g:∀j (h:j<a.size),∃x t,a[j]=eh x t)
  (q:A.units<KD) (h:∀c,Q c s):kw (qb prog w) A (oneLt' NK (.ref l) (.ref b)) Q E s:=by
 cbv;let((cls,dd,data,sl),ho,hc,n,hd):=id hl;let((o,i,data2,k),m,d,r,e):=id p;simp only at hc hd d e;subst hc hd d e
 w_up;rw[oneLt'_eq];simp only[if_true];show jj (wpAny_cRoomFor q ?_);show jj (wpAny_callSpecialIfBound?_slot (_,ho,rfl) F.slot_list_lt (Qd F.slot_list_lt (_,ho,rfl) F.entry_list_lt (F.args_list_lt_2 _ _) (l8 l b items a n r dd i sl k f g) (ho,m,λc=>?_)));show KB (h c)
end
def yZ(d:ab):Prop:=∃n:Int,d=.int n
section
variable{X:Cx}{pins:Nd}{σ:St}{H:Hp}{s:ba}
theorem uR(I:Inv X pins σ H s):∀{vs:NH}{ds:Nz}{us:NC},DVs X.K H vs ds->aH vs us->(∀d∈ds,yZ d)->∀u∈us,∃x t,u=eh x t
 |_,_,_,.nil,.nil,_,u,h=>by cases h
 |_,_,_,.cons (d:=d) a b,.cons r t,hk,u,h=>by
  rcases IR.mp h with rfl|h
  .cbv;let(n,rfl):=hk d (!1);cases a;let(t,rfl):=r
   w_up;show(_,_,rfl)
  show uR I b t (λd hd=>hk d (by simp[hd])) u h
theorem pO(I:Inv X pins σ H s):∀{vs:NH}{ds:Nz}{us:NC},DVs X.K H vs ds->aH vs us->(∀d∈ds,D9 d)->∀u∈us,IB s.heap u
 |_,_,_,.nil,.nil,_,u,h=>by cases h
 |_, _,_,.cons (d:=d) c e,.cons r t,hk,u,h=>by
  rcases IR.mp h with rfl|h
  .cbv;let(ns,rfl):=hk d (!1);let(a,xs,rfl,sq,q):=c.lstI;let(b,rv,f,_):=I.list sq
   w_up;show(a,b.toArray,r,f.isList,λj hj=>by
    let:=kt q rv j (by simpa using hj);simpa using this)
  show pO I e t (λd hd=>hk d (by simp[hd])) u h
end
noncomputable def zn(CX:CXT)(P:q3)(w:zb)(K:ca)(mg:bx->Nm)(base:bd)(N:ND)(qual:bx)(scope:KL)(f:ap)(cd:as)(cl:Ng)(A:Around)(outer:Nu)(s:ba)(H:Hp)(E:XK):Cx where
 prog:=P
 w := w
 K := K
 mg := mg
 base:=base
 A := A.deeper (envX qual scope (~~~s) f cd cl)
 N := N
 s₀ := s
 H₀ := H
 env:=envX qual scope (~~~s) f cd cl
 outer:=outer
 stack:=envX qual scope (~~~s) f cd cl::outer
 ex := []
 calm:=NK
 fn := λY=>NL
 pn := []
 xe := λe s'=>kw (qb P w) (A.deeper (envX qual scope (~~~s) f cd cl)) (leaving (envX qual scope (~~~s) f cd cl) e) (λY a=>CX outer H s E e a) (λe' a=>CX outer H s E e' a) s'
structure kM(p x:bx)(sc:KL):Prop where
 kind:sc.kind=.function
 co : sc.isCoroutine=false
 gen:sc.isGenerator=false
 par:sc.names.lookup p=some .local
 fre:sc.names.lookup x=some .free
 nocell:∀y∈sc.names,y.2≠.cell
 one:∀y∈sc.names,y.2=.free->y.1=x
 ne : p≠x
section
variable{CX:CXT}{P:q3}{w:zb}{K:ca}{mg:bx->Nm}{base:bd}{qual p x:bx}{scope:KL}{f c:ap}{cd:as}{A:Around}{outer:Nu}{s:ba}{H:Hp}{E:XK}{u u0:as}{v v0:V}{h₁:bd}{tk:Nat}
def rW(S:kM p x scope)(hd:A.handled=none)(e:sy P w K mg base A outer s H)(a:s.heap.IsCell c (some u0))(n:be v0 u0)(k:H c=none)(r:be v u)
  (l:h₁.Ns s.heap.objs.size (λy=>[(p,u)].reverse.lookup y)) (hk:∀b o,s.heap.get? b=some o->h₁.get? b=some o) :
  Inv (zn CX P w K mg base [p,x] qual scope f cd [(x,c)] A outer s H E) [] [some v,some v0] H { s with heap:=h₁,toks:=tk }:=by
 let g:∀b:ap,b ∉ (zn CX P w K mg base [p,x] qual scope f cd [(x,c)] A outer s H E).ex:=λb z=>absurd (show b∈([]:NE) from z) (!1);let look:∀y d,fx y [(x,c)]=NI d->y=x/\d=c:=λy d h=>by
  let:=fj h;rw[IG]at this;cases this;show(rfl,rfl)
 let m:fx x [(x,c)]=NI c:=!1
 show((e.mod,S.kind,rfl,rfl,IS _,λy z d h1 h2=>?_,λy j=>?_,λy d h=>absurd h (by show ¬NL=NK;decide),λY=>hd,Around.frames_deeper e.frames,.inr (rfl,rfl),λb z=>absurd z (g b),e.bs,e.bsz,λb Y Y=>g b,λb z=>absurd z (g b),e.funs,e.frf,e.tab),
  rfl,e.bare,Un.kept hk,(_,l,λi y z h1 h2 h3=>?_),λy d h=>?_,e.hok.fresh (IS _),λy d h=>?_,λq t=>absurd (show q∈([]:Nd) from t) (!1),e.hok.kept hk,rfl)
 rw[(look y d h1).1,(look z d h2).1];let j:scope.names.lookup y=NI .cell\/scope.names.lookup y=NI .free:=j;rcases j with j|j;show absurd rfl (S.nocell _ (fj j));let:=S.one _ (fj j) rfl;simp only at this;rw[this];show(c,m)
 match i,h1,h2 with
 | 0,h1,h2 =>
  let h1:p=y:=by simpa[zn] using h1
  let h2:v=z:=by simpa using h2
  subst h1 h2;show(u,r,.inl (S.par,?_));simp
 | 1,h1,h2 =>
  let h1:x=y:=by simpa[zn] using h1
  let h2:v0=z:=by simpa using h2
  subst h1 h2;show(u0,n,.inr (.inr S.fre,c,m,a.keeps hk))
 |i+2,h1,h2=>simp at h2
 let(_,rfl):=look y d h;show(_,a.keeps hk);let(_,rfl):=look y d h;show k
def xw{params:QK}{body:bb}{pm ctv:as}{c':ap}{t:TE}{Q:VK}{k:Nat}(S:kM p x scope)(n:b9 (k+1) A)(h:sy P w K mg base A outer s H)(ho:s.heap.get? f=NI (QT "<lambda>" qual params body scope [(Pm x c)] pm c' ctv))(i:s.heap.CodeRec (.ref c') qual)
  (B:Qj (kla_fn "<lambda>" qual params body scope [(Pm x c)] pm (.ref c') ctv) ⟨[u],[]⟩=pure [(Pm p u)]) (a:s.heap.IsCell c (NI u0)) (C:be v0 u0) (j:H c=NJ) (r:be v u)
  (ht:PE (zn CX P w K mg base [p,x] qual scope f (.ref c') [(Pm x c)] A outer s H E) body t) (D:t [NI v,NI v0] H Q):KM (qb P w) A (.call (.ref f) ⟨[u],[]⟩) (CR CX outer P w H s Q E) s:=by let l:s.heap.NoLimit:=h.mod.nolimit.keeps λb o e=>(h.bs b o e).1;show kla_callFunE n.depth ho rfl S.co S.gen rfl i ?_;rw[B];show ke (wpAny_newFunctionEnv S.nocell (λy F=>by rw[IG.mp F];show S.par) (λh₁ m g=>⟨l.fresh _ g,?_⟩) S.kind);let d:∀b o,s.heap.get? b=NI o->h₁.get? b=NI o:=λb o e=>g.extBut b o (Jd (IX e)) (IH _ e);show KM _ _ (.expr body (envX qual scope (~~~s) f (.ref c') [(Pm x c)])) _ _;show kla_codeExpr ?_;let I:=rW (CX:=CX) (E:=E) (qual:=qual) (f:=f) (cd:=.ref c') (tk:=s.toks+[(Pm p u)].length) S n.hd h a C j r m d;show z3 (ht [] _ _ H _ I D) (λG s' hs=>?_) λe s' hs=>hs;let(z,H',J,rv,q):=hs;show⟨z,H',J.os,J.bare,J.base,J.hok,rv,q⟩
end
section
variable{X:Cx}{pins:Nd}{σ:St}{H:Hp}{s:ba}{params:QK}{body:bb}{scope:KL}{pos:Pos}{E:as->ba->Prop}{clos:Ng}
def uI(I:Inv X pins σ H s)(L:ym X)(k:Qc scope X.env=pure clos)(l:Zi params X.env=([],[])){Q:as->ba->Prop}
  (h : ∀f c' pm ctv s' H',Inv X pins σ H' s'->aS H H'->s'.heap.get? f=NI (QT "<lambda>" (X.env.qual ++ "<lambda>") params body scope clos pm c' ctv)->hV X pins H' f->EQ H' c' (X.env.qual ++ "<lambda>")->Q (.ref f) s') :
  kw (qb X.prog X.w) X.A (eval (.Lambda params body scope pos) X.env) Q E s:=by
 cbv;let(c,T,a,C,hL):=L;let M:H T=NI (.tbl (X.env.qual ++ "<lambda>")):=I.base.tbls T _ (I.ok.tab T _ hL);let(ps,e,g,d):=I.hok T _ M;let(bm,ob,P,R,v,N,S,x):=I.mod.bmain
 w_up;let hg:=I.mod.glob.keeps I.bk;let y:ky≠T:=λq=>by
  let(o,es,ep,e',hd,_):=hg;rw[q,e]at e';cases e';cases hd
 let z:bm≠T:=λq=>by
  let e':=I.bk _ _ v;rw[q,e]at e';cases e';cases N
 let B:bm≠ky:=λq=>by
  let(o,es,ep,e',hd,_):=hg;let e2:=I.bk _ _ v;rw[q,e']at e2;cases e2;rw[hd]at x;cases x
 let O:s.heap.BuiltinsAt X.mg T:=(bm,ob,P,R,B,z,I.bk _ _ v,N,S,x)
 show kla_eval l ?_;cases hc:QI pos ps.toList with
 |none =>
  show kla_makeFunction k I.ok.glob hg a (C.keeps I.bk) e g hc y O λc' ctv h' tk hx m U n D=>?_
  cbv;let(c2,oc,vs,t,e2,r,hd,hv):=n;cases e2;let F:B8 (upd H c' (.frz oc (.own 0))) h' T (X.env.qual ++ "<lambda>"):=by show(_,D,by rw[L9];show TriplesOk_snoc _ _ _ _ g,λp cv i=>?_);rw[L9]at i;rcases sk _ g i with i|rfl;let(c2,G,V,J,W,e1,e2,e3):=d _ _ i;show(c2,G,V,J,W,e1,by rw[al (au e2 (I.hok.fresh m))];show e2,e3);show(c',oc,_,vs,t,rfl,aq,hd,hv)
  let(j,Y):=I.grow (tk:=tk) M hx m r hd hv F
  w_up;let K:=j.kept (t':=tk) (h':=h'.push (QT "<lambda>" (X.env.qual ++ "<lambda>") params body scope clos ((X.mg "__name__").getD .none) c' ctv)) λb o e=>IH _ e;show h _ c' _ ctv _ _ K Y (IW _ rfl) (j.fpOk (IS _) (j.hok.fresh (IS _))) (_,_,_,_,aq,hd,hv)
 |some cv =>
  let(c',oc,u,vs,t,rfl,e1,hd,hv):=d _ _ hc;let(r,_):=I.hok c' _ e1;show kla_makeFunctionHit k I.ok.glob hg a (C.keeps I.bk) e g hc O λctv h' tk hk hsz=>?_;let j:=I.kept (t':=tk) hk;let K:=j.kept (t':=tk) (h':=h'.push (QT "<lambda>" (X.env.qual ++ "<lambda>") params body scope clos ((X.mg "__name__").getD .none) c' ctv)) λb o e=>IH _ e;show h _ c' _ ctv _ _ K (aS.refl _) (IW _ rfl) (j.fpOk (IS _) (j.hok.fresh (IS _))) (_,_,_,_,e1,hd,hv)
end
def GI{CX:CXT}{P:q3}{w:zb}{K:ca}{mg:bx->Nm}{base:bd}{N N':ND}{qual:bx}{scope sc:KL}{f:ap}{cd:as}{cl:Ng}{A:Around}{outer:Nu}{s:ba}{H:Hp}{E:XK}{ix:M5}
  (h : bOk N scope N' ix sc=NK):cF (zn CX P w K mg base N qual scope f cd cl A outer s H E).N (zn CX P w K mg base N qual scope f cd cl A outer s H E).env N' ix sc:=vD rfl rfl h
def vT:Sl->Sl
 |.fr d=>.fr d
 |_=>.un
def Bm{s:Sl}{d:ab}(h:vT s=.fr d):s=.fr d:=by cases s <;> first|show h|cases h
def xC{s:Sl}{a:ap}{x:Nx}:a ∉ cH (x,vT s):=λz=>by
 rcases lH z with⟨_,⟨ds,e⟩|⟨ds,e⟩⟩|⟨S,d,e,_⟩ <;> cases s <;> cases e
def za(i:Nat)(t:DT):DT:=λenv R=>∃ds,env[i]?=NI (.ow ds)/\t ((env.map vT).set i (.fr (.list ds))) λb Y=>R b env
def Ae{K:ca}{H:Hp}{vs:NH}{ds:Nz}(q:DNs K N0 H vs ds):Rel K N0 N0 H (vs.map NI) (vs.map NI) (ds.map Sl.fr) [] H:=by
 let c:∀x s,(x,s)∈aw (vs.map NI) (ds.map Sl.fr) []->∃v d,x=NI v/\s=.fr d/\(v,d)∈vs.zip ds:=λx s m=>by
  let m:(x,s)∈(vs.map NI).zip (ds.map Sl.fr)++[]:=m;rw[Jh,List.zip_map]at m
  cbv;let((v,d),f,e):=IZ.mp m;cases e
  w_up;show(v,d,rfl,rfl,f)
 let g:oas (aw (vs.map NI) (ds.map Sl.fr) [])=[]:=pQ.mpr λ⟨x,s⟩ m=>by
  let(v,d,rfl,rfl,_):=c x s m;show dy _ _
 let ne:∀b,Nw N0 (aw (vs.map NI) (ds.map Sl.fr) []) b->N0 b:=λb z=>by
  rcases z with z|z;show z;rw[g]at z;cases z
 show((aO.refl,λa h=>h,λa z=>z.elim,λa z=>z,λx e m=>?_,λx e m=>?_,λx e m=>?_,λx S e m=>?_,by rw[g];show J4),by rw[IF,IF,q.len],λw i m=>(by cases m),λi ds' e=>rfl)
 .cbv;let(v,d,rfl,e1,f):=c _ _ m;cases e1
  w_up;show(v,rfl,(oU q _ f).to λb Y Y z=>ne b z)
 let(v,d,_,e1,_):=c _ _ m;cases e1;let(v,d,_,e1,_):=c _ _ m;cases e1;let(v,d,_,e1,_):=c _ _ m;cases e1
def Ev(t:DE)(env:NA)(s:Sl):Prop:=∀R:Sl->NA->Prop,R s env->t env R
def EvA(t:DA)(env:NA)(ss:NA):Prop:=∀R:NA->NA->Prop,R ss env->t env R
def EvT(t:DT)(env:NA)(k:Bool):Prop:=∀R:Bool->NA->Prop,R k env->t env R
def EvO(t:DO)(env:NA)(k:Nk):Prop:=∀R:Nk->NA->Prop,R k env->t env R
def EvI(t:DI)(env:NA)(ds:Nz):Prop:=∀R:Nz->NA->Prop,R ds env->t env R
def E2(g:G2)(d e x:ab):Prop:=∀R:ab->Prop,R x->g d e R
def E1(g:G1)(d x:ab):Prop:=∀R:ab->Prop,R x->g d R
def EB(g:GB)(ds:Nz)(x:ab):Prop:=∀R:ab->Prop,R x->g ds R
def EL(g:ab->ab->(Nz->Prop)->Prop)(d e:ab)(x:Nz):Prop:=∀R:Nz->Prop,R x->g d e R
section
variable{env:NA}{s s1 s2 s':Sl}{d d1 d2 x e:ab}{ds es xs ys:Nz}{i:Nat}{m n:Int}{ta tb te:DE}{tl:DA}{ss:NA}{g:G2}{k:Bool}{DD:gx}
def Eg(h:(env[i]?).bind slD=NI d):Ev (Fb i) env (.vw i):=λY r=>(d,h,r)
def Iq:Ev (dC d) env (.fr d):=λY r=>r
def Eo(h:env[i]?=NI (.fr d)):Ev (zm i) env (.fr d):=λR r=>by unfold zm;rw[h];show r
def Gi(h1:Ev ta env s1)(h2:Ev tb env s2)(e1:aC env s1=NI d1)(e2:aC env s2=NI d2)(h:E2 g d1 d2 x):Ev (dOp g ta tb) env (.fr x):=λY r=>h1 _ (h2 _ (d1,d2,e1,e2,h _ r))
def Ej{g:ab->ab->(Nz->Prop)->Prop}(h1:Ev ta env s1)(h2:Ev tb env s2)(e1:aC env s1=NI d1)(e2:aC env s2=NI d2)(h:EL g d1 d2 xs):Ev (Ez g ta tb) env (.ow xs):=λY r=>h1 _ (h2 _ (d1,d2,e1,e2,h _ r))
def Gh{g:G1}(h1:Ev ta env s1)(e1:aC env s1=NI d1)(h:E1 g d1 x):Ev (dUn g ta) env (.fr x):=λY r=>h1 _ (d1,e1,h _ r)
def Gk{g:GB}(h1:EvA tl env ss)(e1:fv env ss=NI ds)(h:EB g ds x):Ev (dCB g tl) env (.fr x):=λY r=>h1 _ (ds,e1,h _ r)
def Eh(h1:EvA tl env ss)(e1:aN env ss=NI ds)(z:-ss<=sizeLine):Ev (Cl tl) env (.fr (.tuple ds)):=λY r=>h1 _ (ds,e1,z,r)
def Em(h1:EvA tl env ss)(e1:aN env ss=NI ds)(z:-ss<=sizeLine):Ev (Ff tl) env (.ow ds):=λY r=>h1 _ (ds,e1,z,r)
def BA(h1:Ev ta env s1)(h2:Ev tb env s2)(e1:aC env s1=NI (.tuple xs))(e2:aC env s2=NI (.tuple ys))(z:-xs+-ys<=sizeLine):Ev (x5 ta tb) env (.fr (.tuple (xs++ys))):=λY r=>h1 _ (h2 _ (xs,ys,e1,e2,z,r))
def Ei{l h:Nk}{a b:DO}(h1:Ev te env s)(h2:EvO a env l)(h3:EvO b env h)(e1:aC env s=NI (.list ds)):Ev (Fc te a b) env (.ow (kE ds l h)):=λY r=>h1 _ (h2 _ (h3 _ (ds,e1,r)))
def Gj:EvO kD env NJ:=λY r=>r
def By(h1:Ev te env s)(e1:aC env s=NI (.int n)):EvO (x3 te) env (NI n):=λY r=>h1 _ (n,e1,r)
def El:EvA Cn env []:=λY r=>r
def Bz(h1:Ev te env s)(h2:EvA tl env ss):EvA (vo te tl) env (s::ss):=λY r=>h1 _ (h2 _ r)
def Bx(h1:Ev te env s)(e1:aC env s=NI (.bool k)):EvT (oW te) env k:=λY r=>h1 _ (k,e1,r)
def Ek{t:DT}(h1:EvT t env k):EvT (Fe t) env (!k):=λY r=>h1 _ r
def Iu{f:Int->Int->Int}:E2 (gI f) (.int m) (.int n) (.int (f m n)):=λY r=>(m,n,rfl,rfl,r)
def Gr{C:Int->Int->Prop}{f:Int->Int->Int}(c:C m n):E2 (gIC C f) (.int m) (.int n) (.int (f m n)):=λY r=>(m,n,rfl,rfl,c,r)
def Iw{f:Int->Int->Bool}:E2 (gB f) (.int m) (.int n) (.bool (f m n)):=λY r=>(m,n,rfl,rfl,r)
def Gq(h1:shp d)(h2:shp e):E2 gEq d e (.bool (ed d e)):=λY r=>(h1,h2,r)
def Eu:E2 E8 d .none (.bool (ng d)):=λY r=>(rfl,r)
def BF:E2 xM d .none (.bool (!ng d)):=λY r=>(rfl,r)
def Go(h1:eP d=NI ds)(h2:atI ds n=NI x):E2 gIx d (.int n) x:=λY r=>(ds,n,x,h1,rfl,h2,r)
def Gp{ns:Np}(h1:eP e=NI ds)(h2:dS ds=NI ns):E2 gIn (.int n) e (.bool (decide (n∈ns))):=λY r=>(n,ds,ns,rfl,h1,h2,r)
def Ew:E1 E6 (.int n) (.int (-(n))):=λY r=>(n,rfl,r)
def Et(h:eP d=NI es):EB Ec [d] (.int (-es)):=λY r=>(d,es,rfl,h,r)
def Es{ns:Np}(h:dS es=NI ns):EB E5 [.list es] (.int ns.sum):=λY r=>(es,ns,rfl,h,r)
def Er(z:-xs+-ys<=sizeLine):EL E9 (.list xs) (.list ys) (xs++ys):=λY r=>(xs,ys,rfl,rfl,z,r)
def BD(h1:Ev te env s)(e1:aV env s=NI (.list ds)):EvI (qL te) env ds:=λY r=>h1 _ (ds,e1,r)
def BC(h1:EvA tl env [s])(e1:aC env s=NI (.int n))(z1:-4611686018427387904<=n)(z2:n<4611686018427387904):EvI (xY tl) env (gA 0 n.toNat):=λY r=>h1 _ (s,n,rfl,e1,z1,z2,r)
def BE{b:Bool}(h1:EvA tl env [s])(e1:aV env s=NI (sqD b ds)):EvI (x4 b tl) env (kA ds):=λY r=>h1 _ (s,ds,rfl,e1,r)
def A6{n:Nat}(h:decide (n<=100)=NK):n<=sizeLine:=IQ (of_decide_eq_true h) (IQ (!2) ae)
def ws_seq{t u:DS}(h:t { DD with nx:=u DD } env):Ex t u DD env:=h
def Cq(h1:Ev te env s)(z:i< -env)(e1:gP env s=NI s')(h:DD.nx (env.set i s')):zj i te DD env:=h1 _ (s',z,e1,h)
def Cr(h1:Ev te env s)(h:DD.rt s env):Ey te DD env:=h1 _ h
def Cs{c:DT}{t u:DS}(h1:EvT c env k)(h:if k=NK then t DD env else u DD env):Fg c t u DD env:=h1 _ h
def Ct{it:DI}{g:DG}{tb:DS}(h1:EvI it env ds)(h:FD ds g tb DD env):Fh it g tb DD env:=h1 _ h
def Cu{a:Sl}(h1:Ev te env s)(e1:aV env s=NI d)(e2:env[i]?=NI a)(e3:gR a=NI ds)(z:-ds<sizeLine)(b:cx a (ds++[d])=NI s')(h:DD.nx (env.set i s')):vn (Fi i te) DD env:=((ds,by rw[e2];show e3),h1 _ (d,a,ds,s',e1,e2,e3,z,b,h))
def zN{sp:DSp}{q:Nat}{b:Sl}{l a ds2:Nz}{R:Sl->NA->Prop}(h1:EvA tl env ss)(a1:ss[q]?=NI (.vw i))(a2:env[i]?=NI b)(a3:gR b=NI l)(c:aN env (ss.take q)=NI a)(d:aN env (ss.drop (q+1))=NI ds2)
  (h : sp (a.map .fr++.io l::ds2.map .fr) (dK (λr e=>∃l' s',e[q]?=NI (.io l')/\cx b l'=NI s'/\R r (env.set i s')) ⟨⟩)):mH sp q tl env R:=h1 _ (i,b,l,a,ds2,a1,a2,a3,c,d,h)
def Cw{sp:DSp}{R:Sl->NA->Prop}(h1:EvA tl env ss)(e1:aN env ss=NI ds)(h:sp (ds.map .fr) (dK (λr Y=>R r env) ⟨⟩)):vp sp tl env R:=h1 _ (ds,e1,h)
def Cv{it:DI}{ix:M5}{g:DG}{tt:DT}{R:Sl->NA->Prop}(h1:EvI it env ds)(h:CD ds ix g tt te env (dK R ⟨⟩)):oY it ix g tt te env R:=h1 _ h
def w_pop{a:Sl}{R:Sl->NA->Prop}(a1:env[i]?=NI a)(a2:gR a=NI ds)(a3:ds.getLast? = NI d)(b:cx a ds.dropLast=NI s')(h:R (.fr d) (env.set i s')):Fd i env R:=(a,ds,d,s',a1,a2,a3,b,h)
def wg_name{R:NA->Prop}(z:i< -env)(h:R (env.set i (.fr d))):qG i d env R:=(z,h)
def wk_K{R:Sl->NA->Prop}{w:Wn R}(h:R s env):dK R w s env:=h
def wx_set(h:te env λs a=>∃s',i< -a/\gP a s=NI s'/\DD.nx (a.set i s')):zj i te DD env:=h
def wx_ret(h:te env DD.rt):Ey te DD env:=h
def wx_drop(h:te env λY a=>DD.nx a):vn te DD env:=h
end
section
variable{prog:q3}{w:zb}{A:Around}{R:Q2->ba->Prop}{I:ap}{fp wr:NE}{P:Nat->as->Prop}{St:Nat->bd->Prop}
def vO(ns:Np)(d x:Int):Prop:=ns=[]/\x=d\/x∈ns/\∀y∈ns,y<=x
def k8{ns:Np}{j:Nat}(h:j< -ns):ns.take (j+1)=ns.take j++[ns.getD j 0]:=by rw[JT,IK h,IP,IK h];rfl
def uF{ns:Np}(W:Walks prog w A.in1 I fp wr ns.length P St)(hP:∀i v,P i v->∃t,v=eh (ns.getD i 0) t)(S:ap)(H:S ∉ fp)(d:Int)(Q:Tok) :
  ∀(k j:Nat) (s:ba) (J:NC) (c:Nat),ns.length-j=k->j<=ns.length->St j s.heap->(J=[]/\j=0\/∃x t,J=[eh x t,eh x t]/\x∈ns.take j/\∀y∈ns.take j,y<=x) ->
  s.heap.get? S=some { cls:=.type "list",dict:=none,data:=.seq J.toArray c,slots:=#[] } ->
  (∀x t h' tk,vO ns d x->(∀b o,b ∉ wr->b≠S->s.heap.get? b=some o->h'.get? b=some o)->R (.ok (.ret (.int x t))) { s with heap:=h',toks:=tk }) ->
  KM (qb prog w) A (.builtin "max.loop" ([.ref I,.none,.ref S],[(("default" : bx),.int d Q)])) R s:=by
 let K:S ∉ wr:=λh=>H (W.sub _ h);let g:(toString "max" ++ toString ".loop" : String) = "max.loop" := by decide
 intro k
 induction k with
 |zero =>
  intro j s J c hk hj E C L M;let N:j=-ns:=!0
  show K8 F.entry_max_loop ?_;rw[Around.under_plainId F.plain_max_loop _];show kw _ A.in1 (Zs (.ref S) >>= _) _ _ s;show jj (Ky L rfl ?_);show kw _ A.in1 (tryCatch (Qo (.ref I)) _ >>= _) _ _ s;show jj (Za (W.done s _ _ (N▸E) λh' tk l=>?_));let m:=l S _ K L;rcases C with⟨rfl,Y⟩|⟨x,t,rfl,r,n⟩
  show jj (KO (ke (M d Q h' tk (.inl (LK.mp (!0),rfl)) λb o f a e=>l b o f e)));show kw _ A.in1 (Zr S (λ_=>#[]) >>= _) _ _ _;show jj ?_;show Qk m rfl (jj (K9 (ke ?_)));rw[N,JI]at r n;show M x t _ tk (.inr (r,n)) λb o f a e=>(Jp _ _ (Ne.symm a)).trans (l b o f e)
 |succ k Z =>
  intro j s J c hk hj E C L M;let B:j< -ns:=!0
  show K8 F.entry_max_loop ?_;rw[Around.under_plainId F.plain_max_loop _];show kw _ A.in1 (Zs (.ref S) >>= _) _ _ s;show jj (Ky L rfl ?_);show kw _ A.in1 (tryCatch (Qo (.ref I)) _ >>= _) _ _ s;show jj (Za (W.item j s _ _ B E λv h' tk T D l=>?_));let m:=l S _ K L;let(u,rfl):=hP _ _ T;let O:=k8 B;generalize ns.getD j 0=y at *;let go:∀(h2:bd) (c2:Nat),(∀z∈ns.take j,z<=y)->(∀b o,b≠S->h'.get? b=NI o->h2.get? b=NI o)->h2.get? S=NI { cls:=.type "list",dict:=NJ,data:=.seq #[.int y u,.int y u] c2,slots:=#[] } ->
    KM (qb prog w) A (.builtin "max.loop" ([.ref I,.none,.ref S],[(("default" : bx),.int d Q)])) R { s with heap:=h2,toks:=tk }:=λh2 c2 hy k2 U =>
   Z (j+1) _ [.int y u,.int y u] c2 (!0) B (W.frame _ _ _ D λb V o e=>k2 b o (λh:b=S=>H (by rw[<-h];show V)) e) (.inr (y,u,rfl,by rw[O];simp,λz hz=>by
    rw[O]at hz;rcases II.mp hz with hz|hz;show hy z hz;rw[IG.mp hz];show Jo _)) U
    λx t G p X q=>M x t G p X λb o f a e=>q b o f a (k2 b o a (l b o f e))
  rcases C with⟨rfl,Y⟩|⟨x,t,rfl,r,n⟩
  show kw _ A.in1 (Zr S (λ_=>#[.int y u,.int y u]) >>= _) _ _ _;show jj ?_;show Qk m rfl ?_;rw[g];show ke (KQ F.plain_max_loop _,go _ _ (λz hz=>by rw[Y]at hz;simp at hz) (λb o a e=>(Jp _ _ (Ne.symm a)).trans e) (Jx _ m rfl));show kw _ A.in1 (tryCatch (KI [.int y u,.int y u] (richCompare .Gt (.int y u) (.int x t) >>= _)) _ >>= _) _ _ _;show jj (Za (zp (jj (show kw _ _ (q4 .Gt (.int y u) (.int x t)) _ _ _ from gt_int ?_))));show jj (zp (KB ?_));show jj (K9 (ke ?_));cases C:decide (x<y) with
  |true =>
   let C:=of_decide_eq_true C;simp only[if_true];show jj ?_;show Qk m rfl (jj (K9 ?_));rw[g];show ke (KQ F.plain_max_loop _,go _ _ (λz hz=>by let:=n z hz;lia) (λb o a e=>(Jp _ _ (Ne.symm a)).trans e) (Jx _ m rfl))
  |false =>
   let C:=of_decide_eq_false C;simp only[Jj,if_false];show jj (K9 ?_);rw[g];show ke (KQ F.plain_max_loop _,Z (j+1) _ [.int x t,.int x t] c (!0) B D (.inr (x,t,rfl,by rw[O];simp[r],λz hz=>by
    rw[O]at hz;rcases II.mp hz with hz|hz;show n z hz;rw[IG.mp hz];lia)) m λx t G p X q=>M x t G p X λb o f a e=>q b o f a (l b o f e))
def vI(a v:as):argsOk "max" ([a],[(("default" : bx),v)]):=by unfold argsOk;kernel_rfl
def vC{E:as->ba->Prop}{s:ba}{x:as}{ns:Np}{d:Int}{f:Tok}{Q:as->ba->Prop}
  (h : kw (qb prog w) A.in1 (ZC x) (λit a=>∃I fp wr P St,it=.ref I/\Walks prog w A.in1 I fp wr ns.length P St/\St 0 a.heap/\(∀b∈fp,b<a.heap.objs.size)/\(∀i v,P i v->∃t,v=eh (ns.getD i 0) t) /\
   ∀x t h' tk,vO ns d x->(∀b o,b ∉ wr->a.heap.get? b=some o->h'.get? b=some o)->Q (.int x t) { a with heap:=h',toks:=tk }) E s) :
  kw (qb prog w) A (call (.builtin "max") [x] [(("default" : bx),.int d f)]) Q E s:=by
 let c:(toString "max" ++ toString ".loop" : String) = "max.loop" := by decide
 show sf F.kind_max F.plain_max F.entry_max (vI _ _) ?_;show kw _ A.in1 (sj "max" ["key","default"] 0 ([],[(("default" : bx),.int d f)]) >>= _) _ _ s;show jj (wpAny_of_eq (show sj "max" ["key","default"] 0 ([],[(("default" : bx),.int d f)])=pure [NJ,NI (.int d f)] from rfl) ?_);show jj (ke ?_);show jj (z3 h (λit a g=>?_) λY Y e=>e);let(I,fp,wr,P,St,rfl,W,j,k,p,q):=g;show jj (zh ?_);let l:(~~~a) ∉ fp:=λm=>JL _ (k _ m);rw[c];show ke (KQ F.plain_max_loop _,uF W p (~~~a) l d f _ 0 _ [] 0 rfl (Jb _) (W.frame _ _ _ j λb Y o e=>IH _ e) (.inl (rfl,rfl)) (IW _ rfl) λx t h' tk m hk=>?_);show q x t h' tk m λb o n e=>hk b o n (Jd (IX e)) (IH _ e)
end
section
variable{X:Cx}{K:ca}{e:bb}{tl:DA}{p pos kpos p3:Pos}
def Fs(K:ca)(d:Int)(t:TA):TE:=λσ H Q=>t σ H λxs H1=>∃(p:ap) (ns:Np),xs=[.ref p]/\SqL K H1 p (ns.map V.int)/\∀m:Int,vO ns d m->Q (.int m) H1
def AK{t:TA}{d:Int}{j}(hK:X.K=K)(hc:X.calm=true)(hg:Gl X "max")(k:X.mg "max" = none)(C:PA X [e] t)
  (N:kq [e] X.env=[(false,eval e X.env)]:=by rfl)
  (c:ze pos (kq [e] X.env)=(false,eval e X.env)::ze pos (kq [] X.env):=by rfl):PE X (.Call (.Name "max" p) [e] [(some "default",.Constant (.int d) j p3,kpos)] pos) (Fs K d t):=by
 subst hK;intro pins s σ H Q I h;show KZ (fR I hg k PyProof.Rows.boot_max ?_ (!2) (!2));show callWith_kw (thn (C pos pins s σ H _ I h) λus s1 l=>?_) c (by rw[c];rfl) rfl rfl;let(vs,H1,D,r,q):=l;show thn ((AB lF Dh:PK X [(NI "default",.Constant (.int d) j p3,kpos)] _) pos pins s1 σ H1 (λB m=>B=[.int d]/\m=H1) D (rfl,rfl)) λws s2 n=>?_
 cbv;let(B,m,y,E,F,G):=n;subst F G;let(u,rfl,(J,rfl)):=fw E;let(q0,ns,rfl,hs,q):=q;let(u,rfl,L):=fw r
 w_up;cases (show u=da q0 from L);let(a,rv,M,_):=y.list hs;let hl:=M.isList;let z:q0<(~~~s2):=by let(_,e,_):=hl;show IX e
 let hsz:a.toArray.size=-ns:=by let:=-rv;simp at this ⊢;lia
 let W:=(Walks.list (prog:=X.prog) (w:=X.w) (A:=X.A.in1) (y.ok.hd hc) (~~~s2) q0 (Jd z) a.toArray)
 rw[hsz]at W;show kw _ _ (call (.builtin "max") [.ref q0] [(("default" : bx),.int d J)]) _ _ _;show vC (ns:=ns) (Qb hl ?_);show((~~~s2),_,_,_,_,rfl,W,((_,IW _ rfl,rfl,rfl),hl.push _),λb f=>?_,λi v g=>?_,λx t h' tk k hk=>?_);rcases IR.mp f with rfl|f;show IX (IW _ rfl);obtain rfl:=IG.mp f;show IX (IH _ (id hl).choose_spec.1)
 .let g:a[i]?=NI v:=by simpa using g
  let hi:i< -a:=(IN.mp g).1;let hi2:i< -ns:=by simp at hsz;lia
  cbv;let(u,e1,(t,e2)):=rv.get (i:=i) (x:=.int ns[i]) (by rw[Jt,IK hi2];rfl);rw[g]at e1;cases e1
  w_up;show(t,?_);rw[e2,IP,IK hi2];rfl
 show(.int x,m,y.kept λb o e=>hk b o (λf=>absurd (IX e) ((IG.mp f)▸JL _)) (IH _ e),(_,rfl),q _ k)
def BQ(d:Int)(t:DA):DE:=λenv R=>t env λss a=>∃s es ns,ss=[s]/\aC a s=NI (.list es)/\dS es=NI ns/\∀m:Int,vO ns d m->R (.fr (.int m)) a
def C3{d:Int}{j}(hK:X.K=K)(hc:X.calm=true)(hg:Gl X "max")(i:X.mg "max" = none)(k:PA X [e] (upA K tl))
  (l:kq [e] X.env=[(false,eval e X.env)]:=by rfl)
  (c:ze pos (kq [e] X.env)=(false,eval e X.env)::ze pos (kq [] X.env):=by rfl):PE X (.Call (.Name "max" p) [e] [(some "default",.Constant (.int d) j p3,kpos)] pos) (up K (BQ d tl)) :=
 (AK (K:=K) hK hc hg i k l c).imp λσ H Q h=>by
 let(M,P,H0,σ0,env,ts,R,f,ht,n):=h;show(M,P,H0,σ0,env,ts,_,f,ht,λss g vs H1 h1 hl b=>?_)
 cbv;let(s,es,ns,rfl,e1,e2,o):=h1;let(v,rfl):=sB hl;let(a,us,rfl,sq,q):=(b.view (v:=v) (!1) e1).list
 w_up;rw[cD e2]at q;rw[q.ints]at sq;show(a,ns,rfl,sq,λm h1=>n _ _ _ _ (o m h1) (b.drop.addFr (.int m)))
end
def vm(i:Nat)(t:DE):DE:=λenv R=>∃S d,env[i]?=NI (.tr S d)/\t ((env.map vT).set i (.fr d)) λs a=>∃m:Int,aC a s=NI (.int m)/\R (.fr (.int m)) env
def An(i:Nat){X:Cx}{K:ca}{e:bb}{t:DE}(h:PE X e (up K t)):PE X e (up K (vm i t)):=h.imp λσ H Q h=>by
 let(M,P,H0,σ0,env,ts,R,g,(S,d,e,ht),p):=h;let k:=g.frzT e;let q:i< -env:=(IN.mp e).1;let l:∀(x:Nx) (s:Sl),(x,s)∈aw σ ((env.map vT).set i (.fr d)) []->(∃s',s=vT s')/\∀d',s=.fr d'->(x,Sl.fr d')∈aw σ (env.set i (.fr d)) ts:=λx s m=>by
  let m:(x,s)∈σ.zip ((env.map vT).set i (.fr d)):=by simpa[aw] using m
  let(j,hj,n):=J2 m;rw[JZ,Kh,IF]at hj;rw[J3]at n;let(e1,e2):=ir n;rw[I7]at e2;by_cases c:i=j;rw[M0 c]at e2;show((.fr d,e2.symm),λd' hd=>IJ _ ?_);rw[L8];show(j,by rw[JZ,Kh];lia,?_);rw[J3,I7,M0 c,e1,e2,hd];rw[M1 c,Jn]at e2;show((_,e2.symm),λd' hd=>IJ _ ?_);rw[L8];show(j,by rw[JZ,Kh];lia,?_);rw[J3,I7,M1 c,e1,Bm (e2.trans hd)]
 let no:∀a,a ∉ oas (aw σ ((env.map vT).set i (.fr d)) []):=λa z=>by
  let((x,s),r,u):=aT.mp z;let((s',rfl),_):=l x s r;show xC u
 show(N0,N0,H,σ,_,[],_,((aO.refl,λa z=>z,λa z=>z.elim,λa z=>z.elim,λx d m=>?_,λx ds m=>?_,λx ds m=>?_,λx S d m=>?_,?_),?_,(λv j m=>by cases m),λj ds' m=>?_),ht,λs o v H1 h1 f=>?_);let(v,e1,dn):=k.e.fr x d ((l x _ m).2 d rfl);show(v,e1,dn.to λb Y Y z=>z.elim (λz=>z.elim) λz=>absurd z (no b));let((s',e1),_):=l _ _ m;cases s' <;> cases e1
 let((s',e1),_):=l _ _ m;cases s' <;> cases e1
 let((s',e1),_):=l _ _ m;cases s' <;> cases e1
 rw[List.eq_nil_iff_forall_not_mem.mpr no];show J4;rw[Kh,IF];show g.len;let m2:=J9 m;rcases List.mem_or_eq_of_mem_set m2 with h|h;let(s,_,e1):=IZ.mp h;cases s <;> cases e1
 cases h;let(m,e1,w):=h1;let ev:=(f.view (v:=v) (s:=s) (!1) e1).int;subst ev;show p _ _ _ _ w ((g.same f.e.keep.none).addFr (.int m))
section
variable{X:Cx}{K:ca}
def Gz(i:Nat)(u:DS):DS:=λDD env=>∃S d,env[i]?=NI (.tr S d)/\u DD (env.set i (.fr d))
def tN(i:Nat){ss:Nn}{u:DS}(h:PSs X ss (upS K u)):PSs X ss (upS K (Gz i u)):=h.imp λD σ H h=>by
 let(M,P,H0,σ0,env,ts,DD,nv,a,(S,d,e,b),ok):=h;show(M,P,H0,σ0,_,ts,DD,nv,a.frzT e,b,ok)
end
section
variable{X:Cx}{K:ca}
def GC(i:Nat)(tl:DA):DE:=λenv R=>(∃ds,(env[i]?).bind gR=NI ds)/\tl env λss a=>∃l b ds s',ss=[.ow l]/\a[i]?=NI b/\gR b=NI ds/\ds.length+-l<=sizeLine/\cx b (ds++l)=NI s'/\R (.fr .none) (a.set i s')
def FO(i:Nat){y:bx}{e1:bb}{tl:DA}{apos cpos npos:Pos}(hK:X.K=K)(hN:X.N[i]?=some y)(u:PA X [e1] (upA K tl))
  (hv:Vis X.env.scope y:=by walk_at"v0") (hd:(y==("__debug__" : bx))=false:=by decide)
  (p:(y==("__classdict__" : bx))=false:=by decide)
  (r:kq [e1] X.env=(false,eval e1 X.env)::kq [] X.env:=by rfl)
  (f:z5 (.Name y npos) "extend" X.env (eval (.Name y npos) X.env)=eval (.Name y npos) X.env:=by rfl)
  (j:((ze cpos (kq [e1] X.env)).all (λx=>!x.1)&&(KU cpos (KA [] X.env)).all (λx=>x.1.isSome)&&decide ([e1].length+([]:NG).length+(if ([]:NG).isEmpty then 0 else 1)<30))=true:=by rfl)
  (g:(apos.endLine==cpos.line)=true:=by rfl) (d:(ze cpos (kq [] X.env)).any (·.1)=false:=by rfl) :
  PE X (.Call (.Attribute (.Name y npos) "extend" apos) [e1] [] cpos) (up K (GC i tl)) :=
 (kBm (K:=K) hK gk PySem.F.slot_list_extend PySem.F.type_list_extend uC (bu hN hv hd p) u f j g r d).imp λσ H Q h=>by
 cbv;let(M,P,H0,σ0,env,ts,R,k,((v,w),ht),A):=h;let(T,B,C):=kJ w;let(a,vs,s,D,_):=k.mine B C
 w_up;show(.ref a,s,.inl (rfl,vs,SqL.of D),M,P,H0,σ0,env,ts,_,k,ht,λss m E H1 h1 hl c=>?_)
 cbv;let(l,U,ds,s',rfl,z2,G,hz,es,I):=h1;let(v1,rfl):=sB hl;let(V,us,n,t,q):=c.drop.mine z2 G;rw[s]at n;cases n;let J:=c.e;let(b,ws,L,O,S,_):=J.ow (NI v1) l (by rw[ar];show IE _ (by simp[tmp]));cases L
 w_up;let o:DNs K (Nw M (aw σ m ts)) H1 ws l:=S.to λb Y Y z=>by rw[ar];show eM z
 show(a,b,us,ws,rfl,rfl,t,O,by rw[q.len,o.len];show hz,A _ _ _ _ I ((c.drop.mut (ds:=ds) z2 es s (q.app o)).addFr .non))
end
def FnI(K:ca)(x:bx)(st:Stmt):Prop:=∃f fd,cb K ky x=NI (NI (.ref f))/\Fun K x x st f fd
def FnL(K:ca)(x:bx)(st:Stmt):Prop:=∃f fd,cb K ky x=NI (NI (.ref f))/\Fun K x x st f fd/\∀base:bd,K.In base->sx K base x fd
structure BnI(K:ca):Prop where
 len:cb K ky "len" = some none
 range:cb K ky "range" = some none
 min:cb K ky "min" = some none
 max:cb K ky "max" = some none
 enumerate:cb K ky "enumerate" = some none
 zip:cb K ky "zip" = some none
 all:cb K ky "all" = some none
 any:cb K ky "any" = some none
 isinstance:cb K ky "isinstance" = some none
 bool:cb K ky "bool" = some none
 int:cb K ky "int" = some none
 list:cb K ky "list" = some none
 tuple:cb K ky "tuple" = some none
 sorted:cb K ky "sorted" = some none
 str:cb K ky "str" = some none
 sum:cb K ky "sum" = some none
 abs:cb K ky "abs" = some none
 reversed:cb K ky "reversed" = some none
 dict:cb K ky "dict" = some none
section
variable{P:q3}{w:zb}{K:ca}{mg:bx->Nm}{base h:bd}{x:bx}{st:Stmt}{f:ap}{oc:as}{od an:No}{osl:M6}{kV doc pm cdv ct:as}{k:Nat}{ps:ND}{sp:DSp}
def BnI.bn(X:K.In h)(G:h.Ns ky mg)(z:BnI K):Bn mg :=
 let m:∀{y:bx},cb K ky y=NI NJ->mg y=NJ:=λe=>PySem.W.mg_none_of X G e
 (m z.len,m z.range,m z.min,m z.max,m z.enumerate,m z.zip,m z.all,m z.any,m z.isinstance,m z.bool,m z.int,m z.list,m z.tuple,m z.sorted,m z.str,m z.sum,m z.abs,m z.reversed,m z.dict)
def fnI(a:cb K ky x=NI (NI (.ref f)))(l:K.lookup f=NI (oc,od,.func (fy x x (cT st) (bI st) (ac st) .none kV doc pm an cdv ct),osl))(c:ip K cdv x=NK)(k:eE K (.ref f)=NK):FnI K x st:=(f,_,a,uW l c k)
def fnL{b T:ap}{d:No}{e:M6}{vs:Nq}(hx:x∈d8)(a:cb K ky x=NI (NI (.ref f)))(l:K.lookup f=NI (oc,od,.func (fy x x (cT st) (bI st) (ac st) .none kV doc pm an cdv ct),osl))(c:ip K cdv x=NK)(k:eE K (.ref f)=NK)
  (hc:cdv=.ref b) (g:K.lookup b=NI (.type "code",d,.fields vs,e)) (h:vQ vs b T):FnL K x st:=(f,_,a,uW l c k,λbase i=>DQ hx a l hc g h i)
def dF(X:K.In h)(G:h.Ns ky mg)(g:FnI K x st)(b:∀{f:ap}{fd:kN},Fun K x x st f fd->cV K fd ps [])(ok:∀{f:ap}{fd:kN},Fun K x x st f fd->a9 P w K mg base CX0 k f fd ps (spD K sp)):Cal P w K mg base x k (spD K sp):=by let(f,fd,a,F):=g;show Hi F (en X G a) (b F) (ok F)
def GH(X:K.In h)(G:h.Ns ky mg)(c:K.In base)(g:FnL K x st)(b:∀{f:ap}{fd:kN},Fun K x x st f fd->cV K fd ps [])(ok:∀{f:ap}{fd:kN},Fun K x x st f fd->sx K base x fd->a9 P w K mg base CX0 k f fd ps (spD K sp)):Cal P w K mg base x k (spD K sp):=by let(f,fd,a,F,L):=g;show Hi F (en X G a) (b F) (ok F (L base c))
def H9{l:py}{fa:ap}(X:K.In h)(G:h.Ns ky mg)(b:mg "law" = NI (.ref fa))(g:FnI K "law" st)(c:∀{fd:kN},Fun K "law" "law" st fa fd->∀(s:ba) (v:as),QJ s fd ([v],[]) [("_law_script",v)])
  (ok:∀{fd:kN}{base:bd},Fun K "law" "law" st fa fd->K.In base->a9 l.prog w K mg base CX0 k fa fd ["_law_script"] (spD K sp)):∃fd:kN,(∀(s:ba) (v:as),QJ s fd ([v],[]) [("_law_script",v)])/\∀base:bd,K.In base->base.Ns ky mg->a9 l.prog w K mg base CX0 k fa fd ["_law_script"] (spD K sp):=by
 cbv;let(f,fd,a,F):=g;let e:=b.symm.trans (en X G a);cases e
 w_up;show(fd,c F,λbase d Y=>ok F d)
end
section
variable{env:NA}{s:Sl}{d:ab}{i:Nat}{ta tb te:DE}{tl:DA}{g:G2}{k:Bool}{S:NE}{ds:Nz}{W:M3}{r:Np}{w:M9}{R:Sl->NA->Prop}{RT:Bool->NA->Prop}
def zJ(h1:Ev te env s)(e1:aC env s=NI (.bool k))(h:RT k env):oW te env RT:=h1 _ (k,e1,h)
def v6(h1:Ev te env s)(e1:aC env s=NI d)(e2:yo d=NI k)(h:RT k env):qK te env RT:=h1 _ (d,k,e1,e2,h)
def uZ(a:env[i]?=NI (.tr S (.list ds)))(e1:ds=ec wD (W++[w])):EvT (kC i) env (!w.isEmpty):=λY h=>(S,W,w,a.trans (congrArg (λy=>NI (Sl.tr S (dk y))) e1),h)
def xQ(a:env[i]?=NI (.tr S (.list ds)))(e1:ds=ec wD (W++[r::w])):Ev (qM i) env (.fr (.list (r.map .int))):=λY h=>(S,W,r,w,a.trans (congrArg (λy=>NI (Sl.tr S (dk y))) e1),h)
def w_popL(a:env[i]?=NI (.tr S (.list ds)))(e1:ds=ec wD (W++[w]))(h:∀S',R .un (env.set i (.tr S' (fu W)))):xZ i env R:=(S,W,w,a.trans (congrArg (λy=>NI (Sl.tr S (dk y))) e1),h)
def zL{c:Bool}{A d B e:Prop}(a:d->A)(b:e->B)(h:if c=NK then d else e):if c=NK then A else B:=sH (p:=c=NK) (by cases c <;> rfl) a b h
def zK{c:Bool}{A d B e:Prop}(a:d->A)(b:e->B)(h:if c=NL then d else e):if (!c)=NK then A else B:=sH (p:=c=NL) (by cases c <;> rfl) a b h
def Hz(h1:Ev (dOp g ta tb) env s)(h:R s env):dOp g ta tb env R:=h1 _ h
def Fp(h1:Ev (Cl tl) env s)(h:R s env):Cl tl env R:=h1 _ h
def Fq(h1:Ev (zm i) env s)(h:R s env):zm i env R:=h1 _ h
end
def DM:Sl->Sl
 |.fr d=>.fr d
 |.ow ds=>.fr (.list ds)
 |.tr _ d=>.fr d
 |_=>.un
section
variable{prog:q3}{w:zb}{A:Around}{E:as->ba->Prop}{s:ba}{d:ap}{o:Obj}{es:Array DictEntry}{ep:Nat}
def q9(l:A.handled=NJ)(I d:ap)(j:d≠I)(es:Array DictEntry)(ep:Nat) :
  Walks prog w A I [I,d] [I] es.size (λi v=>∃h:i<es.size,v=es[i].key) (λi h=>h.IsKeyIter I d i es.size ep/\∃od,h.get? d=NI od/\od.data=.dict es ep) where
 sub:=λb a=>by simp at a;simp[a]
 frame:=λY Y Y st hk=>(st.1.at λo e=>hk I (!1) o e,let ⟨od,h1,h2⟩:=st.2;(od,hk d (!1) od h1,h2))
 item:=λi s Q E hi st c=>by
  let(st,od,h1,h2):=st;show xi st h1 h2 hi λh' f g=>?_;show c _ h' s.toks (hi,rfl) (f,od,(g.2 d j).trans h1,h2) λb o a e=>(g.2 b (λh=>a (by simp[h]))).trans e
 done:=λs Q E st c=>by
  let(st,od,h1,h2):=st;show xR l st h1 h2 (IS _) λh' k=>c h' s.toks λb o a e=>k b o (λh=>a (by simp[h])) e
 self:=λY Y Y Y st c=>wpAny_pyIter_keyiter st.1 c
def xB{Q:Bool->ba->Prop}(g:(d==cf)=NL)(ho:s.heap.get? d=NI o)(hc:o.ExactDict)(e:o.data=.dict es ep)(f:es.size<=2 ^ 24)
  (h : Q NL s):kw (qb prog w) A (u2 (.ref d)) Q E s:=by
 unfold u2;show jj (K0 (_,ho,hc.1) F.slot_dict_len.lookup ?_);generalize c:("dict.__len__" : String)=id0
 wp_delta
 rw[show splitId id0=NI ("dict","__len__") from by subst c;decide +kernel];subst c;show jj (KT (T := "dict") (b:=NK) (_,ho,hc.1) (by rw[isSubtype_type];kernel_rfl) ?_);show Q7 (λa=>absurd a (!2)) (λY=>?_);show Q7 (λY=>?_) (λa=>absurd (!3) a);show jj (Zz (T := "dict") (_,ho,hc.1) ?_);show ke h
def oR{R:Q2->ba->Prop}(J:A.handled=none)(x:(d==cf)=false)(ho:s.heap.get? d=some o)(hc:o.ExactDict)(c:o.data=.dict es ep)(y:es.size<=2 ^ 24)(S:ap)(res:as)(q:Nat)(u:s.heap.get? S=some { cls:=.type "list",data:=.seq #[] q })
  (K:∀h' tk j c',(∀b o,b≠S->s.heap.get? b=some o->h'.get? b=some o)->h'.get? S=some { cls:=.type "list",dict:=none,data:=.seq j c',slots:=#[] } ->
   ItemsOf (λi v=>∃h:i<es.size,v=es[i].key) j es.size->R (.ok (.ret res)) { s with heap:=h',toks:=tk }) :
  kw (qb prog w) A.in1 (mu (.ref S) (.ref d) res)
   (λfin s'=>match fin with|.done f=>R (.ok f) s'|.again c'=>c'.quiet=true/\KM (qb prog w) A c' R s') (λe s'=>R (.error e) s') s:=by
 let p:S≠d:=λe=>by
  rw[e,ho]at u;injection u with u;rw[u]at c;cases c
 let z:S<(~~~s):=IX u;let r:S≠(~~~s):=Jd z;let E:d≠(~~~s):=Jd (IX ho);let G:S ∉ [(~~~s),d]:=λB=>by
  simp at B;rcases B with e|e;show r e;show p e
 let W:=(q9 (prog:=prog) (w:=w) (A:=A.in1) J (~~~s) d E es ep).toS;let key:∀(h:bd) (l tk:Nat),h.IsKeyIter (~~~s) d 0 es.size ep->h.get? d=NI o->(∀b o,b≠S->s.heap.get? b=NI o->h.get? b=NI o) ->
   h.get? S=NI { cls:=.type "list",data:=.seq #[] l }->KM (qb prog w) A (.builtin "list.extend.loop" ([.ref S,.ref (~~~s),res],[])) R { s with heap:=h,toks:=tk }:=by intro h l tk H hd hk a;show codeAny_extend_loopS W (by rw[z0];lia) S G res es.size 0 _ #[] l rfl (Jb _) (H,o,hd,c) a (ItemsOf.nil _) λs' j c' B I C=>?_;rw[Moved.eq_with B];show K s'.heap s'.toks j c' (λb o D e=>B.heap b o (λm=>?_) (hk b o D e)) I C;rcases IR.mp m with e'|m;show D e';show absurd (IX e) (by rw[IG.mp m];show JL _)
 unfold mu;show jj (Zz (T := "dict") (_,ho,hc.1) ?_);let h1:wi (.ref S) (.ref d)=NL:=by simp[wi,p]
 let h2:(nc "dict" == nc "list")=NL:=!2
 let h3:(nc "dict" == nc "tuple")=NL:=!2
 simp only[h1,h2,h3,MR,Jj,if_false];show jj (uP x ho hc c ?_);let a:=IH { cls:=.type "dict_keyiterator",data:=.fields #[.ref d,.int 0 0,.int es.size 0,.int ep 0] } u;let g:=IH { cls:=.type "dict_keyiterator",data:=.fields #[.ref d,.int 0 0,.int es.size 0,.int ep 0] } ho;let k:(s.heap.push { cls:=.type "dict_keyiterator",data:=.fields #[.ref d,.int 0 0,.int es.size 0,.int ep 0] }).IsKeyIter (~~~s) d 0 es.size ep:=(_,IW _ rfl,rfl,rfl)
 show jj (zp (xB x g hc c y ?_));show Q7 (λY=>?_) (λY=>ke (KQ F.plain_extend_loop _,key _ q _ k g (λb o Y e=>IH _ e) a));show jj (KO ?_);show jj ?_;show kw _ _ (Zr S (·.push .none) >>= λY=>Zr S (·.pop)) _ _ _;show jj (Qk a rfl ?_);let n:=Jx (ew (·.push eC)) a rfl;show Qk (hz:=by seq_fits) n rfl ?_;let t:=Jx (ew (·.pop)) n rfl;show ke (KQ F.plain_extend_loop _,key _ _ _ (k.at λo e=>?_) ?_ (λb o D e=>?_) t);show(Jp _ _ r).trans ((Jp _ _ r).trans e);show(Jp _ _ p).trans ((Jp _ _ p).trans g);show(Jp _ _ (Ne.symm D)).trans ((Jp _ _ (Ne.symm D)).trans (IH _ e))
def mK{Q:NC->ba->Prop}(n:A.handled=none)(m:(d==cf)=false)(ho:s.heap.get? d=some o)(hc:o.ExactDict)(c:o.data=.dict es ep)(f:es.size<=2 ^ 24)
  (p:∀h' tk g,(∀b o,s.heap.get? b=some o->h'.get? b=some o)->s.heap.objs.size<=h'.objs.size->ItemsOf (λi v=>∃h:i<es.size,v=es[i].key) g es.size->Q g.toList { s with heap:=h',toks:=tk }) :
  kw (qb prog w) A (collect (.ref d)) Q E s:=by
 let key:∀R:Q2->ba->Prop,(∀h' tk a c',(∀b o,b≠(~~~s)->(s.heap.push { cls:=.type "list",data:=.seq ([]:NC).toArray }).get? b=NI o->h'.get? b=NI o)->h'.get? (~~~s)=NI { cls:=.type "list",dict:=NJ,data:=.seq a c',slots:=#[] }->ItemsOf (λi v=>∃h:i<es.size,v=es[i].key) a es.size->R (.ok (.ret (.ref (~~~s)))) { s with heap:=h',toks:=tk }) ->
   KM (qb prog w) A (.builtin "list.__iadd__" ([.ref (~~~s),.ref d],[])) R { s with heap:=s.heap.push { cls:=.type "list",data:=.seq ([]:NC).toArray } }:=λR q=>by
  show K8 F.entry_list_iadd ?_;rw[Around.under_plainId F.plain_list_iadd _];show kw _ A.in1 (mu (.ref (~~~s)) (.ref d) (.ref (~~~s))) _ _ _;show oR (R:=R) (A:=A) (s:={ s with heap:=s.heap.push { cls:=.type "list",data:=.seq ([]:NC).toArray } }) n m (IH _ ho) hc c f (~~~s) _ 0 (IW _ rfl) q
 unfold collect;show jj (wpAny_runValue (K8 F.entry_proto_collect ?_));rw[Around.under_plainId F.plain_proto_collect _];show kw _ A.in1 (newList [] >>= λl=>again (.builtin "list.__iadd__" ([l,.ref d],[]))) _ _ s;show jj (zh ?_);show ke (KQ F.plain_list_iadd _,key _ λh' tk a c' hk j k=>?_);show kw _ A (load (~~~s) >>= _) _ _ _;show jj (wpAny_load j ?_);show ke (p h' tk a (λb o e=>hk b o (Jd (IX e)) (IH _ e)) (JW (IX j)) k)
end
noncomputable def kx:Bool->zf->Nr->Nat->Nat->Nat->StateT SortSt Sem Nl:=sortPriv% PySem.Builtin.gallop
section
variable{prog:q3}{w:zb}{A:Around}{E:as->ba->Prop}{s:ba}{κ:QX}{a0:Nr}{st:SortSt}{G:Prop}
structure Sg(κ:QX)(a0:Nr)(st:SortSt):Prop where
 kind:kindOf st=κ
 perm:(zd st).Perm a0
 failed:failedOf st=none
theorem Sg.size(g:Sg κ a0 st):(zd st).size=a0.size:=g.perm.size_eq
def Sg.mem(g:Sg κ a0 st){x:zf}(h:x∈zd st):x∈a0:=g.perm.mem_iff.mp h
def pd{arr:Nr}{i:Nat}{Q:zf->SortSt->Prop}(hi:i<arr.size)(h:Q arr[i] st):wpS (qb prog w) A E s (QH arr i) Q st:=by rw[elem'_eq,getElem?_pos arr i hi];show KF h
def gK(xs:Nr)(i:Nat):zf:=xs.getD i (.none,.none)
structure En{β γ:Type}(Y K:β->SortSt->Prop)(G:γ->SortSt->Prop)(Q:ForInStep (Option γ×β)->SortSt->Prop):Prop where
 y : ∀d st,Y d st->Q (.yield (none,d)) st
 d : ∀d st,K d st->Q (.done (none,d)) st
 r : ∀v d st,G v st->Q (.done (some v,d)) st
def Ci{β γ:Type}{a b:Nat}{f:Nat->Option γ×β->StateT SortSt Sem (ForInStep (Option γ×β))}{c:β}(J:Nat->β->SortSt->Prop)(K:β->SortSt->Prop)(G:γ->SortSt->Prop){Q:Option γ×β->SortSt->Prop}
  (step:∀i d st,a<=i->i<b->J i d st->∀Q,En (J (i+1)) K G Q->wpS (qb prog w) A E s (f i (Pm NJ d)) Q st)
  (h : J a c st) (g:∀d e,J (max a b) d e->K d e) (hK:∀d e,K d e->Q (Pm NJ d) e) (j:∀v d e,G v e->Q (Pm (NI v) d) e):wpS (qb prog w) A E s (forIn [a:b] (Pm NJ c) f) Q st:=by show wpS_forRange (I:=λi c e=>∃d,c=(Pm NJ d)/\J i d e) (λi c e h1 h2 h3=>?_) (λc e h3=>?_) ⟨c,rfl,h⟩;let(d,rfl,h3):=h3;show step i d e h1 h2 h3 _ ⟨λd Y h=>⟨d,rfl,h⟩,hK,j⟩;let(d,rfl,h3):=h3;show hK _ _ (g _ _ h3)
def bL{α:Type}{c:Prop} [Decidable c]{x y:StateT SortSt Sem α}{Q:α->SortSt->Prop}(h1:c->wpS (qb prog w) A E s x Q st)(h2:¬c->wpS (qb prog w) A E s y Q st):wpS (qb prog w) A E s (if c then x else y) Q st:=by split;show h1 ‹_›;show h2 ‹_›
end
noncomputable def nM:Nat->StateT SortSt Sem Unit:=sortPriv% PySem.Builtin.setMinGallop
abbrev F7:=ForInStep (M7×Nr×Nat×Nat×Nat×Nat×Nat)
section
variable(a b:Nr)
def lD(o:Nr)(i j:Nat):=o++a.extract i a.size++b.extract j b.size
noncomputable def lL(o:Nr)(i j:Nat):=o++b.extract j b.size++a.extract i a.size
def g3(g x y:Nat)(o:Nr)(i j:Nat):StateT SortSt Sem F7:=QH a i >>= λv=>if (i+1+1==a.size)=NK then pure (.done (NI (lL a b (o.push v) (i+1) j),o.push v,i+1,j,g,x,y)) else if (decide (x<7)&&decide (y<7))=NK then pure (.done (NJ,o.push v,i+1,j,g,x,y)) else pure (.yield (NJ,o.push v,i+1,j,g,x,y))
def g2k(g x y:Nat)(o:Nr)(i j:Nat):Nl->StateT SortSt Sem F7
 |some k=>if k>0 then if (j+k==b.size)=NK then pure (.done (NI (lD a b (o++b.extract j (j+k)) i (j+k)),o++b.extract j (j+k),i,j+k,g,x,k)) else g3 a b g x k (o++b.extract j (j+k)) i (j+k) else g3 a b g x k o i j
 |_=>pure (.done (NI (lD a b o i j),o,i,j,g,x,y))
def g2(g x y:Nat)(o:Nr)(i j:Nat):StateT SortSt Sem F7:=QH b j >>= λv=>if (j+1==b.size)=NK then pure (.done (NI (lD a b (o.push v) i (j+1)),o.push v,i,j+1,g,x,y)) else QH a i >>= λu=>kx NK u b (j+1) (b.size-(j+1)) 0 >>= g2k a b g x y (o.push v) i (j+1)
def g1k(g x y:Nat)(o:Nr)(i j:Nat):Nl->StateT SortSt Sem F7
 |some k=>if k>0 then if (i+k+1==a.size)=NK then pure (.done (NI (lL a b (o++a.extract i (i+k)) (i+k) j),o++a.extract i (i+k),i+k,j,g,k,y)) else if (i+k==a.size)=NK then pure (.done (NI (lD a b (o++a.extract i (i+k)) (i+k) j),o++a.extract i (i+k),i+k,j,g,k,y)) else g2 a b g k y (o++a.extract i (i+k)) (i+k) j else g2 a b g k y o i j
 |_=>pure (.done (NI (lD a b o i j),o,i,j,g,x,y))
def g1(g x y:Nat)(o:Nr)(i j:Nat):StateT SortSt Sem F7:=nM g >>= λY=>QH b j >>= λv=>kx NL v a i (a.size-i) 0 >>= g1k a b g x y o i j
noncomputable def hD(o:Nr)(i j:Nat):=a.extract 0 i++b.extract 0 j++o.reverse
def hF(o:Nr)(i j:Nat):=b.extract 0 j++a.extract 0 i++o.reverse
abbrev G7:=ForInStep (M7×Nat×Nat×Nr×Nat×Nat×Nat)
abbrev G5:=ForInStep (M7×Nat×Nat×Nr×Nat)
def h3(g x y:Nat)(o:Nr)(i j:Nat):StateT SortSt Sem G7:=QH a (i-1) >>= λv=>if (i-1==0)=NK then pure (.done (NI (hD a b (o.push v) (i-1) j),i-1,j,o.push v,g,x,y)) else if (decide (x<7)&&decide (y<7))=NK then pure (.done (NJ,i-1,j,o.push v,g,x,y)) else pure (.yield (NJ,i-1,j,o.push v,g,x,y))
def h2k(g x y:Nat)(o:Nr)(i j:Nat):Nl->StateT SortSt Sem G7
 |some p=>if j-p>0 then if (p==1)=NK then pure (.done (NI (hF a b (o++(b.extract p j).reverse) i p),i,p,o++(b.extract p j).reverse,g,x,j-p)) else if (p==0)=NK then pure (.done (NI (hD a b (o++(b.extract p j).reverse) i p),i,p,o++(b.extract p j).reverse,g,x,j-p)) else h3 a b g x (j-p) (o++(b.extract p j).reverse) i p else h3 a b g x (j-p) o i j
 |_=>pure (.done (NI (hD a b o i j),i,j,o,g,x,y))
def h2(g x y:Nat)(o:Nr)(i j:Nat):StateT SortSt Sem G7:=QH b (j-1) >>= λv=>if (j-1==1)=NK then pure (.done (NI (hF a b (o.push v) i (j-1)),i,j-1,o.push v,g,x,y)) else QH a (i-1) >>= λu=>kx NK u b 0 (j-1) (j-1-1) >>= h2k a b g x y (o.push v) i (j-1)
def h1k(g x y:Nat)(o:Nr)(i j:Nat):Nl->StateT SortSt Sem G7
 |some p=>if i-p>0 then if (p==0)=NK then pure (.done (NI (hD a b (o++(a.extract p i).reverse) p j),p,j,o++(a.extract p i).reverse,g,i-p,y)) else h2 a b g (i-p) y (o++(a.extract p i).reverse) p j else h2 a b g (i-p) y o i j
 |_=>pure (.done (NI (hD a b o i j),i,j,o,g,x,y))
def h1(g x y:Nat)(o:Nr)(i j:Nat):StateT SortSt Sem G7:=nM g >>= λY=>QH b (j-1) >>= λv=>kx NL v a 0 i (i-1) >>= h1k a b g x y o i j
def hi3(_:Nat)(s:M7×Nat×Nat×Nr×Nat×Nat×Nat):StateT SortSt Sem G7:=if s.2.2.2.2.1>1 then h1 a b (s.2.2.2.2.1-1) s.2.2.2.2.2.1 s.2.2.2.2.2.2 s.2.2.2.1 s.2.1 s.2.2.1 else h1 a b s.2.2.2.2.1 s.2.2.2.2.2.1 s.2.2.2.2.2.2 s.2.2.2.1 s.2.1 s.2.2.1
def Im(s:M7×Nat×Nat×Nr×Nat×Nat×Nat):StateT SortSt Sem G5:=match s.1 with
 |some r=>pure (.done (NI r,s.2.1,s.2.2.1,s.2.2.2.1,s.2.2.2.2.1))
 |none=>nM (s.2.2.2.2.1+1) >>= λY=>pure (.yield (NJ,s.2.1,s.2.2.1,s.2.2.2.1,s.2.2.2.2.1+1))
def Io(g:Nat)(s:M7×Nat×Nat×Nr×Nat×Nat):StateT SortSt Sem G5:=match s.1 with
 |some r=>pure (.done (NI r,s.2.1,s.2.2.1,s.2.2.2.1,g))
 |none=>liftM (PySem.rule "list.sort.gallop") >>= λY=>forIn [:a.size+b.size] (NJ,s.2.1,s.2.2.1,s.2.2.2.1,g+1,s.2.2.2.2.1,s.2.2.2.2.2) (hi3 a b) >>= Im
def hi2(g:Nat)(_:Nat)(s:M7×Nat×Nat×Nr×Nat×Nat):StateT SortSt Sem (ForInStep (M7×Nat×Nat×Nr×Nat×Nat)):=QH b (s.2.2.1-1) >>= λv=>QH a (s.2.1-1) >>= λu=>lt' v u >>= fun
 |some w=>if w=NK then QH a (s.2.1-1) >>= λv=>if (s.2.1-1==0)=NK then pure (.done (NI (hD a b (s.2.2.2.1.push v) (s.2.1-1) s.2.2.1),s.2.1-1,s.2.2.1,s.2.2.2.1.push v,s.2.2.2.2.1+1,0)) else if s.2.2.2.2.1+1≥g then pure (.done (NJ,s.2.1-1,s.2.2.1,s.2.2.2.1.push v,s.2.2.2.2.1+1,0)) else pure (.yield (NJ,s.2.1-1,s.2.2.1,s.2.2.2.1.push v,s.2.2.2.2.1+1,0))
  else QH b (s.2.2.1-1) >>= λv=>if (s.2.2.1-1==1)=NK then pure (.done (NI (hF a b (s.2.2.2.1.push v) s.2.1 (s.2.2.1-1)),s.2.1,s.2.2.1-1,s.2.2.2.1.push v,0,s.2.2.2.2.2+1)) else if s.2.2.2.2.2+1≥g then pure (.done (NJ,s.2.1,s.2.2.1-1,s.2.2.2.1.push v,0,s.2.2.2.2.2+1)) else pure (.yield (NJ,s.2.1,s.2.2.1-1,s.2.2.2.1.push v,0,s.2.2.2.2.2+1))
 |_=>pure (.done (NI (hD a b s.2.2.2.1 s.2.1 s.2.2.1),s.2.1,s.2.2.1,s.2.2.2.1,s.2.2.2.2.1,s.2.2.2.2.2))
def hi1(_:Nat)(s:M7×Nat×Nat×Nr×Nat):StateT SortSt Sem G5:=forIn [:a.size+b.size] (NJ,s.2.1,s.2.2.1,s.2.2.2.1,0,0) (hi2 a b s.2.2.2.2) >>= Io a b s.2.2.2.2
end
section
variable{κ:QX}{a0:Nr}{st:SortSt}
def Sb(κ:QX)(a0:Nr)(st a:SortSt):Prop:=Sg κ a0 a/\Qa a=Qa st
def Sb.arr{a:SortSt}(h:Sb κ a0 st a){xs:Nr}(b:xs.Perm (zd a)):Sb κ a0 st (setArr a xs):=((h.1.1,b.trans h.1.2,h.1.3),h.2)
def Ed{p:Nr}{i j:Nat}(hj:j<=p.size)(k:Nat):gK (Q1 p i j ((j-i) / 2)) k=if i<=k/\k<j then gK p (i+j-1-k) else gK p k:=by unfold gK;rw[nN,getElem?_mirror_all hj];split <;> rw[nN]
def Ee{p:Nr}{a d:Nat}(hs:a<p.size)(hd:d<=a)(k:Nat):gK (bubble p a d) k=if k=a-d then gK p a else if a-d<k/\k<=a then gK p (k-1) else gK p k:=by
 unfold gK;simp only[nN];rw[getElem?_bubble hs d hd]
 repeat' split
 all_goals rfl
end
section
variable{prog:q3}{w:zb}{A:Around}{E:as->ba->Prop}{s:ba}{vs:NC}
def GQ(prog:q3)(w:zb)(A:Around)(s:ba)(l:ap)(vs:NC):Prop:=∀{E:as->ba->Prop}{Q:NC->ba->Prop},(∀h' tk,(∀b o,s.heap.get? b=NI o->h'.get? b=NI o)->(~~~s)<=h'.objs.size->Q vs { s with heap:=h',toks:=tk })->kw (qb prog w) A (collect (.ref l)) Q E s
def mL{l:ap}(hl:s.heap.IsList l vs.toArray)(a:-vs<1000000):GQ prog w A s l vs:=λh =>
 collect_list hl (h _ s.toks (λb o e=>by rw[Heap.get?_update_ne _ _ _ _ (Jd (IX e))];show IH _ e) (by rw[Mx,size_push'];lia)) (by rw[z0];lia)
end
def wR{K:ca}{N:ap->Prop}{H:Hp}{vs:NH}{ds:Nz}{a ws:NC}(rv:aH vs a)(q:DNs K N H vs ds)(b:ws.Perm a):∃vs' es,aH vs' ws/\DNs K N H vs' es/\es.Perm ds:=by
 let hl:=-rv;let hd:=q.len;let(t,pt,rfl):=cA (f:=λx:as×V×ab=>x.1) b (a.zip (vs.zip ds)) (by rw[Mw];simp;lia);let hz:(t.map (·.2)).Perm (vs.zip ds):=by let:=pt.map (·.2);rwa [Kd (by simp;lia)]at this
 show((t.map (·.2)).map (·.1),(t.map (·.2)).map (·.2),?_,oV λz h=>oU q z (hz.mem_iff.mp h),?_);rw[Jq];show nh λx hx=>jM rv x (pt.mem_iff.mp hx);let:=hz.map (·.2);rwa [Kd (!0)]at this
def D2(KP:ab->Prop)(tb:DE)(es:Nz):Prop:=tb (es.map .fr) λs env=>∃kd,aV env s=NI kd/\KP kd
section
variable{X:Cx}{pins:Nd}{σ:St}{H:Hp}{s:ba}{KP:ab->Prop}{tb:DE}
def GM(KP:ab->Prop)(X:Cx)(H:Hp):VK:=λv H'=>aS H H'/\∃kd,KP kd/\DN X.K N0 H' v kd
def xz{fl:Except as Flow}{s':ba}(I:Inv X pins σ H s)(c:CR CX0 X.stack X.prog X.w H s (GM KP X H) E0 fl s'):∃r,fl=.ok (.ret r)/\∃kd,KP kd/\vP X pins σ H s kd r s':=by
 cases fl with
 |error e=>show c.elim
 |ok fl =>
  cases fl with
  |ret z =>
   let(v1,H',os,bare,un,hok,rv,f,kd,d,dn):=c;show(_,rfl,kd,d,H',v1,I.call' (ch:=[]) os un hok bare (λb z=>nomatch z),f,rv,dn,λb o a e=>(un.keep b o e a.1 (λz=>?_) (!1),un.free b o e a.1 (!1)));rcases IR.mp (I.stkSub b z) with z|z;show a.2.1 z;show a.2.2.1 z
  |_=>show False.elim c
def uM{vs:NH}{ds:Nz}(q:DNs X.K N0 H vs ds)(hk:D2 KP tb ds):up X.K tb (vs.map NI) H (GM KP X H):=by show(N0,N0,H,_,_,[],_,Ae q,hk,λs1 env' v' H' ⟨kd,d,c⟩ a=>((a.e.keep).none,kd,c,?_));show(a.kept (ts:=[]) (v:=v') (s:=s1) (!1) d).to λb Y Y z=>z.elim
end
section
variable{K:ca}{x qual p q r:bx}{st:Stmt}{f:ap}{fd:kN}(F:Fun K x qual st f fd)
def BdA(x qual:bx)(st:Stmt)(us:NC)(ps:Nh):Prop:=∀(kV doc pm:as) (an:No) (cdv ct:as),Qj (fy x qual (cT st) (bI st) (ac st) .none kV doc pm an cdv ct) (us,[])=pure ps
include F
def bd1(h:∀a,BdA x qual st [a] [(p,a)]:=by intros;unfold BdA;intros;rfl):cV K fd [p] []:=F.binds (ps:=[p]) λY Y Y Y Y Y us hl=>us1 (Q:=λus=>Qj _ (us,[])=pure (sn _ us)) hl λa=>h a _ _ _ _ _ _
def bd2(h:∀a b,BdA x qual st [a,b] [(p,a),(q,b)]:=by intros;unfold BdA;intros;rfl):cV K fd [p,q] []:=F.binds (ps:=[p,q]) λY Y Y Y Y Y us hl=>us2 (Q:=λus=>Qj _ (us,[])=pure (sn _ us)) hl λa b=>h a b _ _ _ _ _ _
def bd3(h:∀a b c,BdA x qual st [a,b,c] [(p,a),(q,b),(r,c)]:=by intros;unfold BdA;intros;rfl):cV K fd [p,q,r] []:=F.binds (ps:=[p,q,r]) λY Y Y Y Y Y us hl=>us3 (Q:=λus=>Qj _ (us,[])=pure (sn _ us)) hl λa b c=>h a b c _ _ _ _ _ _
end
abbrev ZL(z TI TO i1 i2 l1 l2:ap)(i:Nat)(h:bd):Prop:=QB h z TI TO .none/\K5 h TI (.ref i1) (.ref i2)/\(∃p q,K5 h TO p q)/\h.IsListIter i1 l1 i/\h.IsListIter i2 l2 i
section
variable{z TI TO i1 i2 l1 l2:ap}
def ZL.obj{i:Nat}{h:bd}(st:ZL z TI TO i1 i2 l1 l2 i h)(d:ap)(hd:d∈[z,TI,TO,i1,i2]):∃o,h.get? d=NI o/\∀v,o.data≠.cell v:=by let(hz,a,(p,q,b),(c,e1,_,d1),f,e2,_,d2):=st;simp only[IR,Jk,or_false]at hd;rcases hd with rfl|rfl|rfl|rfl|rfl;show(_,hz,λv e=>nomatch (e:Data.fields _=Data.cell v));show(_,a,λv e=>nomatch (e:Data.seq _ _=Data.cell v));show(_,b,λv e=>nomatch (e:Data.seq _ _=Data.cell v));show(c,e1,λv e=>by rw[d1]at e;cases e);show(f,e2,λv e=>by rw[d2]at e;cases e)
def ZAp.to{X:Cx}{pins:Nd}{σ:St}{H:Hp}{s:ba}{xs ys:NH}(a:ZAp z TI TO i1 i2)(I:Inv X pins σ H s)(e:∀d∈[z,TI,TO,i1,i2],hV X pins H d)(h1:SqB X.K H NL l1 xs)(h2:SqB X.K H NL l2 ys):Zk z TI TO i1 i2 l1 l2 :=
 let b:=λd hd=>aM I h1 (e d hd);let c:=λd hd=>aM I h2 (e d hd)
 (a.TIz,a.TOz,a.i1z,a.i2z,a.TITO,a.TIi1,a.TIi2,a.TOi1,a.TOi2,a.i12,b _ (!1),b _ (!1),b _ (!1),b _ (!1),c _ (!1),c _ (!1),c _ (!1),c _ (!1))
def sL{P:q3}{w:zb}{K:ca}{es:NF}{N:Nat}{pos:Pos}(j:ZAp z TI TO i1 i2) :
  zD P w K (.Tuple es N pos) (Itz K NL NL l1 l2) [z,TI,TO,i1,i2] z (ZL z TI TO i1 i2 l1 l2) where
 mem:=!1
 obj:=λi h st d hd=>st.obj d hd
 keep:=λi h h' st k=>by
  let(hz,a,(p,q,g),h1,h2):=st;show(k z (!1) _ hz,k TI (!1) _ a,(p,q,k TO (!1) _ g),h1.at λo e=>k i1 (!1) o e,h2.at λo e=>k i2 (!1) o e)
 item:=by
  intro X J hw hK hc i pins s σ H E I B st hg
  cbv;subst J hw hK;let(xs,ys,x,y,b,c,hx,M):=hg;let(hz,a,(p,q,g),h1,h2):=id st;let(C,l,m):=I.seq b;let(D,n,r):=I.seq c;let(u,O,R):=l.get hx;let(v,hv,rv):=n.get M
  w_up;show wpAny_pyNext_zip_item (j.to I B b c) hz a g h1 h2 m r (x:=u) (y:=v) (by simpa using O) (by simpa using hv) λh' a1 a2 a3 S U W hk=>(_,rfl,Zm a1 λV L f=>?_)
  let F:=λd hd=>let ⟨_,e,_⟩:=st.obj d hd;IX e
  let g2:=f.extBut _ _ (JR (F z (!1))) U;let hn:H (~~~s)=NJ:=I.hok.fresh (IS _);show(.ref (~~~s),upd H (~~~s) (.tup [x,y]),(I.turnedN (t':=s.toks) B λd o hd e=>f.extBut d o (λw'=>hd (by simp[w'])) (hk d o (λw'=>hd (by simp[w'])) (λw'=>hd (by simp[w'])) (λw'=>hd (by simp[w'])) (λw'=>hd (by simp[w'])) e)).track (T:=(~~~s)) (o:=.tup [x,y]) (I.fpOk (IS _) hn) (by show 2<=sizeLine;decide,[u,v],.cons R (.cons rv .nil),_,g2,rfl,(_,rfl),rfl),rfl,(_,x,y,rfl,hn,rfl,λY t=>by rw[I.seq_inj t b];show hx,λY t=>by rw[I.seq_inj t c];show M),(L,f.extBut _ _ j.TIz (hk _ _ j.TIz j.TITO j.TIi1 j.TIi2 a),(u,v,f.extBut _ _ j.TOz a2),a3.at λo e=>f.extBut _ o j.i1z e,S.at λo e=>f.extBut _ o j.i2z e),λd hd=>?_);rw[al (Jd (F d hd))];show(B d hd).1
 done:=by
  intro X J hw hK hc i pins s σ H E I B st hg
  cbv;subst J hw hK;let(xs,ys,b,c,G):=hg;let(hz,a,(p,q,g),h1,h2):=st;let(C,l,m):=I.seq b;let(D,n,r):=I.seq c
  w_up;let Z:=-l;let a6:=-n;show wpAny_pyNext_zip_end (I.ok.hd hc) (j.to I B b c) hz a g h1 h2 m r (G.imp (λh=>by simp;lia) λh=>by simp;lia) λh' hk=>(rfl,I.turnedN (t':=s.toks) B λd o hd e=>hk d o (λw'=>hd (by simp[w'])) (λw'=>hd (by simp[w'])) (λw'=>hd (by simp[w'])) (λw'=>hd (by simp[w'])) e)
 self:=λA i s Q E st h=>Qr st.1 h
end
section
variable{X:Cx}{K:ca}{e1 e2:bb}{ta:TA}{p q pos:Pos}
def AE{es:NF}{r:Nat}{a:Pos}(hg:Gl X "zip")(t:X.mg "zip" = NJ)(w:PA X [e1,e2] ta)
  (hs:kq [e1,e2] X.env=[(NL,eval e1 X.env),(NL,eval e2 X.env)]) (b:kq [e2] X.env=[(NL,eval e2 X.env)]) :
  PI X (.Tuple es r a) (.Call (.Name "zip" p) [e1,e2] [] pos) (E4 X.K NL NL ta):=by
 intro pins s σ H R I h;show Call_ (fR I hg t Ld (gl (thn (w pos pins s σ H _ I h) λus s1 f=>?_) (by rw[hs,b]) (by rw[b];rfl)))
 cbv;let(vs,H1,c,x,y):=f;let(l1,l2,xs,ys,rfl,g,i,q):=y;let(u,v,rfl,A,rv):=sJ x
 w_up;cases (show u=da l1 from A);cases (show v=da l2 from rv);let(n,B,j):=c.seq g;let(o,C,k):=c.seq i;show call_zip_2 j k λh' hz l m h1 h2 Y hk=>Qr hz ?_;let D:ZAp ((~~~s1)+4) ((~~~s1)+2) ((~~~s1)+3) (~~~s1) ((~~~s1)+1):=by constructor <;> (intro z;simp only[ap]at *;lia)
 show((~~~s1)+4,[(~~~s1)+4,(~~~s1)+2,(~~~s1)+3,(~~~s1),(~~~s1)+1],_,_,H1,rfl,c.kept (t':=s1.toks) hk,sL (l1:=l1) (l2:=l2) D,(hz,l,(_,_,m),h1,h2),λd hd=>?_,q);let e:(~~~s1)<=d:=by simp only[IR,Jk,or_false]at hd;rcases hd with rfl|rfl|rfl|rfl|rfl <;> first|show IS _|show JP _ _
 show c.fpOk e (c.hok.fresh e)
variable{tl:DA}
def Ai{es:NF}{r:Nat}{e:Pos}(hK:X.K=K)(hg:Gl X "zip")(t:X.mg "zip" = none)(u:PA X [e1,e2] (upA K tl))
  (hs:kq [e1,e2] X.env=[(false,eval e1 X.env),(false,eval e2 X.env)]:=by rfl) (j:kq [e2] X.env=[(false,eval e2 X.env)]:=by rfl) :
  PI X (.Tuple es r e) (.Call (.Name "zip" p) [e1,e2] [] pos) (upI K (Fa false false tl)):=(show PI X _ _ (E4 K NL NL (upA K tl)) by subst hK;show AE hg t u hs j).imp λσ H R h=>by
 let(M,P,H0,σ0,env,ts,RR,k,ht,w):=h;show(M,P,H0,σ0,env,ts,_,k,ht,λss f vs H1 h1 hl c=>?_);let(s,s',ds,d,rfl,x,y,z):=h1;let(v,v',rfl):=EZ hl;let g:=c.keptAll (vs:=[v,v']) (ds:=[sqD NL ds,sqD NL d]) hl (λp A=>A) (by simp[aN,x,y]);let i:=c.drop.addFrs g;let i:Rel K M P H0 σ0 σ f (ts++[(v,.fr (sqD NL ds)),(v',.fr (sqD NL d))]) H1:=by simpa using i
 cases g with
 |cons dn q =>
  cases q with
  |cons l q =>
   cbv;let(a,_,rfl,_):=DN.list dn;let(o,_,rfl,_):=DN.list l;let(xs,sq,_):=aP (b:=NL) (a:=a) (ds:=ds) i (IE _ (by simp[sqD]));let(m,n,_):=aP (b:=NL) (a:=o) (ds:=d) i (IE _ (by simp[sqD]))
   w_up;show(a,o,xs,m,rfl,sq,n,w _ _ _ _ _ z i qk)
end
section
variable{env:NA}{DD:gx}{ds:Nz}
structure LpE(E:gx)(W:NA->Prop)(DD:gx):Prop where
 nx : ∀env,W env->E.nx env
 ct : ∀env,W env->E.ct env
 bk : ∀env,DD.nx env->E.bk env
 rt : ∀s env,DD.rt s env->E.rt s env
def iW{g:DG}{tb:DS}(W:Nat->NA->Prop)(b:W 0 env)
  (hs:∀E:Nat->gx,(∀i,LpE (E i) (W (i+1)) DD)->∀i env,(h:i< -ds)->W i env->g ds[i] env λa=>tb (E i) a) (hd:∀env,W (-ds) env->DD.nx env):FD ds g tb DD env:=(W,b,λi=>hs (λi=>{ DD with nx:=dI (W (i+1)) ⟨⟩,ct:=dI (W (i+1)) ⟨⟩,bk:=DD.nx }) (λY=>(λY z=>z,λY z=>z,λY z=>z,λY Y z=>z)) i,hd)
def v7{c:DT}{tb:DS}(W:Nat->NA->Prop)(d:∃m,W m env)
  (h : ∀E:Nat->gx,(∀m,LpE (E m) (λenv=>∃a,a<m/\W a env) DD)->∀m env,W m env->c env λk b=>if k=NK then tb (E m) b else DD.nx b):zi c tb DD env :=
 (W,d,λm=>h (λm=>{ DD with nx:=dI (λenv'=>∃a,a<m/\W a env') ⟨⟩,ct:=dI (λenv'=>∃a,a<m/\W a env') ⟨⟩,bk:=DD.nx }) (λY=>(λY z=>z,λY z=>z,λY z=>z,λY Y z=>z)) m)
end
section
variable{prog:q3}{w:zb}{A:Around}{E:as->ba->Prop}{s:ba}{κ:QX}{a0:Nr}{st:SortSt}{f:as->Int}
def Ans(m n:Int)(b:Bool):Prop:=(b=NK->m<=n)/\(b=NL->n<=m)
def ES(prog:q3)(w:zb)(A:Around)(κ:QX)(a0:Nr)(s:ba)(f:as->Int):Prop:=∀x∈a0,∀y∈a0,∀C:Bool->ba->Prop,(∀b,Ans (f x.1) (f y.1) b->C b s)->kw (qb prog w) A (keyLt' κ x.1 y.1) C (λY Y=>False) s
def rK(f:as->Int)(xs:Nr)(i:Nat):Int:=f (gK xs i).1
def l7{i j:Nat}{Q:Option Bool->SortSt->Prop}(a:ES prog w A κ a0 s f)(g:Sg κ a0 st)(hi:i<a0.size)(hj:j<a0.size)(h:∀b,Ans (rK f (zd st) i) (rK f (zd st) j) b->Q (NI b) st):wpS (qb prog w) A E s (ltAt' i j) Q st:=by
 rw[ltAt'_eq];let hi:i<(zd st).size:=by rw[g.size];show hi
 let hj:j<(zd st).size:=by rw[g.size];show hj
 show zg (Zy (zg (pd hi (zg (pd hj ?_)))));rw[lt'_eq];show zg (Zy ?_);rw[g.kind];show zg (wpS_lift (Qf (z3 (a _ (g.mem (Mn hi)) _ (g.mem (Mn hj)) (λb s'=>s'=s/\Ans (rK f (zd st) i) (rK f (zd st) j) b) λY z=>(rfl,by simpa[rK,gK,hi,hj] using z)) (λb s' e=>(e.1,KF (h b e.2))) λY Y x=>x.elim)))
def Ris(f:as->Int)(xs:Nr)(p q:Nat):Prop:=∀i j,p<=i->i<=j->j<q->rK f xs i<=rK f xs j
def Fal(f:as->Int)(xs:Nr)(p q:Nat):Prop:=∀i j,p<=i->i<=j->j<q->rK f xs j<=rK f xs i
def eK{p:Nr}{i j:Nat}(hj:j<=p.size)(k:Nat):rK f (Q1 p i j ((j-i) / 2)) k=if i<=k/\k<j then rK f p (i+j-1-k) else rK f p k:=by unfold rK;rw[Ed hj];split <;> rfl
def yE{p:Nr}{a d:Nat}(hs:a<p.size)(hd:d<=a)(k:Nat):rK f (bubble p a d) k=if k=a-d then rK f p a else if a-d<k/\k<=a then rK f p (k-1) else rK f p k:=by
 unfold rK;rw[Ee hs hd]
 repeat' split
 all_goals rfl
def Ris.one{xs:Nr}{p:Nat}:Ris f xs p (p+1):=λi j h1 h2 h3=>by
 rw[show i=j by lia];show Jo _
def Ris.snoc{xs:Nr}{p q:Nat}(h:Ris f xs p q)(a:p<q)(e:rK f xs (q-1)<=rK f xs q):Ris f xs p (q+1):=λi j h1 h2 h3=>by
 by_cases c:j=q;subst c;by_cases c:i=j;rw[c];show Jo _;show JF (h i (j-1) h1 (!0) (!0)) e;show h i j h1 h2 (!0)
def Fal.snoc{xs:Nr}{p q:Nat}(h:Fal f xs p q)(a:p<q)(e:rK f xs q<=rK f xs (q-1)):Fal f xs p (q+1):=λi j h1 h2 h3=>by
 by_cases c:j=q;subst c;by_cases c:i=j;rw[c];show Jo _;show JF e (h i (j-1) h1 (!0) (!0));show h i j h1 h2 (!0)
def Fal.turn{xs:Nr}{p q:Nat}(h:Fal f xs p q)(hz:q<=xs.size):Ris f (Q1 xs p q ((q-p) / 2)) p q:=λi j h1 h2 h3=>by
 rw[eK hz,eK hz,M0 (!0),M0 (!0)];show h _ _ (!0) (!0) (!0)
def Ris.turn{xs:Nr}{p q:Nat}(h:Ris f xs p q)(hz:q<=xs.size):Fal f (Q1 xs p q ((q-p) / 2)) p q:=λi j h1 h2 h3=>by
 rw[eK hz,eK hz,M0 (!0),M0 (!0)];show h _ _ (!0) (!0) (!0)
def Fal.like{xs:Nr}{p k q:Nat}(h:Fal f xs p q)(hk:p<=k)(hz:q<=xs.size)(e:Ris f xs k q):Fal f (Q1 xs k q ((q-k) / 2)) p q:=λi j h1 h2 h3=>by
 rw[eK hz,eK hz];by_cases c:k<=i;rw[M0 (!0),M0 (!0)];show e _ _ (!0) (!0) (!0);rw[M1 (show ¬(k<=i/\i<q) by lia)];split;show h _ _ h1 (!0) (!0);show h _ _ h1 h2 h3
def GJ{n ok:Nat}{Q:Bool->SortSt->Prop}(D:ES prog w A κ a0 s f)(g:Sg κ a0 st)(h1:1<=ok)(hok:ok<=n)(hn:n<=a0.size)(hs:Ris f (zd st) 0 ok)(h:∀a,Sb κ a0 st a->Ris f (zd a) 0 n->Q NK a):wpS (qb prog w) A E s (binarySort' 0 n ok) Q st:=by
 show zg (Ci (λk Y a=>Sb κ a0 st a/\Ris f (zd a) 0 k) (λY a=>Sb κ a0 st a/\Ris f (zd a) 0 n) (λY Y=>False) (λk d a F hk b Y p=>?_) ((g,rfl),by rw[Nat.max_eq_left h1];show hs) (λY Y z=>by rwa [show max (max ok 1) n=n by lia]at z) (λY a b=>KF (h _ b.1 b.2)) λY Y Y z=>z.elim);let(b,hs):=b;let hz:=b.1.size;show zg (Ci (λx d m=>d.1<=d.2/\d.2<=k/\m=a/\d.2-d.1<=k-x/\(∀i,i<d.1->rK f (zd a) i<=rK f (zd a) (0+k))/\∀i,d.2<=i->i<k->rK f (zd a) (0+k)<=rK f (zd a) i)
  (λd m=>d.1<=k/\m=a/\(∀i,i<d.1->rK f (zd a) i<=rK f (zd a) (0+k))/\∀i,d.1<=i->i<k->rK f (zd a) (0+k)<=rK f (zd a) i) (λY Y=>False) (λx d m Y hx z Y p=>?_) (Jb k,IS k,rfl,!1,λi hi=>absurd hi (MH i),λi h1 h2=>absurd h1 (by simp;lia)) (λd Y z=>?_) (λd m e=>?_) λY Y Y z=>z.elim)
 let(l,r):=d;let(z1,z2,rfl,u,q,o):=z;dsimp only at z1 z2 u q o;show bL (λe=>KF (p.d _ _ (IQ z1 z2,rfl,q,λi i1 i2=>o i (IQ e i1) i2))) λt=>?_;let t:l<r:=Nat.lt_of_not_le t;show zg (l7 (i:=0+k) (j:=0+(l+r) / 2) D b.1 (!0) (!0) λc hc=>?_);rw[Dd ((l+r) / 2)]at hc;cases c;show KF (p.y _ _ ((show(l+r) / 2+1<=r by lia),z2,rfl,(show r-((l+r) / 2+1)<=k-(x+1) by lia),λi hi=>?_,o));let hi:i<(l+r) / 2+1:=hi;show JF (hs _ _ (Jb _) (!0) (!0)) (hc.2 rfl);show KF (p.y _ _ ((show l<=(l+r) / 2 by lia),(show(l+r) / 2<=k by lia),rfl,(show(l+r) / 2-l<=k-(x+1) by lia),q,λi i1 i2=>?_));show JF (hc.1 rfl) (hs _ _ (Jb _) i1 i2);let(l,r):=d;let(z1,z2,u,q,o,v):=z;dsimp only at z1 z2 q o v;show(IQ z1 z2,u,o,λi i1 i2=>v i (by let i1:l<=i:=i1;lia) i2);let(l,r):=d;let(e1,rfl,B,C):=e;let e1:l<=k:=e1;rw[Dd]at B C;show zg (Qv (KF (p.y _ _ (b.arr (bubble_perm _ _ _),λi j i1 i2 G=>?_))));show rK f (bubble (zd m) (0+k) (0+k-(0+l))) i<=rK f (bubble (zd m) (0+k) (0+k-(0+l))) j;rw[yE (!0) (!0),yE (!0) (!0),show 0+k-(0+k-(0+l))=l by lia,Dd];by_cases c1:j=l;rw[M0 c1];by_cases c2:i=l;rw[M0 c2];show Jo _;rw[M1 c2,M1 (!0)];show B _ (show i<l by lia);rw[M1 c1];by_cases c3:l<j;rw[M0 (show l<j/\j<=k by lia)];by_cases c2:i=l;rw[M0 c2];show C _ (show l<=j-1 by lia) (!0);rw[M1 c2];split;show hs _ _ (!0) (!0) (!0);show hs _ _ (!0) (!0) (!0);rw[M1 (!0),M1 (!0),M1 (!0)];show hs _ _ (!0) (!0) (!0)
def EG{lo a n:Nat}{e:SortSt}{Q:Option Nl×Nat->SortSt->Prop}(m:ES prog w A κ a0 s f)(g:Sg κ a0 e)(h1:1<=a)(r:a<=n)(hn:lo+n<=a0.size)(hs:Ris f (zd e) lo (lo+a)){F:Nat->Option Nl×Nat->StateT SortSt Sem (ForInStep (Option Nl×Nat))}
  (o:∀i d (Q:ForInStep (Option Nl×Nat)->SortSt->Prop),wpS (qb prog w) A E s (ltAt' (lo+d) (lo+d-1)) (λb st=>∃c,b=NI c/\Q (if c then .done (NJ,d) else .yield (NJ,d+1)) st) e->wpS (qb prog w) A E s (F i (NJ,d)) Q e)
  (h : ∀d,a<=d->d<=n->Ris f (zd e) lo (lo+d)->(d<n->rK f (zd e) (lo+d)<=rK f (zd e) (lo+d-1))->Q (NJ,d) e):wpS (qb prog w) A E s (forIn [a:n] (NJ,a) F) Q e:=by show Ci (λi d j=>d=i/\j=e/\Ris f (zd e) lo (lo+d)) (λd j=>a<=d/\d<=n/\j=e/\Ris f (zd e) lo (lo+d)/\(d<n->rK f (zd e) (lo+d)<=rK f (zd e) (lo+d-1))) (λY Y=>False) (λi d j i1 i2 z Y k=>?_) (rfl,rfl,hs) (λd j z=>(!0,!0,z.2.1,z.2.2,λl=>!0)) (λd j z=>?_) λY Y Y z=>z.elim;let(rfl,rfl,hs):=z;show o d d _ (l7 m g (!0) (!0) λc hc=>(c,rfl,?_));cases c;show k.y _ _ (rfl,rfl,hs.snoc (!0) (hc.2 rfl));show k.d _ _ (i1,!0,rfl,hs,λY=>hc.1 rfl);let(z1,z2,rfl,p,q):=z;show h d z1 z2 p q
def B1{lo n:Nat}{Q:Nl->SortSt->Prop}(r:ES prog w A κ a0 s f)(g:Sg κ a0 st)(hn1:1<=n)(hn:lo+n<=a0.size)(h:∀m a,1<=m->m<=n->Sb κ a0 st a->Ris f (zd a) lo (lo+m)->Q (NI m) a):wpS (qb prog w) A E s (countRun' lo n) Q st:=by
 let hz:=g.size;show zg (EG r g (IS 1) hn1 hn Ris.one (λi d Q h=>zg (wpS_mono h ?_)) λd d1 d2 hs l=>?_);rintro _ st ⟨c,rfl,h⟩;cases c <;> show KF h
 show bL (λY=>KF (h _ _ d1 d2 (g,rfl) hs)) λe=>?_;let e:d<n:=by simp at e;lia
 let l:=l e;let b:Sb κ a0 st st:=(g,rfl)
 show bL (λdl=>zg (l7 (i:=lo) (j:=lo+d-1) r g (!0) (!0) λc hc=>bL (λY=>KF (h _ _ d1 d2 b hs)) λu=>zg (Qv ?_))) λdl=>?_
 case' refine_1 =>
  let b:=b.arr (Q6 (zd st) lo (lo+d) ((lo+d-lo) / 2));let hd:Fal f (Q1 (zd st) lo (lo+d) ((lo+d-lo) / 2)) lo (lo+d+1):=(hs.turn (!0)).snoc (!0) (by
   rw[eK (!0),eK (!0),M1 (!0),M0 (!0),show lo+(lo+d)-1-(lo+d-1)=lo by lia];show JF l (hc.2 (by simpa using u)))
 case' refine_2 =>
  let dl:d=1:=by let dl:¬d>1:=dl;lia
  let hd:Fal f (zd st) lo (lo+d+1):=Fal.snoc (λi j h1 h2 h3=>by rw[show i=j by lia];show Jo _) (!0) l
 all_goals
  show zg (wpS_lift (KO (rfl,zg (Ci (λi d a=>d.1=i/\Sb κ a0 st a/\d.2+1<=i/\Fal f (zd a) lo (lo+i)/\Ris f (zd a) (lo+i-(d.2+1)) (lo+i)) (λd a=>d.1<=n/\Sb κ a0 st a/\d.2+1<=d.1/\Fal f (zd a) lo (lo+d.1)/\Ris f (zd a) (lo+d.1-(d.2+1)) (lo+d.1)) (λY Y=>False) ?_ (rfl,b,!1,hd,Ris.one) ?_ ?_ λY Y Y z=>z.elim))));rintro i ⟨d,q⟩ k i1 i2 ⟨rfl,b,o,hF,p⟩ _ t;dsimp only at i2 o hF p;let hz:=b.1.size;show zg (l7 (i:=lo+d) (j:=lo+d-1) r b.1 (!0) (!0) λc hc=>bL (λct=>bL (λq0=>zg (Qv (KF (t.y (d+1,0) _ (rfl,b.arr (Q6 _ _ _ _),!1,?_,Ris.one))))) λY=>KF (t.y (d+1,0) _ (rfl,b,!1,hF.snoc (!0) (hc.1 ct),Ris.one))) λu=>?_);show(hF.like (!0) (!0) p).snoc (!0) ?_;show rK f (Q1 (zd k) (lo+d-(q+1)) (lo+d) ((lo+d-(lo+d-(q+1))) / 2)) (lo+d)<=rK f (Q1 (zd k) (lo+d-(q+1)) (lo+d) ((lo+d-(lo+d-(q+1))) / 2)) (lo+d-1);rw[eK (!0),eK (!0),M1 (!0),M0 (!0)];show JF (hc.1 ct) (hF _ (lo+d-1) (!0) (!0) (!0));show zg (l7 (i:=lo+d-1) (j:=lo+d) r b.1 (!0) (!0) λc2 v=>bL (λY=>KF (t.d _ _ (JW i2,b,o,hF,p))) λx=>KF (t.y (d+1,q+1) _ (rfl,b,MA o,hF.snoc (!0) (v.2 (by simpa using x)),?_)));let:=p.snoc (!0) (hc.2 (by simpa using u));rwa [show lo+d-(q+1)=lo+(d+1)-(q+1+1) by lia]at this;rintro⟨d',q⟩ k ⟨rfl,b,o,hs⟩;show(?_,b,o,hs);show max (d+1) n<=n;lia
  .rintro⟨d',q⟩ k ⟨d2,b,o,hF,p⟩;dsimp only at d2 o hF p;let hz:=b.1.size;show bL (λY=>zg (Qv ?_)) λY=>?_
   case' refine_1 =>
    let hF:=hF.like (!0) (!0) p;let b:=b.arr (Q6 (zd k) (lo+d' - (q+1)) (lo+d') ((lo+d' - (lo+d' - (q+1))) / 2));let hz:=b.1.size
   all_goals
    let b:=b.arr (Q6 _ lo (lo+d') ((lo+d' - lo) / 2));show zg (Qv (zg (EG (n:=n) r b.1 (!0) d2 hn (hF.turn (IQ (show lo+d'<=a0.size by lia) (Hs hz.symm))) (λi d Q h=>zg (wpS_mono h ?_)) λe e1 e2 hs Y=>KF (h _ _ (!0) e2 b hs))));rintro _ st ⟨c,rfl,h⟩;cases c <;> show KF h
def CH{Q:Unit->SortSt->Prop}(u:ES prog w A κ a0 s f)(g:Sg κ a0 st)(r:Qa st=#[])(h1:1<=a0.size)(p:a0.size<64)(h:∀a,Sg κ a0 a->Ris f (zd a) 0 a0.size->Q () a):wpS (qb prog w) A E s sortRuns' Q st:=by
 let hs:=g.size;let q:minRun' (zd st).size (zd st).size 0=a0.size:=by
  obtain⟨f,v⟩:∃f,a0.size=f+1:=(a0.size-1,!0)
  rw[hs,v];rw[v]at p;rw[minRun'_succ,M0 p]
 show zg (Zy (zg (Ci (λi lo a=>(i=0/\lo=0/\a=st)\/(lo=a0.size/\Sg κ a0 a/\(Qa a).size=1/\Ris f (zd a) 0 a0.size)) (λY a=>Sg κ a0 a/\(Qa a).size=1/\Ris f (zd a) 0 a0.size) (λY Y=>False) (λi lo a Y Y b Y t=>?_) (.inl (rfl,rfl,rfl)) (λlo a z=>?_) (λlo a z=>?_) λY Y Y z=>z.elim)))
 .rcases b with⟨rfl,rfl,rfl⟩|⟨rfl,b⟩
  .show bL (λj=>absurd (show(zd a).size<=0 from j) (!0)) λj=>?_;show zg (B1 (lo:=0) (n:=(zd a).size-0) u g (!0) (!0) λm B m1 m2 b l=>?_);rw[Dd]at l;let fin:∀{c:SortSt}{k:Nat},Sb κ a0 a c->k=a0.size->Ris f (zd c) 0 k->0+k=a0.size/\Sg κ a0 (setPending c ((Qa c).push (0,k,0)))/\(Qa (setPending c ((Qa c).push (0,k,0)))).size=1/\Ris f (zd (setPending c ((Qa c).push (0,k,0)))) 0 a0.size:=λb e l=>(!0,(b.1.1,b.1.2,b.1.3),by
    show((Qa _).push _).size=1;rw[b.2,r];rfl,e▸l)
   show bL (λo=>zg (wpS_lift (KO (rfl,zg (GJ (ok:=m) (n:=min ((zd a).size-0) (minRun' (zd a).size (zd a).size 0)) u b.1 m1 (by let o:m<minRun' (zd a).size (zd a).size 0:=o;lia) (!0) l λc x l=>bL (λz=>absurd z (!2)) λY=>?_))))) λo=>?_
   case' refine_1 =>
    let b:Sb κ a0 a c:=(x.1,x.2.trans b.2)
    let f:=fin b (by rw[q];lia) l
   case' refine_2=>let f:=fin b (by let o:¬m<minRun' (zd a).size (zd a).size 0:=o;rw[q]at o;lia) l
   all_goals
    show zg (Zy ?_);dsimp only;split;rename_i C;let e:=(congrArg Array.back? (b.2.trans r)).symm.trans C;simp at e;show zg (Qv (KF (t.y _ _ (.inr f))))
  show bL (λj=>KF (t.d _ _ b)) λj=>absurd (show(zd st).size<=a0.size by lia) j
 rcases z with⟨e,_⟩|z;let e:max 0 (zd st).size=0:=e;lia;show z.2;let(g,r,D):=z;show zg (Ci (λY Y c=>c=a) (λY c=>c=a) (λY Y=>False) (λi Y c Y Y b Y t=>?_) rfl (λY Y z=>z) (λY c z=>by subst z;show KF (h _ g D)) λY Y Y z=>z.elim);subst b;show zg (Zy (bL (λY=>KF (t.d _ _ rfl)) λF=>absurd (Hs r) F))
end
section
variable{prog:q3}{w:zb}{A:Around}{E:as->ba->Prop}{s:ba}{ks vs:NC}{f:as->Int}
def Fm(prog:q3)(w:zb)(A:Around)(ks:NC)(s:ba)(f:as->Int):Prop :=
 kw (qb prog w) A (keyKind' ks.toArray) (λκ s'=>s'=s/\∀x∈ks,∀y∈ks,∀C:Bool->ba->Prop,(∀b,Ans (f x) (f y) b->C b s)->kw (qb prog w) A (keyLt' κ x y) C (λY Y=>False) s) (λY Y=>False) s
def Ord(f:as->Int)(ks vs:NC)(ts:List zf):Prop:=ts.Perm (ks.zip vs)/\ts.Pairwise λa b=>f a.1<=f b.1
def js{k:Unit×SortSt->Sem LB}{P:LB->ba->Prop}(m:vs.length<64)(hl:ks.length=vs.length)(hok:2<=vs.length->Fm prog w A ks s f)
  (h : ∀(ts:List zf) st,Ord f ks vs ts->(zd st).map (·.2)=(ts.map (·.2)).toArray->failedOf st=none->kw (qb prog w) A (k ((),st)) P E s) :
  let F:=λκ=>((if vs.toArray.size<2 then pure () else sortRuns').run (SortSt.mk' κ (ks.toArray.zip vs.toArray) #[] 7 none)) >>= k
  kw (qb prog w) A (if vs.toArray.size<2 then pure general' >>= F else keyKind' ks.toArray >>= F) P E s:=by
 dsimp only;let hz:(ks.toArray.zip vs.toArray).size=-vs:=by simp;lia
 by_cases h2:2<=-vs;let hn2:¬vs.toArray.size<2:=by rw[IV];lia
 rw[M1 hn2,M1 hn2];show jj (z3 (hok h2) (λκ p d=>?_) λY Y x=>x.elim);let(rfl,b):=d;show jj (z3 (CH (f:=f) (a0:=ks.toArray.zip vs.toArray) (st:=SortSt.mk' κ (ks.toArray.zip vs.toArray) #[] 7 NJ) (Q:=λY a=>Sg κ (ks.toArray.zip vs.toArray) a/\Ris f (zd a) 0 (ks.toArray.zip vs.toArray).size) (λx hx y n C o=>?_) (rfl,Array.Perm.refl _,rfl) rfl (by rw[hz];lia) (by rw[hz];lia) λa g l=>(g,l)) ?_ λY Y e=>e);let mk:∀x∈ks.toArray.zip vs.toArray,x.1∈ks:=λx hx=>by
  rw[<-L2,Mq]at hx;show(Kg hx).1
 show b _ (mk x hx) _ (mk y n) C o;rintro⟨⟨⟩,a⟩ s2 ⟨rfl,g,l⟩;let pm:=Array.perm_iff_toList_perm.mp g.perm;rw[Mq]at pm;show h (zd a).toList a (pm,Ko.mpr λi j hi hj c=>?_) (by rw[<-Array.toList_map,Array.toArray_toList]) g.failed;let:=l i j (Jb _) (JW c) (by rw[<-g.size];show hj);simp only[hh]at hi hj;simpa[rK,gK,hi,hj] using this;let hn2:vs.toArray.size<2:=by rw[IV];lia
 rw[M0 hn2,M0 hn2];show jj (ke (jj (ke (h (ks.zip vs) _ (.refl _,Ko.mpr λi j hi hj c=>?_) (by show(ks.toArray.zip vs.toArray).map _=_;simp) rfl))));simp at hi hj;lia
def wo{a:ap}{n:Nat}{P:LB->ba->Prop}(ho:s.heap.get? a=some (KG "list" vs.toArray n))(k:vs.length<64)
  (hk:2<=vs.length->∀h',(∀b o,b≠a->s.heap.get? b=some o->h'.get? b=some o)->Fm prog w A vs { s with heap:=h' } f)
  (h : ∀(ws:NC) h' c,ws.Perm vs->(∀b o,b≠a->s.heap.get? b=some o->h'.get? b=some o)->h'.get? a=some (KG "list" ws.toArray c)->P (.done (.ret .none)) { s with heap:=h' }) :
  kw (qb prog w) A (Builtin.«list.sort» ([.ref a],[])) P E s:=by
 obtain⟨h3,e3⟩:∃h3,h3=((s.heap.update a (ew λY=>(#[]:Nq))).push (KG "tuple" vs.toArray 0)).push (KG "list" #[] 0):=(_,rfl)
 let g:=Ql ho λY=>(#[]:Nq)
 let keep:∀b o,b≠a->s.heap.get? b=NI o->h3.get? b=NI o:=λb o i e=>by
  rw[e3];show IH _ (IH _ (((dt s.heap a _).2 b i).trans e))
 let d:∃e,h3.get? a=NI (KG "list" #[] e)/\_=e:=(_,by rw[e3];show IH _ (IH _ g),rfl)
 let(e,d,l):=d;rw[list_sort_plain];show jj (ZD ho rfl ?_);show jj (Qg ho rfl ?_ (by rw[IV,z0];lia) (Jb _));show jj (Q5 g rfl ?_);show jj (Zb ?_ (by show -vs<=_;rw[z0];lia));show jj (QM ?_ (Jb _));show zp ?_;rw[l];show kw (qb prog w) A _ P E { s with heap:=((s.heap.update a (ew λY=>(#[]:Nq))).push (KG "tuple" vs.toArray 0)).push (KG "list" #[] 0) };rw[<-e3];dsimp only;show js k rfl (λh2=>hk h2 h3 keep) λts st j ho m=>?_;let j:(ts.map (·.2)).Perm vs:=by let:=j.1.map (·.2);rwa [Kd (IS _)]at this
 dsimp only;rw[ho];show jj (Q5 d rfl ?_);show jj (Qg d rfl ?_ (Jb _) (by rw[IV,j.length_eq,z0];lia));rw[m];simp only[bne_self_eq_false,Jj,if_false];show ke (h _ _ _ j (λb o i e=>((dt _ a _).2 b i).trans (keep b o i e)) (Ql d λY=>(ts.map (·.2)).toArray))
def jq{l:ap}{Q:as->ba->Prop}(hl:GQ prog w A.in1 s l vs)(g:vs.length<64)
  (hk:2<=vs.length->∀h' tk,(∀b o,s.heap.get? b=some o->h'.get? b=some o)->Fm prog w A.in1.in1 vs { s with heap:=h',toks:=tk } f)
  (h : ∀(ws:NC) D h' tk c,ws.Perm vs->(∀b o,s.heap.get? b=some o->h'.get? b=some o)->s.heap.objs.size<=D->h'.get? D=some (KG "list" ws.toArray c)->Q (.ref D) { s with heap:=h',toks:=tk }) :
  kw (qb prog w) A (call (.builtin "sorted") [.ref l]) Q E s:=by show Calls.call_function_entry kind_sorted plain_sorted entry_sorted (args_sorted1 _) ?_;unfold Builtin.«sorted»;show jj (m:=checkCount "sorted" 1 1 _) (ke ?_);show jj (hl λh1 tk kp a=>?_);show jj (QM ?_ (by rw[z0];lia));let d:(h1.push (KG "list" vs.toArray 0)).get? h1.objs.size=NI (KG "list" vs.toArray 0):=IW _ rfl;let i:∀{h'},(∀b o,b≠h1.objs.size->(h1.push (KG "list" vs.toArray 0)).get? b=NI o->Heap.get? h' b=NI o)->∀b o,s.heap.get? b=NI o->h'.get? b=NI o:=λk b o e=>k b o (Jd (IY (IX e) a)) (IH _ (kp b o e));show jj (zp (z4 slot_list_sort (_,d,rfl) entry_list_sort ?bo (args_list_sort _)));show wo (s:={ s with heap:=h1.push (KG "list" vs.toArray 0),toks:=tk }) d g (λh2 h' k=>hk h2 h' tk (i k)) λws h' c j k hD=>(_,rfl,ke (_,rfl,h ws _ h' tk c j (i k) a hD))
end
def rkD:ab->Int
 |.int n=>n
 |.tuple (.int n::_)=>n
 |_=>0
def Fst(h:bd)(v:as)(x:Int):Prop:=(∃t,v=.int x t)\/∃a o n t r,v=.ref a/\h.get? a=NI o/\o.data=.seq #[.int x t,r] n/\o.cls=.type "tuple"
def Fst.one{h:bd}{v:as}{x y:Int}(p:Fst h v x)(q:Fst h v y):x=y:=by
 rcases p with⟨t,rfl⟩|⟨a,o,n,t,r,rfl,e,d,_⟩
 rcases q with⟨u,e⟩|⟨a,o,n,t,r,e,_⟩
 cases e;rfl;cases e
 .rcases q with⟨u,e⟩|⟨a,o',n,t,r,e1,e2,d2,_⟩
  cases e
  .cbv;cases e1;rw[e]at e2;cases e2;rw[d]at d2;cases d2
   w_up;rfl
def rkV(h:bd)(v:as):Int:=open Classical in if z:∃x,Fst h v x then z.choose else 0
def jx{h:bd}{v:as}{x:Int}(p:Fst h v x):rkV h v=x:=by unfold rkV;rw[dif_pos (x,p)];show(Exists.choose_spec ((x,p):∃x,Fst h v x)).one p
section
variable{X:Cx}{K:ca}{KP:ab->Prop}{N:ap->Prop}{pins:Nd}{σ:St}{H:Hp}{s:ba}
def vW(X:Cx)(KP:ab->Prop):Prop:=∀{A:Around}{pins:Nd}{σ:St}{H:Hp}{s:ba}{kv:NH}{kd:Nz}{ks:NC},A.units+64<KD->Inv X pins σ H s->DVs X.K H kv kd->aH kv ks->(∀d∈kd,KP d)->∃f,ks.map f=kd.map rkD/\(2<=-ks->Fm X.prog X.w A ks s f)
def xx:vW X D9:=λ{A pins σ H s kv kd ks} g I q r k=>(λY=>0,by
 let:=-r;let:=BG q;rw[r0,show kd.map rkD=kd.map λY=>0 from Kp λd hd=>by let(n,rfl):=k d hd;rfl,r0]
 congr 1
 lia,λh2=>by
 let k:=pO I q r k;show kas_kind (T:=.type "list") h2 (λv hv=>?_) (!2) (by rfl) (rfl,λx hx y e C hc=>?_);let(l,a,rfl,(o,ho,hc,_),_):=k v hv;show hc▸(Looks.ld ho).andThen .now;let(l,a,rfl,i1,i2):=k x hx;let(b,c,rfl,f,j2):=k y e;rw[keyLt'_oneType];show rL i1 f i2 j2 (!0) λb=>hc b (λY=>Jo _,λY=>Jo _))
def yT{f:as->Int}{kv:NH}{ks:NC}(r:aH kv ks):∀{kd:Nz},DVs X.K H kv kd->(∀v d u,d∈kd->DV X.K H v d->be v u->f u=rkD d)->ks.map f=kd.map rkD:=by
 induction r with
 |nil=>intro kd q _;cases q;rfl
 |cons r t a =>
  intro kd q h;cases q with
  |cons d q=>rw[IU,IU,h _ _ _ IL d r,a q λv d u m=>h v d u (IM _ m)]
def qh:vW X yZ:=λ{A pins σ H s kv kd ks} _ I q r k=>(rkV s.heap,yT r q λv d u m hd rv=>by
 cbv;let(n,rfl):=k d m;cases hd;let(t,rfl):=rv
 w_up;show jx (.inl (t,rfl)),λh2=>by
 let k:=uR I q r k;show kas_kind (T:=.type "int") h2 (λv hv=>?_) (!2) (by rfl) (rfl,λx hx y a C hc=>?_);let(x,t,rfl):=k v hv;show .now;let(x,t,rfl):=k x hx;let(y,u,rfl):=k y a;rw[jx (.inl (t,rfl)),jx (.inl (u,rfl))]at hc;show kat_lt_int (hc _ (λz=>L1 (of_decide_eq_true z),λz=>Int.not_lt.mp (of_decide_eq_false z))))
def Bb{A:Around}{u v:as}{C:Bool->ba->Prop}{E:as->ba->Prop}(F:A.units+64<KD)(g:EM s.heap u)(i:EM s.heap v)(h:∀b,Ans (rkV s.heap u) (rkV s.heap v) b->C b s):kw (qb X.prog X.w) A (keyLt' (tuples' NK) u v) C E s:=by
 let(a,o,n,x,t,l,j,ns,G,rfl,e,c,d,i1,i2,k):=g;let(m,o',p,r,t',l',its',f,y,rfl,e',c',d',B,j2,D):=i;rw[jx (.inr (a,o,n,t,_,rfl,e,d,c)),jx (.inr (m,o',p,t',_,rfl,e',d',c'))]at h;show kat_lt e d e' d' ?_;show kat_cons (QZ ?_);show kat_go (λq=>kat_yes ?_) λY=>kat_no (oneLt_int (h _ (λz=>L1 (of_decide_eq_true z),λz=>Int.not_lt.mp (of_decide_eq_false z))));let q:x=r:=by simpa using q
 let h:∀b,C b s:=λb=>h b (q▸(λY=>Jo _,λY=>Jo _));let:∀ns:Np,(dk (ns.map eb)).depth<=64:=λns=>LN (Fz ns);let:=this ns;let:=Lq (dk (ns.map eb)).depth (dk (f.map eb)).depth;show kat_cons (SeqAt.eqBoolOverData _ _ _ _ _ _ _ _ _ _ _ _ k D (by simp[eg,fS]) (by simp[eg,fS]) (!0) ?_);show kat_go (λY=>kat_yes (kat_nil (h _))) λY=>kat_no (kat_one _ _ (xp i1 B i2 j2 (!0) λb=>h b))
def qg:vW X Bj:=λ{A pins σ H s kv kd ks} g I q r k=>(rkV s.heap,yT r q λv d u m hd rv=>by
 let(n,ns,rfl):=k d m;let(a,xs,rfl,h,q):=hd.tupI;cases (show u=da a from rv)
 cbv;let(i,rv,(o,e,c,m,hd),_):=I.tuple h;let(v1,w,rfl,j,z):=q.twoI;cases j;let(B,us1,rfl,(t,rfl),b):=rv.consI;let(D,us2,rfl,_,f):=b.consI;cases f
 w_up;show jx (.inr (a,o,m,t,_,rfl,e,hd,c)),λh2=>by
 let k:=uK I q r k;let(fs,h1,h3,l):=jE k;show kat_kind (T:=.type "int") h1 (!0) (λv hv=>?_) (by rfl) (rfl,λx hx y p C hc=>Bb g (k x hx) (k y p) hc);let(x,t,rfl):=l v hv;show .now)
def yc(hK:X.K=K)(hg:vW X KP)(w:X.A.units+80<KD):cZ X (.builtin "sorted") (λxs H Q=>∃(p:ap) (vs:NH) (ds:Nz) (N:ap->Prop),xs=[.ref p]/\SqL K H p vs/\DNs K N H vs ds/\(∀d∈ds,KP d)/\vs.length<64 /\
  ∀vs' es,es.Perm ds->DNs K N H vs' es->∀q,H q=NJ->Q (.ref q) (upd H q (.lst vs'))):=by
 subst hK;intro pins s σ H xs us Q I r h;let(p,vs,ds,N,rfl,hs,hd,hk,j,l):=h;let(u,rfl,m):=fw r;cases (show u=da p from m);let(n,rv,a,_):=I.list hs;let hl:=-rv;obtain⟨f,_⟩:∃f:as->Int,f=λY=>0:=(_,rfl)
 show jq (f:=λY=>0) (mL a.isList (!0)) (!0) (λh2 h' tk k=>?_) λws D h' tk c a k hD e=>?_;let(f,_,h):=hg (A:=X.A.in1.in1) (by simp[Around.in1]at *;lia) (I.kept (t':=tk) k) hd.dv rv hk;show z3 (h h2) (λκ s' q=>(q.1,λx hx y t C v=>q.2 x hx y t C λb Y=>v b (λY=>Jo _,λY=>Jo _))) λY Y z=>z;let(vs',es,r',g,i):=wR rv hd a;show(.ref D,_,I.laid (t':=tk) (o:=.lst vs') k hD (by let:=g.len;let:=i.length_eq;let:=hd.len;rw[z0];lia,ws,c,r',e),rfl,l vs' es i g _ (I.hok.fresh hD))
def Gu(KP:ab->Prop)(t:DA):DE:=λenv R=>t env λss a=>∃s ds,ss=[s]/\aC a s=NI (.list ds)/\(∀d∈ds,KP d)/\ds.length<64/\∀es:Nz,es.Perm ds->R (.ow es) a
variable{e:bb}{p pos:Pos}{tl:DA}
def CY(hg:vW X KP)(hK:X.K=K)(i:X.A.units+80<KD)(c:Gl X "sorted")(j:X.mg "sorted" = none)(k:PA X [e] (upA K tl))(l:kq [e] X.env=[(false,eval e X.env)]:=by rfl):PE X (.Call (.Name "sorted" p) [e] [] pos) (up K (Gu KP tl)) :=
 (gX (yc (K:=K) hK hg i) c j boot_sorted k (!2) (!2) l rfl).imp λσ H Q h=>by
 let(M,P,H0,σ0,env,ts,R,d,ht,m):=h;show(M,P,H0,σ0,env,ts,_,d,ht,λss g vs H1 h1 hl b=>?_)
 cbv;let(s,ds,rfl,e1,hk,f,n):=h1;let(v,rfl):=sB hl;let(a,us,rfl,sq,q):=(b.view (v:=v) (!1) e1).list
 w_up;show(a,us,ds,_,rfl,sq,q,hk,by rw[q.len];show f,λu es o r w t=>m _ _ _ _ (n es o) (b.resOw t r))
end
section
variable{X:Cx}{KP:ab->Prop}{pins:Nd}{σ:St}{H0:Hp}{f:as}{vs:NC}{rs:Np}{A:Around}{E:as->ba->Prop}{a kS:ap}{s:ba}
structure zG(KP:ab->Prop)(X:Cx)(pins:Nd)(σ:St)(H0:Hp)(a kS:ap)(e1:Nat)(ks:NC)(qs:Np)(s:ba):Prop where
 ex : ∃H kv kd c,Inv X pins σ H s/\aS H0 H/\aH kv ks/\DNs X.K N0 H kv kd/\(∀d∈kd,KP d)/\kd.map rkD=qs/\hV X pins H a/\hV X pins H kS/\s.heap.get? kS=some (KG "list" ks.toArray c)
 la : s.heap.get? a=some (KG "list" #[] e1)
def Cb(KP:ab->Prop)(X:Cx)(pins:Nd)(σ:St)(H0:Hp)(A:Around)(f:as)(x:as)(q:Int):Prop:=∀H s,Inv X pins σ H s->aS H0 H->kw (qb X.prog X.w) A (call f [x]) (λr s2=>∃d,(KP d/\rkD d=q)/\vP X pins σ H s d r s2) (λY Y=>False) s
def wn{e1:Nat}(ne:a≠kS){body:as->PUnit->Sem (ForInStep PUnit)}
  (N:∀x ks e (s:ba) (C:as->ba->Prop),np ks<64->kw (qb X.prog X.w) A (call f [x]) (λk s1=>s1.heap.get? kS=some (KG "list" (rj ks) e)/\C k s1) (λY Y=>False) s ->
   kw (qb X.prog X.w) A (body x ⟨⟩) (λr s'=>r=.yield ⟨⟩/\∃k s1 c,C k s1/\s'={ s1 with heap:=s1.heap.update kS (ew (·.push k)) }/\s'.heap.get? kS=some (KG "list" (rj (ks++[k])) c)) E s)
  {l : NC} (r:List (as×Int)) (O:l=r.map (·.1)):∀(ks:NC) (qs:Np) (s:ba),(∀p∈r,Cb KP X pins σ H0 A f p.1 p.2)->ks.length+r.length<64->zG KP X pins σ H0 a kS e1 ks qs s ->
   kw (qb X.prog X.w) A (forIn l PUnit.unit body) (λY s'=>∃ks,zG KP X pins σ H0 a kS e1 ks (qs++r.map (·.2)) s') E s:=by
 subst O
 induction r with
 |nil =>
  intro ks qs s _ _ h;rw[J5,Kl,J5,Jh];show ke (ks,h)
 |cons x r P =>
  intro ks qs s G hl h;rw[Jf]at hl;rw[IU,Kr];let((H,kv,kd,c,I,J,rv,dn,hk,rfl,fa,fk,K),la):=h;show jj (z3 (N x.1 ks c s (λk s1=>∃d,(KP d/\rkD d=x.2)/\vP X pins σ H s d k s1) (!0) (z3 (G x IL H s I J) (λk s1 i=>?_) λY Y z=>z)) (λq s' Q=>?_) λY Y z=>z);let(d,j,H',v,L,g,m,n,kp):=id i;show((kp kS _ fk K).1,i);let(rfl,k,s1,c2,(d,(j,B),H',v,L,g,m,n,kp),es,D):=Q;subst es;let t:=uX fk (kp kS _ fk K).2;let F:=uX fa (kp a _ fa la).2;let M:=dt s1.heap kS (ew (·.push k));let R:=L.turnedN (t':=s1.toks) (fp:=[kS]) (h':=s1.heap.update kS (ew (·.push k))) (λb hb'=>by rw[IG.mp hb'];show t) λb o hb' e=>(M.2 b (λz=>hb' (by simp[z]))).trans e;show kw (qb X.prog X.w) A (forIn (r.map (·.1)) PUnit.unit body) _ E _;let:=P (ks++[k]) ((kd++[d]).map rkD) { s1 with heap:=s1.heap.update kS (ew (·.push k)) } (λy S=>G y (IM _ S)) (by rw[Jg,JD];lia) ((H',kv++[v],kd++[d],c2,R,J.trans g,sI rv m,(dn.keep (aO.same g)).app (.cons n .nil),λe u=>?_,rfl,F,t,D),(M.2 a ne).trans (kp a _ fa la).1);rwa [Jm,IU,J5,B,JE,List.singleton_append]at this;rcases II.mp u with u|u;show hk e u;rw[IG.mp u];show j
def Fl(vs:NC)(rs:Np)(us:List (as×Int)):Prop:=us.Perm (vs.zip rs)/\us.Pairwise λa b=>a.2<=b.2
def Ord.ranks{g:as->Int}{ks:NC}{ts:List zf}(h:Ord g ks vs ts)(hl:-ks=-vs):Fl vs (ks.map g) (ts.map λt=>(t.2,g t.1)):=by show((h.1.map _).trans (List.Perm.of_eq (JJ (by simp;lia) λi h1 h2=>!1)),Kk.mpr h.2)
def sU{n:Nat}{P:LB->ba->Prop}(hg:vW X KP)(O:A.units+64<KD)(I:Inv X pins σ H0 s)(fa:hV X pins H0 a)(ho:s.heap.get? a=NI (KG "list" vs.toArray n))(v:-vs<64)(y:-rs=-vs)
  (call:∀p∈vs.zip rs,Cb KP X pins σ H0 A f p.1 p.2)
  (h : ∀(us:List (as×Int)) H s' c,Fl vs rs us->Inv X pins σ H s'->aS H0 H->hV X pins H a->s'.heap.get? a=NI (KG "list" (us.map (·.1)).toArray c)->P (.done (.ret .none)) s') :
  kw (qb X.prog X.w) A (ksk_tree a f NL) P E s:=by
 cbv;obtain⟨h3,e3⟩:∃h3,h3=((s.heap.update a (ew λY=>(#[]:Nq))).push (KG "tuple" vs.toArray 0)).push (KG "list" #[] 0):=(_,rfl)
 obtain⟨kS,B⟩:∃kS,kS=((s.heap.update a (ew λY=>(#[]:Nq))).push (KG "tuple" vs.toArray 0)).objs.size:=(_,rfl)
 let j:=Ql ho λY=>(#[]:Nq)
 obtain⟨e1,D,Q⟩:∃e,h3.get? a=NI (KG "list" #[] e)/\_=e:=(_,by rw[e3];show IH _ (IH _ j),rfl)
 w_up;let R:h3.get? kS=NI (KG "list" (rj []) 0):=by rw[e3,B];show IW _ rfl
 let hsz:kS=(~~~s)+1:=by rw[B,size_push',Mx]
 let l:a≠kS:=by rw[hsz];show Jd (Hh (IX ho))
 let S:=I.turnedN (t':=s.toks) (fp:=[a]) (h':=h3) (λb d=>by rw[IG.mp d];show fa) λb o d e=>by
  rw[e3];show IH _ (IH _ (((dt s.heap a _).2 b (λz=>d (by simp[z]))).trans e))
 let hv:vs=(vs.zip rs).map (·.1):=(Mw (!0)).symm;unfold ksk_tree;show jj (ZD ho rfl ?_);show jj (Qg ho rfl ?_ (by rw[IV,z0];lia) (Jb _));show jj (Q5 j rfl ?_);show jj (Zb ?_ (by show -vs<=_;rw[z0];lia));show jj (QM ?_ (Jb _));show zp ?_;rw[Q];show kw (qb X.prog X.w) A (ksk_rest a f NL vs.toArray e1 (.ref ((s.heap.update a (ew λY=>(#[]:Nq))).push (KG "tuple" vs.toArray 0)).objs.size)) P E { s with heap:=((s.heap.update a (ew λY=>(#[]:Nq))).push (KG "tuple" vs.toArray 0)).push (KG "list" #[] 0) };rw[<-e3,<-B];unfold ksk_rest;show jj (KO ?_);rw[List.forIn_toArray];show jj (z3 (wn (f:=f) (A:=A) (e1:=e1) l (λx ks e s' C hz hx=>?_) (vs.zip rs) hv [] [] _ call (by simp;lia) ((H0,[],[],0,S,aS.refl _,.nil,.nil,!1,rfl,fa,I.fpOk (!0) (I.hok.fresh (!0)),R),D)) (λY s' hd=>?_) λY Y x=>x);show jj (Qf (z3 hx (λk F hk=>?_) λY Y hF=>hF.elim));let e:=Ql hk.1 (·.push k);rw[show(rj ks).push k=rj (ks++[k]) by simp]at e;dsimp only;show jj (Qg hk.1 rfl (ke (rfl,k,F,_,hk.2,rfl,e)) (by rw[IV,z0];lia) (by rw[Array.size_push,IV,z0];lia));let(ks,((H,kv,kd,c,M,T,rv,dn,hk,G,m,J,q),la)):=hd;rw[Kt,Kd (!0)]at G;let(g,r,K):=hg O M dn.dv rv hk;let hl:-ks=-vs:=by rw[<-y,<-G,<-r,IF]
 show jj (ZD q rfl ?_);unfold ksk_end;simp only[Jj,if_false];show js v hl (λh2=>K (!0)) λts st t u U=>?_;let t:=t.ranks hl;rw[r,G]at t;let L:=t.1.length_eq;simp at L;let N:=dt s'.heap kS (ew λY=>(#[]:Nq));let i:=(N.2 a l).trans la;unfold ksk_tail;dsimp only;rw[u];show jj (Qg q rfl ?_ (by rw[IV,z0];lia) (Jb _));show jj (K9 ?_);show jj (Q5 i rfl ?_);simp only[Jj,if_false];show jj (Qg i rfl ?_ (Jb _) (by rw[IV,IF,z0];lia));rw[U];simp only[bne_self_eq_false,Jj,if_false];show ke (h _ H _ _ t (M.turnedN (t':=s'.toks) (fp:=[kS,a]) (λb d=>?_) λb o d e=>?_) T m (by rw[Jq];show Ql i λY=>(ts.map (·.2)).toArray));rcases IR.mp d with rfl|d;show J;rw[IG.mp d];show m;simp only[IR,Jk,or_false,not_or]at d;show((dt _ a _).2 b d.2).trans ((N.2 b d.1).trans e)
def nu{f l:ap}{Q:as->ba->Prop}(hg:vW X KP)(r:A.units+80<KD)(I:Inv X pins σ H0 s)(hl:GQ X.prog X.w A.in1 s l vs)(i:-vs<64)(j:-rs=-vs)
  (call:∀p∈vs.zip rs,Cb KP X pins σ H0 A.in1.in1 (.ref f) p.1 p.2)
  (h : ∀(us:List (as×Int)) H s' D c,Fl vs rs us->Inv X pins σ H s'->aS H0 H->hV X pins H D->s'.heap.get? D=NI (KG "list" (us.map (·.1)).toArray c)->Q (.ref D) s') :
  kw (qb X.prog X.w) A (Lm (.builtin "sorted") [.ref l] [(cq "key",.ref f)]) Q E s:=by show call_function_entry_kw kind_sorted plain_sorted entry_sorted (ksk_s1 _ _) ?_;unfold Builtin.«sorted»;show jj (m:=checkCount "sorted" 1 1 _) (ke ?_);show jj (hl λh1 tk kp a=>?_);show jj (QM ?_ (by rw[z0];lia));let d:(h1.push (KG "list" vs.toArray 0)).get? h1.objs.size=NI (KG "list" vs.toArray 0):=IW _ rfl;show jj (zp (wpAny_call_entry_kw slot_list_sort (_,d,rfl) entry_list_sort ?bo (ksk_l1 _ _)));show kw (qb X.prog X.w) A.in1.in1 (Builtin.«list.sort» ([.ref h1.objs.size],[(cq "key",.ref f)])) _ _ _;rw[ksk_t1];show sU hg (by simp[Around.in1]at *;lia) (I.kept (t':=tk) λb o e=>IH _ (kp b o e)) (I.fpOk a (I.hok.fresh a)) d i j call λws H s' c k n q fp g=>(_,rfl,ke (_,rfl,h ws H s' _ c k n q fp g))
def AS{K:ca}{N:ap->Prop}{H:Hp}{vs:NH}{ds:Nz}{c:NC}{R:ab->Int}{us:List (as×Int)}(rv:aH vs c)(q:DNs K N H vs ds)(d:Fl c (ds.map R) us):∃vs' es,aH vs' (us.map (·.1))/\DNs K N H vs' es/\es.Perm ds/\es.Pairwise λa b=>R a<=R b:=by
 let hl:=-rv;let hd:=q.len;let(d,e):=d;let(t,pt,rfl):=cA (f:=λx:as×V×ab=>(x.1,R x.2.2)) d (c.zip (vs.zip ds)) (JJ (by simp;lia) λi h1 h2=>!1);let hz:(t.map (·.2)).Perm (vs.zip ds):=by let:=pt.map (·.2);rwa [Kd (by simp;lia)]at this
 show((t.map (·.2)).map (·.1),(t.map (·.2)).map (·.2),?_,oV λz h=>oU q z (hz.mem_iff.mp h),?_,?_);rw[Jq,Jq];show nh λx hx=>jM rv x (pt.mem_iff.mp hx);let:=hz.map (·.2);rwa [Kd (!0)]at this;let e:=Kk.mp e;rw[Jq];show Kk.mpr e
def xU{K:ca}{N:ap->Prop}{H:Hp}{vs:NH}{ds:Nz}{a:NC}(q:DNs K N H vs ds)(r:aH vs a){R:ab->Int}:∀p∈a.zip (ds.map R),∃v d,be v p.1/\DN K N H v d/\d∈ds/\R d=p.2:=by
 induction r generalizing ds with
 |nil=>intro p h;simp at h
 |cons r t b =>
  cases q with
  |cons d q =>
   intro p h;rw[IU,vi]at h;rcases IR.mp h with rfl|h;show(_,_,r,d,IL,rfl);let(v,d,h1,h2,h3,c):=b q p h;show(v,d,h1,h2,IM _ h3,c)
end
section
variable{X:Cx}{K:ca}{e:bb}{t:TA}{q0 pos kpos lpos:Pos}{params:QK}{scope:KL}{body:bb}{p x:bx}{i:Nat}{tb:DE}{KP:ab->Prop}{KR:St->Hp->ab->Int->Prop}
def HC(K:ca)(KR:St->Hp->ab->Int->Prop)(t:TA):TE:=λσ H Q=>t σ H λxs H1=>∃(q:ap) (vs:NH) (N:ap->Prop) (ds:Nz) (R:ab->Int),xs=[.ref q]/\SqL K H1 q vs/\DNs K N H1 vs ds/\(∀d∈ds,KR σ H1 d (R d))/\vs.length<64 /\
 ∀vs' es c,aS H1 c->es.Perm ds->(es.Pairwise λa b=>R a<=R b)->DNs K N c vs' es->∀q,c q=NJ->Q (.ref q) (upd c q (.lst vs'))
def yO(hK:X.K=K)(hG:vW X KP)(L:ym X)(hr:b9 4 X.A)(hg:Gl X "sorted")(hm:X.mg "sorted" = NJ)(ha:PA X [e] t)(x:Zi params X.env=([],[]))
  (J:∀{pins:Nd}{s:ba}{σ:St}{H:Hp},Inv X pins σ H s->∃clos,Qc scope X.env=pure clos)
  (M:∀{σ:St}{H H':Hp}{d:ab}{n:Int},KR σ H d n->aS H H'->KR σ H' d n)
  (j:∀{pins:Nd}{s:ba}{σ:St}{H:Hp}{clos:Ng}{f c':ap}{pm ctv u:as}{v:V}{d:ab}{n:Int},Inv X pins σ H s->Qc scope X.env=pure clos->s.heap.get? f=NI (QT "<lambda>" (X.env.qual ++ "<lambda>") params body scope clos pm c' ctv)->s.heap.CodeRec (.ref c') (X.env.qual ++ "<lambda>") ->
   be v u->DN X.K N0 H v d->KR σ H d n->KM (qb X.prog X.w) X.A.in1.in1 (.call (.ref f) ([u],[])) (CR CX0 X.stack X.prog X.w H s (GM (λk=>KP k/\rkD k=n) X H) E0) s)
  (B:ze pos (kq [e] X.env)=(NL,eval e X.env)::ze pos (kq [] X.env)) :
  PE X (.Call (.Name "sorted" q0) [e] [(NI "key",.Lambda params body scope lpos,kpos)] pos) (HC K KR t):=by
 subst hK;intro pins s σ H Q I h;let(clos,hc):=J I;show KZ (fR I hg hm boot_sorted ?_ (!2) (!2));show callWith_kw (thn (ha pos pins s σ H _ I h) λus s1 O=>?_) B (by rw[B];rfl) rfl rfl;let(xs,H1,I1,r,q):=O;show kw _ _ (evalAll [(do let v <-eval (.Lambda params body scope lpos) X.env;K2 pos;pure v)]) _ _ s1;show wpAny_evalAll_cons (jj (uI I1 L hc x λf c' pm ctv s2 U P C E l cz=>jj (Qp (ke (wpAny_evalAll_nil ?_)))));let(p0,vs,N,ds,R,rfl,sq,dn,F,a4,q):=q;let(u,rfl,ru):=fw r;cases (show u=da p0 from ru);let(a5,rv,hp,_):=P.list (C.seq sq);let W:=-rv;let a6:=dn.len;generalize i:QT "<lambda>" (X.env.qual ++ "<lambda>") params body scope clos pm c' ctv=fo at E;let I3:Inv X ((f,fo)::pins) σ U s2:=P.pins_of λz hz=>by
  rcases IR.mp hz with rfl|hz;show(E,l.1,l.2.1,l.2.2.1,λv=>by rw[<-i];exactλz=>by cases z);show P.pin z (IE _ hz)
 let S:DNs X.K N0 U vs ds:=(dn.keep (aO.same C)).to λb _ _ z=>z.elim;show nu (rs:=ds.map R) hG (jw hr) I3 (mL hp.isList (!0)) (!0) (by simp;lia) (λy hy H' s' m g=>?_) λws H' s' D c p m g a gD=>?_
 .cbv;let(v,d,rx,dx,md,er):=xU S rv y hy;let Y:=(m.pin (f,fo) (IE _ IL)).1;rw[<-i]at Y;let(oc,u,ws,t,e1,e2,e3):=cz;let(T,_):=m.hok c' _ (g _ _ e1)
  w_up;rw[<-er];show Zd (Qw (j m hc Y (_,_,_,_,rfl,T,e2,e3) rx (dx.keep (aO.same g)) (M (F d md) (C.trans g))) λres s' hq=>by
   let(z,rfl,h):=xz m hq;show h)
 let I4:Inv X pins σ H' s':=m.pins_of λz hz=>m.pin z (IE _ (IM _ hz));let G:hV X pins H' D:=(a.1,a.2.1,a.2.2.1,a.2.2.2.1,a.2.2.2.2.1,λz hz=>a.2.2.2.2.2 z (by
  rcases II.mp hz with hz|hz;show IJ _ hz;show IE _ (IM _ hz)))
 let(vs',es,r',Z,pe,so):=AS rv (dn.keep (aO.same (C.trans g))) p;show(.ref D,_,I4.track (o:=.lst vs') G (by let:=Z.len;let:=pe.length_eq;rw[z0];lia,_,c,r',gD),rfl,q vs' es _ (C.trans g) pe so Z _ a.1)
variable{tl:DA}
def Bc(KP:ab->Prop)(tb:DE)(n:Int)(es:Nz):Prop:=D2 (λk=>KP k/\rkD k=n) tb es
def Gw(KP:ab->Prop)(tb:DE)(t:DA):DE:=λenv R=>t env λss c=>∃s ds,ss=[s]/\aC c s=NI (.list ds)/\ds.length<64/\∃r:ab->Int,(∀d∈ds,Bc KP tb (r d) [d])/\∀es:Nz,es.Perm ds->(es.Pairwise λa b=>r a<=r b)->R (.ow es) c
def Gv(KP:ab->Prop)(tb:DE)(i:Nat)(t:DA):DE:=λenv R=>t env λss a=>∃s ds b,ss=[s]/\aC a s=NI (.list ds)/\a[i]?=NI (.fr b)/\ds.length<64/\(∀d∈ds,Bc KP tb 0 [d,b])/\∀es:Nz,es.Perm ds->R (.ow es) a
def CZ(z:vW X KP)(hK:X.K=K)(L:ym X)(x:b9 4 X.A)(hg:Gl X "sorted")(B:X.mg "sorted" = none)(C:PA X [e] (upA K tl))(S:ak [p] [p] scope)
  (D:∀(qual:bx) (pm c ctv u:as),Qj (kla_fn "<lambda>" qual params body scope [] pm c ctv) ([u],[])=pure [(p,u)])
  (i:Qc scope X.env=pure []) (j:Zi params X.env=([],[]))
  (g:∀(A:Around) (s:ba) (H:Hp) (f:ap) (cd:as),PE (sC CX0 X.prog X.w X.K X.mg X.base [p] (X.env.qual ++ "<lambda>") scope f cd A X.stack s H E0) body (up X.K tb))
  (l:ze pos (kq [e] X.env)=(false,eval e X.env)::ze pos (kq [] X.env):=by rfl) :
  PE X (.Call (.Name "sorted" q0) [e] [(some "key",.Lambda params body scope lpos,kpos)] pos) (up K (Gw KP tb tl)) :=
 (yO (KR:=λY Y d n=>Bc KP tb n [d]) hK z L x hg B C j (λY=>([],i)) (λh Y=>h) (λI hc ho m r hd hk=>by
  rw[i]at hc;cases hc;show A8 (k:=1) (CX:=CX0) (E:=E0) (ps:=[p]) S x.in1.in1 I.env0.in1.in1 ho m (D _ _ _ _ _) (.cons r .nil) rfl (g _ _ _ _ _) (uM (.cons hd .nil) hk)) l).imp λσ H Q h=>by
 let(M,P,H0,σ0,env,ts,R,o,ht,F):=h;show(M,P,H0,σ0,env,ts,_,o,ht,λss y vs H1 h1 hl b=>?_)
 cbv;let(s,ds,rfl,e1,t,rk,hk,G):=h1;let(v,rfl):=sB hl;let(a,us,rfl,sq,q):=(b.view (v:=v) (!1) e1).list
 w_up;show(a,us,_,ds,rk,rfl,sq,q,hk,by rw[q.len];show t,λvs' es V J N O T W U=>F _ _ _ _ (G es N O) ((b.same J).resOw U T))
def FN(i:Nat)(hG:vW X KP)(hK:X.K=K)(L:ym X)(hr:b9 4 X.A)(hg:Gl X "sorted")(hm:X.mg "sorted" = none)(ha:PA X [e] (upA K tl))(S:kM p x scope)
  (hN:X.N[i]?=some x) (hv:Vis X.env.scope x) (l:X.env.kindOf x=some .cell\/X.env.kindOf x=some .free) (T:X.env.kindOf x≠some .local)
  (hb:∀(qual:bx) (cl:Ng) (pm c ctv u:as),Qj (kla_fn "<lambda>" qual params body scope cl pm c ctv) ([u],[])=pure [(p,u)])
  (D:∀c,X.env.cells.lookup x=some c->Qc scope X.env=pure [(x,c)]) (F:Zi params X.env=([],[]))
  (o:∀(A:Around) (s:ba) (H:Hp) (f:ap) (cd:as) (c:ap),b9 1 (A.deeper (envX (X.env.qual ++ "<lambda>") scope s.heap.objs.size f cd [(x,c)]))->PE (zn CX0 X.prog X.w X.K X.mg X.base [p,x] (X.env.qual ++ "<lambda>") scope f cd [(x,c)] A X.stack s H E0) body (up X.K tb))
  (U:ze pos (kq [e] X.env)=(false,eval e X.env)::ze pos (kq [] X.env):=by rfl) :
  PE X (.Call (.Name "sorted" q0) [e] [(some "key",.Lambda params body scope lpos,kpos)] pos) (up K (Gv KP tb i tl)) :=
 (yO (KR:=λσ H d n=>∃v0 t,σ[i]?=NI (NI v0)/\DN K N0 H v0 t/\Bc KP tb n [d,t]) hK hG L hr hg hm ha F (λI=>let ⟨c,hc⟩:=I.ok.has x l;(_,D c hc)) (λ⟨v0,t,V,dn,hk⟩ W=>(v0,t,V,dn.keep (aO.same W),hk)) (λ{pins s σ H clos f c' pm ctv u v d n} I hc ho Y r hd hk=>by
  cbv;subst hK;let(c,y):=I.ok.has x l;rw[D c y]at hc;cases hc;let(v0,t,Z,B,hk):=hk;let(m,b1,G):=I.loc;let(u0,a4,C):=G i x v0 hN Z hv
  w_up;let j:s.heap.IsCell c (NI u0):=by
   rcases C with⟨z,_⟩|⟨_,c2,J,ic⟩
   show absurd z T;rw[y]at J;cases J;show ic
  let O:b9 2 X.A.in1.in1:=hr.in1.in1;show xw (k:=1) (CX:=CX0) (E:=E0) S O I.env0.in1.in1 ho Y (hb _ _ _ _ _ _) j a4 (I.freeC x c y) r (o _ _ _ _ _ _ (O.deeper _)) (uM (.cons hd (.cons B .nil)) hk)) U).imp λσ H Q h=>by
 let(M,P,H0,σ0,env,ts,R,a5,ht,hq):=h;show(M,P,H0,σ0,env,ts,_,a5,ht,λss b0 vs H1 h1 hl g=>?_)
 cbv;let(s,ds,t,rfl,e1,V,a6,hk,hR):=h1;let(v,rfl):=sB hl;let(a,us,rfl,sq,q):=(g.view (v:=v) (!1) e1).list;let(x0,ex,m0):=g.slot V;let(v0,a7,B):=g.e.fr _ _ m0
 w_up;show(a,us,_,ds,λ_=>0,rfl,sq,q,λd hd=>(v0,t,by rw[ex,a7],B.to λb _ _ z=>z.elim,hk d hd),by rw[q.len];show a6,λvs' es H2 W pe _ qe p' hp=>hq _ _ _ _ (hR es pe) ((g.same W).resOw hp qe))
end
section
variable{X:Cx}{pins:Nd}{σ:St}{H:Hp}{s:ba}{a:ap}{x:bx}{v:V}
def BJ(I:Inv X pins σ H s){kvs:List (Key×V)}(e:H a=NI (.dK kvs)):(a==cf)=NL/\∃vs,KV kvs vs/\s.heap.DictOf (cR X.prog X.w) a vs:=(show dB X.prog X.w H s.heap a (.dK kvs) from I.hok a _ e).2
def u6(I:Inv X pins σ H s)(e:H a=NI (.dK [(.inr x,v)])):(a==cf)=NL/\∃u,be v u/\s.heap.DictOf (cR X.prog X.w) a [(.inr x,u)]:=by
 let(y,vs,r,dd):=BJ I e;cases r with
 |@cons p q _ _ h t =>
  cbv;cases t;let(b,c):=q;let(h1,h2):=h
  w_up;cases (show b=o2 x from h1.symm);show(y,c,h2,dd)
def sK(x k:bx)(u:as):valueAt [((o2 x:Key),u)] (o2 k)=if x=k then NI u else NJ:=by by_cases h:x=k <;> simp[valueAt,h]
end
section
variable{X:Cx}
def CP:R2:=λx y H Q=>∃(k nm:bx) (a:ap) (v:V),x=.str k/\y=.ref a/\H a=NI (.dK [(.inr nm,v)])/\Q (.bl (!decide (nm=k))) H
def AT:OpR X (q4 .NotIn) CP:=by intro pins s σ H x y v u Q I b c h;let(k,nm,a,w,rfl,rfl,d,q):=h;cases (show u=da a from c);let(t,rfl):=b;let(y,u,e,dd):=u6 I d;show wpAny_notIn_of (knd:=cR X.prog X.w) (dz _ _ k t) y dd.mapOf ?_;rw[sK];show(.bl _,H,I.tok _,?_,q);by_cases h:nm=k <;> simp[h,be]
def G9:R2:=λx y H Q=>∃(k:bx) (a:ap),x=.str k/\y=.ref a/\H a=NI (.dK [])/\Q (.bl NL) H
def Dx:OpR X (q4 .In) G9:=by
 intro pins s σ H x y v u Q I b c h;let(k,a,rfl,rfl,d,q):=h;cases (show u=da a from c)
 cbv;let(t,rfl):=b;let(y,vs,r,dd):=BJ I d;cases r
 w_up;show wpAny_in_of (knd:=cR X.prog X.w) (dz _ _ k t) y dd.mapOf (.bl _,H,I.tok _,rfl,q)
def G8:R2:=λx y H Q=>∃(nm:bx) (a:ap) (v:V),x=.ref a/\y=.str nm/\H a=NI (.dK [(.inr nm,v)])/\Q v H
def Ik:IxR X G8:=by
 intro value slice pins s σ H x y v u Q I e f h hs;let(nm,a,w,rfl,rfl,g,q):=h;cases (show v=da a from e);let(t,rfl):=f;let(y,u,i,dd):=u6 I g;let c:=dd.mapOf;let d:=c.typeIs;unfold QN;show jj ?_;rw[getitemInPython_of_ne d.not_modules];show jj (K0 d Lj.lookup ?_);let fin:kw (qb X.prog X.w) X.A (Q4 slice NL (.ref a) (.str nm t)) (λr b=>kw (qb X.prog X.w) X.A (letTemporaryGo value (.ref a) r >>= λY=>pure r) (EP X pins σ Q) X.xe b) X.xe s:=by rw[hs];show wpAny_operating (wpAny_getItem_of (knd:=cR X.prog X.w) (dz _ _ nm t) c (by rw[sK,M0 rfl]) ?_);show jj (wpAny_letTemporaryGo (ke (w,H,I.tok _,i,q)))
 first
  |show ke (jj fin)
  |show jj (ke (jj fin))
  |show jj fin
def CN:EJ:=λx y v H Q=>∃(k:bx) (a:ap),x=.ref a/\y=.str k/\H a=NI (.dK [])/\Q (upd H a (.dK [(.inr k,v)]))
def FB:Fk X CN:=by
 intro pins s σ H x y v ov iv u Q I f g rv h;let(k,a,rfl,rfl,d,q):=h;cases (show ov=da a from f)
 cbv;let(t,rfl):=g;let(y,vs,r,dd):=BJ I d;cases r
 w_up;show wpAny_setItem_pairs (hsz:=Jb _) (knd:=cR X.prog X.w) (dz _ _ k t) dd λh' c hs=>?_;let(o,i,ep,h1,h2):=id c;show(_,I.write (x:=a) (e:=a) (by rw[d];show True.intro) (.inl rfl) (λb q j z=>(hs.2 b j).trans z) (_,h1) (show dB X.prog X.w _ h' a (.dK [(.inr k,v)]) from(by show 1<=sizeLine;decide,y,_,.cons (rfl,rv) .nil,c)),q)
def CF:TE:=λY H Q=>∀p,H p=NJ->Q (.ref p) (upd H p (.dK []))
def AL{pos:Pos}:PE X (.Dict [] [] pos) CF:=λpins s σ H Q I h =>
 wpAny_Dict_empty (.ref (~~~s),_,I.laid (a:=(~~~s)) (o:=.dK []) (t':=s.toks) (λY Y q=>IH _ q) (IS _) (Jb _,beq_eq_false_iff_ne.mpr (Ne.symm (Jd I.big')),[],.nil,Heap.DictOf.new s.heap),rfl,h _ (I.hok.fresh (IS _)))
def vA{K:ca}(hK:X.K=K)(hc:X.calm=NK)(L:X.A.units+80<KD):cZ X (.builtin "sorted") (λxs H Q=>∃(p:ap) (nm:bx) (v:V),xs=[.ref p]/\H p=NI (.dK [(.inr nm,v)])/\∀q,H q=NJ->Q (.ref q) (upd H q (.lst [.str nm]))):=by
 intro pins s σ H xs us Q I r h;let(p,nm,v,rfl,n,q):=h;let(u,rfl,B):=fw r;cases (show u=da p from B);let(y,w,C,o,es,ep,h1,h2,h3,M,k,N):=u6 I n;obtain⟨e,m,t,g⟩:∃e,es.toList=[e]/\∃t,e.key=.str nm t:=by
  generalize es.toList=l at k;cases k with
  |cons F O z =>
   cbv;cases z;let(t,g):=L4 (x:=nm) F
   w_up;show(_,rfl,t,g)
 let hl:es.size=1:=by rw[<-hh,m];rfl
 let hk:(es[0]'(!0)).key=.str nm t:=by rw[<-g,<-L3];simp[m]
 show jq (vs:=[.str nm t]) (f:=λY=>0) (λ{E Q} G=>mK (I.ok.hd hc) y h1 h2 h3 (!0) λh' tk b kp j it=>?_) (by show 1<64;decide) (λz=>absurd z (by show ¬2<=1;decide)) λws D h' tk c a kp hD d=>?_;let J:b.toList=[.str nm t]:=by
  show JJ (by rw[hh,it.1,hl];rfl) λi P j2=>?_;let hi:i=0:=by simp at j2;show j2
  subst hi;let(z,e):=it.2 0 b[0] (!1);rw[L3,e];show hk
 rw[J];show G h' tk kp j;rw[List.perm_singleton.mp a]at d;show(.ref D,_,I.laid (t':=tk) (o:=.lst [.str nm]) kp hD (by show 1<=sizeLine;decide,_,c,.cons (t,rfl) .nil,d),rfl,q _ (I.hok.fresh hD))
end
section
variable{K:ca}{N:ap->Prop}{H:Hp}{v:V}{d e:ab}{nm:bx}{C:ap}
def DN.idc_of(h:DN K N H v e)(b:e=qt nm d):∃a u,v=.ref a/\H a=NI (.dK [(.inr nm,u)])/\DN K N H u d:=by
 cases h with
 |fz _=>simp[fzD,qt]at b
 |dct _ _ _ _ _=>show(jI rfl b.symm).elim
 |dsk _ _ _ _ _=>simp[jK,qt]at b
 |idc n h q =>
  simp only[qt,lp,gf,lc,LP,and_true,true_and]at b;let(rfl,rfl):=b;show(_,_,rfl,h,q)
 |_=>cases b
def DN.dsk_of(h:DN K N H v e)(c:e=jK C nm d):∃a b dx u,v=.ref a/\H a=NI (.ins C dx [("towns",.ref b)])/\¬N b/\H b=NI (.dK [(.inr nm,u)])/\DN K N H u d:=by
 cases h with
 |fz _=>simp[fzD,jK]at c
 |dct _ _ _ _ _=>show(jI rfl c.symm).elim
 |idc _ _ _=>simp[jK,qt]at c
 |@dsk a b f dx x u d' n i h g q =>
  simp only[jK,lp,gf,lc,LP,LQ,and_true,true_and]at c;let(j,rfl,rfl):=c;obtain rfl:f=C:=Int.ofNat.inj j;show(_,_,_,_,rfl,h,i,g,q)
 |_=>cases c
theorem Vw.idc_of(h:Vw K N H v (qt nm d)):∃a u,v=.ref a/\H a=NI (.dK [(.inr nm,u)])/\DN K N H u d:=by
 generalize b:qt nm d=e at h;cases h with
 |dn h=>show h.idc_of b.symm
 |ow h q=>cases b
 |dct _ _ _ _=>show(jI rfl b).elim
theorem Vw.dsk_of(h:Vw K N H v (jK C nm d)):∃a b dx u,v=.ref a/\H a=NI (.ins C dx [("towns",.ref b)])/\¬N b/\H b=NI (.dK [(.inr nm,u)])/\DN K N H u d:=by
 generalize c:jK C nm d=e at h;cases h with
 |dn h=>show h.dsk_of c.symm
 |ow h q=>cases c
 |dct _ _ _ _=>show(jI rfl c).elim
def Bq:G2:=λd e R=>∃k nm t,d=.str k/\e=qt nm t/\R (.bool (!decide (nm=k)))
def FV:bq K CP Bq:=by rintro N H x y d e R Q b c ⟨k,nm,t,rfl,rfl,f⟩ g;let(a,u,rfl,h,_):=c.idc_of;show(k,nm,a,u,b.str,rfl,h,g _ _ f (.bl _))
def Gb:G2:=λd e R=>∃nm t,d=qt nm t/\e=.str nm/\R t
def HS:bq K G8 Gb:=by rintro N H x y d e R Q b c ⟨nm,t,rfl,rfl,f⟩ g;let(a,u,rfl,h,dn):=b.idc_of;show(nm,a,u,rfl,c.str,h,g _ _ f dn)
end
section
variable{X:Cx}{K:ca}{C:ap}{e:bb}{te:DE}{tl:DA}{pos apos p:Pos}
def GA(C:ap)(te:DE):DE:=λenv R=>te env λs a=>∃nm t,aC a s=NI (jK C nm t)/\R (.fr (qt nm t)) a
def Ap(hK:X.K=K)(c:Cls K C)(n:cN K C "towns")(j:PE X e (up K te))(f:z5 e "towns" X.env (eval e X.env)=eval e X.env:=by rfl):PE X (.Attribute e "towns" pos) (up K (GA C te)):=by subst hK;show(ue j f).imp λσ H Q h=>?_;let(M,P,H0,σ0,env,ts,R,g,ht,k):=h;show(M,P,H0,σ0,env,ts,_,g,ht,λs1 i v1 H1 h1 d=>?_);let(nm,t,e1,l):=h1;let(a,b,dx,u,rfl,m,nb,f,dn):=(d.view (v:=v1) (!1) e1).dsk_of;show(a,C,dx,_,.ref b,rfl,m,c,n,rfl,k _ _ _ _ l (d.res (aS.refl _) (.idc nb f dn)))
def BN(t:DA):DE:=λenv R=>t env λss a=>∃s nm d,ss=[s]/\aC a s=NI (qt nm d)/\R (.ow [.str nm]) a
def CW(hK:X.K=K)(hc:X.calm=true)(j:X.A.units+80<KD)(c:Gl X "sorted")(k:X.mg "sorted" = none)(l:PA X [e] (upA K tl))(m:kq [e] X.env=[(false,eval e X.env)]:=by rfl):PE X (.Call (.Name "sorted" p) [e] [] pos) (up K (BN tl)) :=
 (gX (vA (K:=K) hK hc j) c k boot_sorted l (!2) (!2) m rfl).imp λσ H Q h=>by
 let(M,P,H0,σ0,env,ts,R,f,ht,n):=h;show(M,P,H0,σ0,env,ts,_,f,ht,λss i vs H1 h1 hl b=>?_)
 cbv;let(s,nm,d,rfl,e1,o):=h1;let(v,rfl):=sB hl;let(a,u,rfl,q,_):=(b.view (v:=v) (!1) e1).idc_of
 w_up;show(a,nm,u,rfl,q,λr g=>n _ _ _ _ o (b.resOw g (.cons (.str _) .nil)))
def sE(P:q3)(w:zb)(K:ca)(mg:bx->Nm)(base:bd)(C:ap)(m:bx)(k:Nat)(sp:Sp):Prop :=
 Cls K C/\∃(f:ap) (fd:kN) (ps:ND),a9 P w K mg base CX0 k f fd ps sp/\cV K fd ps []/\EK K C m f
def vk(C:ap)(sp:DSp)(te:DE)(tl:DA):DE:=λenv R=>te env λb env0=>(∃nm t,aC env0 b=NI (jK C nm t))/\tl env0 λss a=>∃ds,aN a (b::ss)=NI ds/\sp (ds.map .fr) (dK (λr Y=>R r a) ⟨⟩)
def uD{m:bx}{sp:DSp}{t:TA}(x:∀v:V,fx m [(("towns" : bx),v)]=NJ)(hk:∀σ H Q,upA K tl σ H Q->t σ H Q):∀σ H Q,up K (vk C sp te tl) σ H Q->sQ C m (spD K sp) [] E0 (up K te) t σ H Q:=λσ H Q h=>by
 let(M,P,H0,σ0,env,ts,R,j,ht,y):=h;show(M,P,H0,σ0,env,ts,_,j,ht,λl env0 v0 H1 A f=>?_);let((nm,t,B),h1):=A;let(a,b,dx,u,rfl,D,_):=(f.view (v:=v0) (!1) B).dsk_of;show(a,dx,_,rfl,D,x _,hk _ _ _ (M,P,H0,σ0,env0,ts++[(.ref a,l)],_,f,h1,λss d vs s h2 hl c=>?_));let(ds,E,n):=h2;rw[Jh];let c:Rel K M P H0 σ0 σ d (ts++(V.ref a::vs).zip (l::ss)) s:=by simpa using c
 generalize o:V.ref a::vs=us at *;let q:-us=(l::ss).length:=by rw[<-o];simp[hl]
 let i:=c.keptAll q (λp F=>F) E;let G:=fN us ds;show(Nw M (aw σ d ts),ds.map .fr,λr Y=>R r d,by simp[i.len],mZ i λa z hn=>c.drop.newAddr hn z,n,λr I v H' J w g=>y _ _ _ _ J ?_);let k:aS s H':=(g.keep.mono (M:=N0) λb z=>by
  let z:b∈oas (tmp (us.zip (ds.map .fr))):=z;rw[G]at z;cases z).none
 show(c.drop).withRes (c.drop.e.called k (g.resOk w)) w
def jB{m:bx}{k:Nat}{sp:DSp}{o:bb}{es:NF}{pl:Sem Bool}(G:sE X.prog X.w X.K X.mg X.base C m k (spD K sp))(hK:X.K=K)(g:b9 k X.A)(ho:PE X o (up K te))(h:PA X (e::es) (upA K tl))(hn:(m==("towns" : bx))=false:=by decide)
  (a:kq (e::es) X.env=(false,eval e X.env)::kq es X.env:=by rfl) (d:(ze pos (kq es X.env)).any (·.1)=false:=by rfl)
  (ht:eval (.Call (.Attribute o m apos) (e::es) [] pos) X.env=(do
   let ov <-eval o X.env
   K2 apos.atName
   let (f,first) <-KI [ov] (Qu ov m pl)
   Zj pos f first (ze pos (kq (e::es) X.env)) (KU pos (KA [] X.env))):=by rfl) :
  PE X (.Call (.Attribute o m apos) (e::es) [] pos) (up K (vk C sp te tl)):=by subst hK;let(c,f,fd,ps,F,b,i):=G;show(ub ho c i F g b .nil uf h a d ht).imp (uD (λv=>by simp[fx,hn]) λY Y Y z=>z)
def Am{m:bx}{k:Nat}{sp:DSp}{o:bb}{pl:Sem Bool}(G:sE X.prog X.w X.K X.mg X.base C m k (spD K sp))(hK:X.K=K)(d:b9 k X.A)(ho:PE X o (up K te))(hn:(m==("towns" : bx))=false:=by decide)
  (ht:eval (.Call (.Attribute o m apos) [] [] pos) X.env=(do
   let ov <-eval o X.env
   K2 apos.atName
   let (f,first) <-KI [ov] (Qu ov m pl)
   Zj pos f first (ze pos (kq [] X.env)) (KU pos (KA [] X.env))):=by rfl) :
  PE X (.Call (.Attribute o m apos) [] [] pos) (up K (vk C sp te Cn)):=by subst hK;let(c,f,fd,ps,F,b,e):=G;show(wS ho c e F d b .nil uf ht).imp (uD (λv=>by simp[fx,hn]) λσ H Q z=>?_);let(M,P,H0,σ0,env,ts,R,a,ht,g):=z;show g [] env [] H ht rfl (by simpa using a)
end
def zW(C:ap):Sp:=λvs H Q Y=>∃x dx,vs=[.ref x]/\H x=NI (.ins C dx [])/\∀b,H b=NJ->Q .non (upd (upd H b (.dK [])) x (.ins C dx [("towns",.ref b)]))
def zT(K:ca)(C:ap)(ok:ab->Prop):Sp:=λvs H Q Y=>∃(x dx b:ap) (nm:bx) (v:V) (d:ab) (N:ap->Prop),vs=[.ref x,.str nm,v]/\H x=NI (.ins C dx [("towns",.ref b)])/\H b=NI (.dK [])/\N b/\(∀a,N a->H a≠NJ)/\DN K N H v d/\ok d /\
 ∀p c,aS H c->DN K N c p d->Q .non (upd c b (.dK [(.inr nm,p)]))
def BV(C:ap)(i j:Nat)(nm:bx)(ok:ab->Prop)(tr:DS):DS:=λDD env=>∃d,i< -env/\env[j]?=NI (.fr d)/\ok d/\i≠j/\tr DD (env.set i (.fr (jK C nm d)))
section
variable{X:Cx}{K:ca}{C:ap}{i j:Nat}{nm:bx}{ok:ab->Prop}{s1 s2:Stmt}{rest:Nn}{tr:DS}
def Ah(h1:PS X s1 (Cd (zR C (zW C) [] E0 wb) (uV i)))(h2:PS X s2 (CC (sQ C "put" (zT K C ok) [] E0 (vR i) (nj (tC (.str nm)) (nj (vR j) wb)))))(I:PSs X rest (upS K tr)):PSs X (s1::s2::rest) (upS K (BV C i j nm ok tr)) :=
 (gW h1 (gW h2 I)).imp λD σ H h=>by
 let(M,P,H0,σ0,env,ts,DD,nv,f,(d,hi,J,hok,q,g),r):=h;let t:i< -σ:=by rw[f.len];show hi
 cbv;let(W,L,O):=f.slot J;let(F,u,Q):=f.e.fr _ _ O;subst u
 w_up;intro x dx nx w R;show(x,dx,rfl,aq,λb nb=>(rfl,?_))
 cbv;let y:b≠x:=λz=>by rw[z,aq]at nb;cases nb
 rw[al y]at nb;let S:b≠dx:=λz=>by rw[z,aq]at nb;cases nb
 w_up;rw[al S]at nb;generalize l:upd (upd (upd (upd H dx (.own x)) x (.ins C dx [])) b (.dK [])) x (.ins C dx [("towns",.ref b)])=H1;let same:aS H H1:=λc o e=>by
  rw[<-l,al (λz=>by rw[z,nx]at e;cases e),al (λz=>by rw[z,nb]at e;cases e),al (λz=>by rw[z,nx]at e;cases e),al (λz=>by rw[z,w]at e;cases e)];show e
 let hx:H1 x=NI (.ins C dx [("towns",.ref b)]):=by rw[<-l,aq]
 let A:H1 b=NI (.dK []):=by rw[<-l,al y,aq]
 obtain⟨N,hN⟩:∃N:ap->Prop,N=Nw M (aw σ env ts):=(_,rfl)
 let live:∀a,N a->H a≠NJ:=λa z hn=>f.newAddr hn (hN▸z);show(.ref x,by rw[Jc t],x,dx,_,rfl,hx,rfl,F,by rw[Je q];show L,?_);show(x,dx,b,nm,F,d,λa=>N a\/a=b,rfl,hx,A,.inr rfl,λa z=>?_,?_,hok,λp n k dn=>?_);rcases z with z|rfl;cases e:H a with
 |none=>show absurd e (live a z)
 |some o=>rw[same _ _ e];exactλz=>nomatch z
 rw[A];exactλz=>nomatch z;show(Q.to λc o e z=>by
  rcases z with z|rfl;show hN▸z;rw[nb]at e;cases e).keep (aO.same same)
 let T:=k _ _ A;let B:=k _ _ hx;let m:aS H (upd n b (.dK [(.inr nm,p)])):=λc o e=>by
  rw[al (λz=>by rw[z,nb]at e;cases e)];show k _ _ (same _ _ e)
 let G:∀{a:ap},H a=NJ->¬N a:=λe z=>live _ z e;let E:DN K N (upd n b (.dK [(.inr nm,p)])) p d:=(dn.keep (H':=upd n b (.dK [(.inr nm,p)])) λc o U e=>by
  rw[al (λz=>U (.inr z))];show e).to λY Y Y z=>.inl z
 let dd:DN K N (upd n b (.dK [(.inr nm,p)])) (.ref x) (jK C nm d):=.dsk (G nx) (G nb) (by rw[al (Ne.symm y)];show B) aq E;let V:=((f.same m).addFr (v:=.ref x) (hN▸dd)).store nv hi (s:=.fr (jK C nm d)) rfl;show(M,P,H0,σ0,_,ts,DD,nv,V,g,r)
end
section
variable{X:Cx}{K:ca}{e:bb}
def BS(t:DE):DE:=λenv R=>t env λs a=>∃S d,s=.tr S d/\R (.fr d) a
def yI{t:DE}(h:PE X e (up K t)):PE X e (up K (BS t)):=h.imp λσ H Q h=>by
 let(M,P,H0,σ0,env,ts,R,b,ht,g):=h;show(M,P,H0,σ0,env,ts,_,b,ht,λs c v H1 h1 a=>?_);let(S,d,rfl,i):=h1;let f:=a.e;rw[ar]at f;show g _ _ _ _ i (a.drop.withRes (aU.freezeT (B:=[]) f) rfl)
end
section
variable{X:Cx}{K:ca}{a b e:bb}{ta tb te:DE}{pos p:Pos}
def qx(c:PE X a (up K ta))(d:PE X b (up K tb))(hK:X.K=K:=by rfl)(hs:dZ b:=by exactλY Y=>rfl):PE X (.Subscript a b pos) (up K (dOp gIx ta tb)):=C4 (jF hK) mIx c d hs
def qxK(c:PE X a (up K ta))(d:PE X b (up K tb))(hK:X.K=K:=by rfl)(e:X.A.units+2<KD:=by exact hu2 (by assumption))(hs:dZ b:=by exactλY Y=>rfl):PE X (.Subscript a b pos) (up K (dOp E7 ta tb)):=C4 (Ig hK e) HR c d hs
def jc(b:X.mg "len" = none)(h:PE X e (up K te))(hK:X.K=K:=by rfl)(hg:Gl X "len" := by rfl)(a:kq [e] X.env=(false,eval e X.env)::kq [] X.env:=by rfl):PE X (.Call (.Name "len" p) [e] [] pos) (up K (dCB Ec (vo te Cn))):=tS (Ie hK) HN hg b My (aa h ad a) (!2) (!2) a
end
end _L
namespace _W
open PySem _L
local macro_rules | `(tactic| walk_at "d2") => do
 let l <- (("EA,zl,GA,Bq,Gb,vk,BN,BV,Gu,Gw,Gv,DM,BS,GC,BQ,vm,Gz,za,vT,BX,BW,BO,Gd,oP,E7,F9,kC,qM,vg,xZ,yz,pk,Ce,Ex,zj,qG,BK,dFz,u7,BL,Ey,vn,BP,Fg,BY,vf,Fh,dOp,Ez,x5,dUn,Fb,zm,dC,oW,GE,dOr,Fe,B0,dIf,qP,Cl,Ff,vo,Cn,vp,mH,qR,dCB,dIs,qK,Fc,Gx,x3,kD,oX,vd,Fi,Fd,qL,xY,x4,Fa,oY,qO,xX,sqD,gI,gIC,gB,gBB,gEq,gNe,E8,xM,gIn,uU,Ge,oQ,gIx,E9,Ec,Bt,Gc,Br,F6,Bs,Ga,BT,ve,BU,vh,u3,F8,Gg,E6,E5,BM,BR,BZ,Sl.tr.injEq,Gy,EV,qN,GD,qQ,Cp,vE,i5,eG,bU,slF,noL,oG,lY,pB,pR,mh,pr,pp,pq,pj,jl,hZ,ml,mi,mf,iT,gL,yC,yA,yB,yy,yx,yv,yw,yu,pD,pC,pA,pU,pS,pP,tK,tJ,jk,my,mw,mx,mv,qD,qE,cw,pL,pM,uh,ui,uj,ug,fm,mO,mN,qY,qW,qX,qV,jv,ij,kX,kZ,pv,kY,jm,mn,qm,mq,mo,jG,qp,qo,mr,yY,yX,eu,fq,qB,zB,zA,zz,zy,zx,zw,zv,zu,qz,y7,y8,tw,pH,pK,List.map_cons,List.map_nil,List.length_cons,List.length_nil,List.cons_append,List.nil_append,List.append_nil,List.replicate_succ,List.replicate_zero,List.set_cons_succ,List.set_cons_zero,List.getElem?_cons_zero,List.getElem?_cons_succ,List.getElem?_nil,List.take_succ_cons,List.take_zero,List.take_nil,List.drop_succ_cons,List.drop_zero,List.drop_nil,Option.some.injEq,Option.bind_some,Option.bind_none,Option.map_some,Option.map_none,Sl.fr.injEq,Sl.ow.injEq,Sl.io.injEq,Sl.vw.injEq,PyData.int.injEq,PyData.bool.injEq,PyData.list.injEq,PyData.tuple.injEq,PyData.str.injEq,List.cons.injEq,reduceCtorEq,and_true,true_and,and_false,false_and,and_assoc,exists_eq_left',exists_eq_left,exists_and_left,exists_eq',exists_eq,exists_false,exists_const,Nat.reduceSub,Nat.reduceAdd,Nat.reduceLT,Nat.zero_add,Nat.lt_add_left_iff_pos,decide_eq_true_eq,ite_true,ite_false,Bool.false_eq_true,if_true,if_false,Bool.not_eq_true',Bool.not_eq_true,decide_eq_false_iff_not,Int.zero_add,String.reduceBEq,Bool.true_and,Bool.and_true,Bool.or_false,Bool.false_or,Bool.or_true,Bool.true_or,Bool.and_false,Bool.false_and,Bool.not_true,Bool.not_false,id_eq,Sl.ctorIdx,Nat.succ_eq_add_one".splitOn ",").toArray.mapM λs => `(Lean.Parser.Tactic.simpLemma| $(Lean.mkIdent s.toName):ident))
 `(tactic|simp only[$l,*])
local macro_rules | `(tactic| walk_at "d1") => do
 let l <- (("zl,GA,Bq,Gb,vk,BN,BV,Gu,Gw,Gv,DM,BS,GC,BQ,vm,Gz,za,vT,BX,BW,BO,Gd,oP,E7,F9,kC,qM,vg,xZ,yz,pk,Ce,Ex,zj,qG,BK,dFz,u7,BL,Ey,vn,BP,Fg,BY,vf,Fh,dOp,Ez,x5,dUn,Fb,zm,dC,oW,GE,dOr,Fe,B0,dIf,qP,Cl,Ff,vo,Cn,vp,mH,qR,dCB,dIs,qK,Fc,Gx,x3,kD,oX,vd,Fi,Fd,qL,xY,x4,Fa,oY,qO,xX,sqD,gI,gIC,gB,gBB,gEq,gNe,E8,xM,gIn,uU,Ge,oQ,gIx,E9,Ec,Bt,Gc,Br,F6,Bs,Ga,BT,ve,BU,vh,u3,F8,Gg,E6,E5,BM,BR,BZ,Sl.tr.injEq,Gy,EV,qN,GD,qQ,Cp,vE,i5,eG,bU,slF,noL,oG,lY,pB,pR,mh,pr,pp,pq,pj,jl,hZ,ml,mi,mf,iT,gL,yC,yA,yB,yy,yx,yv,yw,yu,pD,pC,pA,pU,pS,pP,tK,tJ,jk,my,mw,mx,mv,qD,qE,cw,pL,pM,uh,ui,uj,ug,fm,mO,mN,qY,qW,qX,qV,jv,ij,kX,kZ,pv,kY,jm,mn,qm,mq,mo,jG,qp,qo,mr,yY,yX,eu,fq,qB,zB,zA,zz,zy,zx,zw,zv,zu,qz,y7,y8,tw,pH,pK,List.map_cons,List.map_nil,List.length_cons,List.length_nil,List.cons_append,List.nil_append,List.append_nil,List.replicate_succ,List.replicate_zero,List.set_cons_succ,List.set_cons_zero,List.getElem?_cons_zero,List.getElem?_cons_succ,List.getElem?_nil,List.take_succ_cons,List.take_zero,List.take_nil,List.drop_succ_cons,List.drop_zero,List.drop_nil,Option.some.injEq,Option.bind_some,Option.bind_none,Option.map_some,Option.map_none,Sl.fr.injEq,Sl.ow.injEq,Sl.io.injEq,Sl.vw.injEq,PyData.int.injEq,PyData.bool.injEq,PyData.list.injEq,PyData.tuple.injEq,PyData.str.injEq,List.cons.injEq,reduceCtorEq,and_true,true_and,and_false,false_and,and_assoc,exists_eq_left',exists_eq_left,exists_and_left,exists_eq',exists_eq,exists_false,exists_const,Nat.reduceSub,Nat.reduceAdd,Nat.reduceLT,Nat.zero_add,Nat.lt_add_left_iff_pos,decide_eq_true_eq,ite_true,ite_false,Bool.false_eq_true,if_true,if_false,Bool.not_eq_true',Bool.not_eq_true,decide_eq_false_iff_not,Int.zero_add,String.reduceBEq,Bool.true_and,Bool.and_true,Bool.or_false,Bool.false_or,Bool.or_true,Bool.true_or,Bool.and_false,Bool.false_and,Bool.not_true,Bool.not_false,id_eq,Sl.ctorIdx,Nat.succ_eq_add_one".splitOn ",").toArray.mapM λs => `(Lean.Parser.Tactic.simpLemma| $(Lean.mkIdent s.toName):ident))
 let h:=Lean.mkIdent `hW
 `(tactic|(refine'(?wf : Wk _ _) ?we ?wk ?wq; (case we => (intro $h:ident; simp only[$l,*]at $h:ident; exact $h)); (case wf => exactλ_ k q => k q); (case wk => (intro $h:ident; walk_at"wa"))))
local macro_rules | `(tactic| walk_at "wh") => do
 let h:=Lean.mkIdent `hW
 `(tactic|repeat (first |(with_reducible refine Exists.elim $h λ_ $h => ?_) |((with_reducible refine And.elim (λe $h => ?_) $h); try subst e)))
local macro_rules | `(tactic| walk_at "ev") => do
 let l <- ("Gi,Eg,Iq,Iu,Gr,Iw,Gk,Bz,El,Eh,Em,Eo,Ej,Gh,BA,Ei,Gj,By,Bx,Ek,Gq,Eu,BF,Go,Gp,Ew,Et,Es,Er,BD,BC,BE,uZ,xQ".splitOn ",").toArray.mapM λs => `(Lean.Parser.Tactic.tacticSeq|with_reducible apply $(Lean.mkIdent s.toName))
 `(tactic|((repeat' (first $[| $l]* |walk_at"wc")); done))
local macro_rules | `(tactic| walk_at "wc") => `(tactic| first | ((first | (with_reducible show _ = some (dD _)) | (with_reducible show _ = dD _) | (with_reducible show _ = List.map wD _) | (with_reducible show _ = eD _)); assumption) | exact rfl | with_reducible assumption | with_reducible exact eu _ | exact of_decide_eq_true rfl | exact A6 rfl | ((first | (with_reducible show _ <= sizeLine) | (with_reducible show _ < sizeLine) | (with_reducible show _ = _) | (with_reducible show shp _)); assumption))
local macro_rules | `(tactic| walk_at "wa") => do
 let h:=Lean.mkIdent `hW
 let l <- ("Cu,Cq,Cr,Cs,Ct,Cw,zN,Cv,zJ,v6,Hz,Fp,Fq".splitOn ",").toArray.mapM λs => `(Lean.Parser.Tactic.tacticSeq|(with_reducible apply $(Lean.mkIdent s.toName)); focus walk_at"ev")
 let m <- ("ws_seq,wg_name,wk_K,w_pop,w_popL,wx_set,wx_ret,wx_drop".splitOn ",").toArray.mapM λs => `(Lean.Parser.Tactic.tacticSeq|with_reducible apply $(Lean.mkIdent s.toName))
 `(tactic|(walk_at"wh"; repeat' (first |exact $h $[| $l]* $[| $m]* |walk_at"wc" |((with_reducible show Ev _ _ _); walk_at"ev") |apply Exists.intro |refine And.intro rfl ?_ |(refine And.intro ?_ ?_; focus walk_at"wc") |refine And.intro (_, rfl) ?_ |refine And.intro (_, _, rfl) ?_ |(intro x; replace $h:ident := $h x; walk_at"wh") |(refine sH rfl (fun $h => ?_) (fun $h => ?_) $h <;> walk_at"wh") |(refine zK (fun $h => ?_) (fun $h => ?_) $h <;> walk_at"wh") |(refine zL (fun $h => ?_) (fun $h => ?_) $h <;> walk_at"wh"))))
local macro_rules | `(tactic| walk_at "dN") => do
 let l <- ("hN,hM,hL".splitOn ",").toArray.mapM λs => let x := Lean.mkIdent s.toName; `(Lean.Parser.Tactic.tacticSeq|with_reducible (first |refine($x _).nx _ ?_ |refine($x _).ct _ ?_ |refine($x _).bk _ ?_ |refine($x _).rt _ _ ?_))
 `(tactic|((first $[| $l]*); try walk_at"d2"))
local macro_rules | `(tactic| walk_at "dd") => `(tactic| ((first | (walk_at "d1"; try walk_at "d2") | (simp only[Int.zero_add]; walk_at "d1"; try walk_at "d2") | (walk_at "d2")); try walk_at "dN"))
local macro_rules | `(tactic| walk_at "dx") => `(tactic| (first | ((with_reducible refine nx ?_); try walk_at "dd") | walk_at "dd"); repeat ((with_reducible refine nx ?_); try walk_at "dd"))
noncomputable def top(i:Nat):Stmt:=MM.main.body.getD i (.Pass (0,0,0,0))
section
variable{P:q3}{w:zb}{K:ca}{mg:bx->Nm}{base:bd}
abbrev gc:Stmt:=top 54
def nQ:ak ["_law_draws_here"] ["_law_draws_here"] (ac gc):={}
def wO(ds:Np):Int:=ds.getLastD 0
inductive zU:DSp
 |mk {ss R} (ds:Np):ss=[.io (li ds)]->R (.fr (.int (wO ds))) [.io (li ds.dropLast)]->zU ss R
def qA(a b:Np):ed (.list (li a)) (.list (li b))=decide (a=b):=Gn a b
def A7{ds:Np}(h:ds≠[]):(li ds).getLast? = NI (.int (wO ds)):=by
 unfold wO;rw[List.getLast?_map,Lw];cases e:ds.getLast? with
 |none=>show absurd (List.getLast?_eq_none_iff.mp e) h
 |some x=>rfl
def BI(ds:Np):(li ds).dropLast=li ds.dropLast:=by simp[List.map_dropLast]
def oC{f:ap}{fd:kN}(F:Fun K "_law_pop" "_law_pop" gc f fd)(B:Bn mg):a9 P w K mg base CX0 1 f fd ["_law_draws_here"] (spD K zU):=by
 show okD (k:=0) F nQ (λss R h=>?_) (!2) (λcdv A outer s H E a=>(_,(bc (gF (ay (Be (K:=K) rfl a.units) mEq (qv 0) (cP ad)) (af (aB ag)) br)
   (af (aB (Al 0 (K:=K) rfl rfl)))),λss R h=>?_))
 let(ds,rfl,_):=h;rfl;let(ds,rfl,q):=h;walk_at"dd";show(Jb _,(Sh.ints 0 ds).shp (!2),(Sh.ints 0 []).shp (!2),?_);rw[show dk []=dk (li []) from rfl,qA];by_cases e:ds=[]
 subst e;rw[M0 (!1)];show q;rw[M1 (by simp[e])];show(_,A7 e,by rw[BI];show q)
def EC(ns:Np)(a b:Nk):kE (li ns) a b=li ((ns.drop (HT.sIx (-ns) 0 a)).take (HT.sIx (-ns) (-ns) b-HT.sIx (-ns) 0 a)):=by unfold kE;show(List.drop _ (ec eb ns)).take _=ec eb _;rw[IF,LG,LH]
def qS(ns:Np)(c:Nat):kE (li ns) (NI (c:Int)) NJ=li (ns.drop c):=by rw[EC,HT.sIx_none,HT.sIx_nat];by_cases h:c<=-ns;rw[Kv h,JK (!1)];rw[ri (!0),Ki (IS _),Ki (!0)];simp
def bZ{l:M9}{k:Nat}(h:k< -l):l.getD k []∈l:=by rw[IP,IK h];show Ju h
abbrev gd:Stmt:=top 52
def iw:ak ["_law_cell","_law_turn","_law_number"] ["_law_cell","_law_turn"] (ac gd):={}
inductive zV:DSp
 |mk {ss R} (c t:Int):ss=[.fr (.int c),.fr (.int t)]->0<=t->t<100000->(∀x:Int,0<=x->x<2147483648->R (.fr (.int x)) [.un,.un])->zV ss R
def oE{f:ap}{fd:kN}(F:Fun K "_law_mix" "_law_mix" gd f fd)(B:Bn mg):a9 P w K mg base CX0 1 f fd ["_law_cell","_law_turn"] (spD K zV):=by
 show okD (k:=0) F iw (λss R h=>?_) (!2) (λcdv A outer s H E b=>(_,(bc (ax 2 iw.nd (bt bi mIC (bt jD mIC (bt bY mI (bt bY mI (bt bi mIC (qv 0) ag) (bt jD mIC (bt jD mIC (qv 1) (qv 1)) ag)) ag) ag) ag))
   (af (aB (bt bi mIC (bt bY mI (bt jD mIC (qv 2) (qv 2)) (bt jD mIC ag (qv 1))) ag)))),λss R h=>?_))
 let(c,t,rfl,_):=h;rfl;let(c,t,rfl,d,h1,q):=h;lk;let a1:=JU ((c % 2147483647+t*t*7919+104729)*48271) (show(2147483647:Int)≠0 by decide);let a2:=JH ((c % 2147483647+t*t*7919+104729)*48271) (show(0:Int)<2147483647 by decide);show(!2,qU (!0) (!0),zq (!2) (!2),zq (!2) (!2),!2,?_);let a:=JU ((c % 2147483647+t*t*7919+104729)*48271 % 2147483647*((c % 2147483647+t*t*7919+104729)*48271 % 2147483647)+69621*t) (show(2147483629:Int)≠0 by decide);let e:=JH ((c % 2147483647+t*t*7919+104729)*48271 % 2147483647*((c % 2147483647+t*t*7919+104729)*48271 % 2147483647)+69621*t) (show(0:Int)<2147483629 by decide);show(qU (!0) (!0),qU (!2) (!2),!2,q _ a (!0))
abbrev cK:Stmt:=top 53
def aJ:ak ["_law_script","_law_turn","_law_many","_law_cells","_law_found","_law_k","_law_at","_law_number","_law_cell"] ["_law_script","_law_turn","_law_many"] (ac cK):={}
def Ds(l:Np):Prop:=∀x∈l,0<=x/\x<2147483648
def Ds.app{l:Np}{x:Int}(h:Ds l)(b:0<=x)(h1:x<2147483648):Ds (l++[x]):=λy a=>by
 rcases II.mp a with a|a;show h y a;rw[IG.mp a];show(b,h1)
def Ds.drop{l:Np}(h:Ds l):Ds l.dropLast:=λx hx=>h x (l6 hx)
def Ds.pop{l:Np}(h:Ds l):0<=wO l/\wO l<2147483648:=by
 unfold wO;rw[Lw];cases e:l.getLast? with
 |none=>show(Jo 0,!2)
 |some x=>show h x (List.mem_of_getLast? e)
inductive nK:DSp
 |mk {ss R} (ns:Np) (t m:Nat):ss=[.fr (.list (li ns)),.fr (.int t),.fr (.int m)]->ns.length<=63->t<=5000->m<=5000->(∀l,Ds l->l.length=m->R (.ow (li l)) [.un,.un,.un])->nK ss R
def GF(ns:Np)(h:-ns<=63):kE (li ns) NJ (NI 63)=li ns:=by unfold kE;let e:HT.sIx (li ns).length (li ns).length (NI 63)=min 63 (li ns).length:=HT.sIx_nat _ _ 63;rw[e,HT.sIx_none,IF,Ls,LV,ri h];show JK (!1)
inductive Hx (ns:Np) (t m:Int) (n i:Nat):NA->Prop
 |mk (fs ls:Np) (kv av:Sl):ls.length=n->fs.length=i->Ds fs->Hx ns t m n i [.fr (.list (li ns)),.fr (.int t),.fr (.int m),.ow (li ls),.ow (li fs),kv,av,.un,.un]
inductive Hw (ns cs:Np) (t m:Int) (i:Nat):NA->Prop
 |mk (n:Int) (kv cv:Sl):0<=n->n<2147483648->Hw ns cs t m i [.fr (.list (li ns)),.fr (.int t),.fr (.int m),.fr (.list (li cs)),.un,kv,.un,.fr (.int n),cv]
def ka{f:ap}{fd:kN}(F:Fun K "_law_draws" "_law_draws" cK f fd)(B:Bn mg)(a:Cal P w K mg base "_law_mix" 1 (spD K zV)):a9 P w K mg base CX0 2 f fd ["_law_script","_law_turn","_law_many"] (spD K nK):=by
 show okD (k:=1) F aJ (λss R h=>?_) (!2) (λcdv A outer s H E G=>(_,(ai (ax 3 aJ.nd (rC (gm (K:=K) rfl) Cf (tP (K:=K) rfl (qv 0) eX (eW ag)) (cP (aa (qf 1) ad))))
   (ai (gF (ay rJ DJ (bt bi mIC (bt cQ mIC (qx (qv 3) ag) ag) ag) ag) (ai (ax 4 aJ.nd (cP ad))
   (ai (gh PassesOwn.never rfl (eY rfl B.range (aa (bt bY mI (bt cQ mIC (qv 1) ag) (qv 2)) ad)) (am 5 aJ.nd) (ai (ax 6 aJ.nd (bt bi mIC (qv 5) (jc B.len (qv 3))))
   (ai (eL (rE 4 (K:=K) rfl rfl (bt bi mIC (qx (qv 3) (qv 6)) ag)))
   (af (Aj 3 rfl (qv 6) (bt cQ mIC (qx (qv 3) (qv 6)) ag))))))
   (af (aB (tP (K:=K) rfl (qv 4) (eW (bt cQ mIC (qv 1) ag)) eX))))) br)
   (ai (ax 7 aJ.nd (qf 1))
   (ai (gh PassesOwn.never rfl (j0 NL (K:=K) rfl rfl B.enumerate (aa (qf 3) ad)) (iE (K:=K) (n:=2) rfl rfl (bf (am 5 aJ.nd) (bf (am 8 aJ.nd) eZ))) (af (ax 7 aJ.nd (bt bi mIC (bt bY mI (bt jD mIC (qv 7) ag) (ao a (aa (qf 8) (aa (bt bY mI (qv 5) (qv 1)) ad)))) ag))))
   (af (aB (bX (NN:=_::_) (sc0:=ac cK) (N':=["_law_k","_law_turn","_law_cells","_law_number"]) (ix:=[NJ,NI 1,NI 3,NI 7]) (eY rfl B.range (aa (qv 2) ad)) (λY Y Y Y=>(am 0 (!4))) (λY Y Y Y=>(ao a (aa (qx (qv 2) (bt bi mIC (qv 0) (jc B.len (qv 2)))) (aa (bt bY mI (bt bY mI (bt bi mIC (qv 3) ag) (qv 0)) (qv 1)) ad))))))))))),λss R h=>?_))
 let(ns,t,m,rfl,_):=h;rfl;let(ns,t,m,rfl,j,ht,I,q):=h;lk;rw[GF ns j];let u:li ns++[eb (t:Int)]=li (ns++[(t:Int)]):=!1
 rw[u];obtain⟨cs,c⟩:∃cs:Np,cs=ns++[(t:Int)]:=(_,rfl)
 let p:-cs=-ns+1:=by rw[c];simp
 rw[<-c];show(IQ (!2) ae,?_,?_);rw[IF];show IQ (!0) ae;lk;show(_,dE (k:=0) (!0),?_);lk;show((!2,!2),!2,kP (λY=>?_) (λY=>?_))
 .let v:(t:Int) / 4=((t / 4:Nat):Int):=rfl;show(Jb _,?_);lk;show((!2,!2),!0,!0,iW (Hx ns t m (-cs)) (.mk [] cs _ _ rfl rfl (λx hx=>by cases hx)) (λE hN=>?_) ?_)
  .rintro i env hi ⟨fs,ls,kv,av,hl,e,hd⟩;rw[az]at hi;rw[bC];let b:i % (-ls)< -ls:=v2 _ (!0);lk;rw[IF];let y:((i:Nat):Int) % ((-ls:Nat):Int)=((i % (-ls):Nat):Int):=rfl;rw[y];show(!0,?_);lk;show(_,dE b,?_);lk;show(!2,by rw[IF,e];show IY (!0) ae,?_);lk;show(_,dE b,?_);lk;let g:=JU (ls.getD (i % (-ls)) 0) (show(1000003:Int)≠0 by decide);let r:=JH (ls.getD (i % (-ls)) 0) (show(0:Int)<1000003 by decide);show((!2,!2),_,Bh (by rw[IF];show b),(hN _).nx _ ?_);rw[dR,DL];show .mk _ _ _ _ (by rw[Kh];show hl) (by simp[e]) (hd.app g (!0))
  .rintro env ⟨fs,ls,kv,av,hl,e,hd⟩;lk;rw[v,qS];show((!2,!2),q _ (λx hx=>hd x (L7 hx)) (by rw[az]at e;rw[Kc,e];lia))
 .lk;show iW (Hw ns cs t m) (.mk t _ _ (!0) (!0)) (λE hN=>?_) ?_
  .rintro i env hi ⟨n,kv,cv,z,C⟩;rw[dW,bK];rw[a8,IF]at hi;lk;show(qU (by omega +splitDisjunctions) (by omega +splitDisjunctions),_,_,rfl,by omega +splitDisjunctions,by omega +splitDisjunctions,λx x0 x1=>?_);lk;let g:=JU (n*31+x) (show(2147483629:Int)≠0 by decide);let r:=JH (n*31+x) (show(0:Int)<2147483629 by decide);show(!2,(hN _).nx _ (.mk _ _ _ g (!0)))
  .rintro env ⟨n,kv,cv,z,C⟩;lk;show(by omega +splitDisjunctions,by omega +splitDisjunctions,zr (λd=>∃x:Int,d=.int x/\0<=x/\x<2147483648) (by rw[az];lia) (λi hi Q D=>?_) λrs hn o=>?_)
   .rw[az]at hi;rw[bC];lk;rw[IF];let b:i % (-cs)< -cs:=v2 _ (!0);rw[show((i:Nat):Int) % ((-cs:Nat):Int)=((i % (-cs):Nat):Int) from rfl];let g:=JU n (show(1009:Int)≠0 by decide);let r:=JH n (show(0:Int)<1009 by decide);show(!0,_,dE b,!2,_,_,rfl,!0,!0,λx x0 x1=>?_);lk;show D _ (x,rfl,x0,x1)
   .let(l,rfl,hl):=kK o;lk;show q l hl (by rw[az,IF]at hn;lia)
abbrev bN:Stmt:=top 55
def aR:ak ["_law_draws_here","_law_most","_law_number","_law_hands","_law_left","_law_spans","_law_k"] ["_law_draws_here","_law_most"] (ac bN):={}
def TB(s o:Np):Prop:=1<=-s/\s.length<=6/\1<=-o/\o.length<=6/\(∀x∈s,1<=x/\x<=12)/\(∀x∈o,0<=x/\x<=6)/\(-s<=4\/∀x∈o,x<=2)
noncomputable def iH:Np->Nat
 |[]=>1
 |x::s=>x.toNat*iH s
def rG(s:Np)(x:Int):iH (s++[x])=iH s*x.toNat:=by
 induction s with
 |nil=>show x.toNat*1=1*x.toNat;lia
 |cons y s a=>show y.toNat*iH (s++[x])=y.toNat*iH s*x.toNat;rw[a,MX]
def xr{L l q p:Nat}(h:L*p<=q)(hl:l<=L)(y:Nat)(e:L / y*y<=L):L / y*(p*y)<=q:=by rw[<-MX,Nat.mul_right_comm];show IQ (Nat.mul_le_mul_right _ e) h
inductive sY:DSp
 |mk {ss R} (l:Np) (m:Nat):ss=[.io (li l),.fr (.int m)]->Ds l->6<=m->m<=100000->(∀s o l':Np,Ds l'->TB s o->o.length*iH s<=m->R (.fr (.tuple [.list (li s),.list (li o)])) [.io (li l'),.un])->sY ss R
def yi{α:Type}(xs:List α)(v:α):atI (xs++[v]) (-1)=NI v:=by unfold atI ixN;rw[M1 (!2),M0 (by rw[Jg];simp;lia)];show(xs++[v])[(-1+((xs++[v]).length:Int)).toNat]?=NI v;rw[show(-1+((xs++[v]).length:Int)).toNat=-xs by rw[Jg];simp;lia];simp
inductive EN (k:Int) (i:Nat):Nz->Nz->Prop
 |mk (hds l:Np):hds.length=i->Ds l->(∀x∈hds,0<=x/\x<=k)->EN k i (li hds) (li l)
def EN.add{k v:Int}{i:Nat}{hds l:Np}(hl:-hds=i)(dl:Ds l)(a:∀x∈hds,0<=x/\x<=k)(hv:0<=v/\v<=k):EN k (i+1) (li hds++[.int v]) (li l.dropLast):=by rw[dR];show .mk _ _ (by simp[hl]) dl.drop λx hx=>(II.mp hx).elim (a x) λh=>by rw[IG.mp h];show hv
inductive Hl (l2:Np) (m num:Int):NA->Prop
 |mk (hs:Np):1<=hs.length->hs.length<=6->(∀x∈hs,0<=x/\x<=2)->Hl l2 m num [.io (li l2),.fr (.int m),.fr (.int num),.ow (li hs),.un,.un,.un]
inductive Hk (m num:Int):NA->Prop
 |mk (hs l3:Np):Ds l3->1<=hs.length->hs.length<=6->(∀x∈hs,0<=x/\x<=6)->(num / 27 % 3=1\/∀x∈hs,x<=2)->Hk m num [.io (li l3),.fr (.int m),.fr (.int num),.ow (li hs),.un,.un,.un]
inductive Hj (hs:Np) (m:Nat) (num:Int) (i:Nat):NA->Prop
 |mk (l sp:Np) (left:Int) (kv:Sl):Ds l->sp.length=i->1<=left->hs.length*(left.toNat*iH sp)<=m->(∀x∈sp,1<=x/\x<=12)->Hj hs m num i [.io (li l),.fr (.int m),.fr (.int num),.ow (li hs),.fr (.int left),.ow (li sp),kv]
def lU{f:ap}{fd:kN}(F:Fun K "_law_town" "_law_town" bN f fd)(B:Bn mg)(a:Cal P w K mg base "_law_pop" 1 (spD K zU)):a9 P w K mg base CX0 2 f fd ["_law_draws_here","_law_most"] (spD K sY):=by
 show okD (k:=1) F aR (λss R h=>?_) (!2) (λcdv A outer s H E U=>(_,(ai (ax 2 aR.nd (iG 0 a (aa (qv 0) ad)))
   (ai (jA 3 1 0 rfl aR.nd (NN:=_::_) (sc0:=ac bN) (N':=["_law_k","_law_draws_here"]) (ix:=[NJ,NI 0]) (eY rfl B.range (aa (bt bY mI ag (bt bi mIC (qv 2) ag)) ad)) (λ_ _ _ _=>(am 0 (!4))) (λ_ _ _ _=>(bt bi mIC (iG 0 a (aa (qv 1) ad)) ag)))
   (pV (gF (ay AU mB (bt bi mIC (bt cQ mIC (qv 2) ag) ag) ag) (af (bw 3 aR.nd (NN:=_::_) (sc0:=ac bN) (N':=["_law_one"]) (ix:=[NJ]) (aA (qf 3)) (λ_ _ _ _=>(am 0 (!4))) (λ_ _ _ _=>(bt bY mI ag (bt bi mIC (qv 0) ag))))) br)
   (pV (gF (ay rJ DJ (bt bi mIC (bt cQ mIC (qv 2) ag) ag) ag) (af (jA 3 1 0 rfl aR.nd (NN:=_::_) (sc0:=ac bN) (N':=["_law_k","_law_draws_here"]) (ix:=[NJ,NI 0]) (eY rfl B.range (aa (bt bY mI ag (bt bi mIC (bt cQ mIC (qv 2) ag) ag)) ad)) (λ_ _ _ _=>(am 0 (!4))) (λ_ _ _ _=>(bt bi mIC (iG 0 a (aa (qv 1) ad)) ag)))) br)
   (ai (ax 4 aR.nd (bt cQ mIC (qv 1) (jc B.len (qv 3))))
   (ai (ax 5 aR.nd (cP ad))
   (ai (gh PassesOwn.never rfl (eY rfl B.range (aa (bt bY mI ag (bt bi mIC (iG 0 a (aa (qv 0) ad)) (qx (cP (aa ag (aa ag (aa ag ad)))) (bt bi mIC (bt cQ mIC (qv 2) ag) ag)))) ad)) (am 6 aR.nd) (ai (eL (rE 5 (K:=K) rfl rfl (bt bY mI ag (bt bi mIC (iG 0 a (aa (qv 0) ad)) (tS (vB rfl) HM rfl B.min PyProof.Rows.boot_min (aa ag (aa (qv 4) ad)))))))
   (af (ax 4 aR.nd (bt cQ mIC (qv 4) (qx (qv 5) (ET kW EW ag)))))))
   (af (aB (cG (aa (qf 5) (aa (qf 3) ad)))))))))))),λss R h=>?_))
 let(l,m,rfl,_):=h;rfl;let(l,m,rfl,dl,N,V,q):=h;lk;show(l,rfl,?_);lk;let W:=dl.pop;let u:=dl.drop;generalize wO l=num at *;generalize l.dropLast=l1 at *;show(!2,!0,!0,EN 2,_,_,rfl,rfl,.mk [] _ rfl u (!1),?_,?_)
 .rintro i rs l hi ⟨hds,l',hl,b,n⟩;rw[az]at hi;rw[bC];show(by rw[IF,hl];show IY (!0) ae,_,rfl,?_);lk;show(l',rfl,?_);lk;show(!2,.add hl b n (!0))
 rintro rs l ⟨hds,l2,hl,t,n⟩;rw[az]at hl;show(_,rfl,?_);lk;show(Hl l2 m num,?_,?_)
 .lk;show((!2,!2),!2,kP (λ_=>?_) (λ_=>.mk hds (!0) (!0) n));show zr (λd=>∃x:Int,d=.int x/\0<=x/\x<=2) (by rw[IF];lia) (λi hi Q O=>?_) λrs v z=>?_
  .rw[bK];lk;show(!2,O _ (_,rfl,!0,!0))
  .let(hs,rfl,g):=kK z;lk;rw[IF,IF]at v;show .mk hs (!0) (!0) g
 rintro env ⟨hs,h1,C,g⟩;show(Hk m num,?_,?_)
 .lk;show((!2,!2),!2,kP (λM=>?_) (λ_=>.mk hs l2 t h1 C (λx hx=>by let:=g x hx;lia) (.inr λx hx=>(g x hx).2)));show((!2,!2),!2,!0,!0,EN 6,_,_,rfl,rfl,.mk [] _ rfl t (!1),?_,?_)
  .rintro i rs l hi ⟨hds,l',hl,b,n⟩;rw[az]at hi;rw[bC];show(by rw[IF,hl];show IY (!0) ae,_,rfl,?_);lk;show(l',rfl,?_);lk;show(!2,.add hl b n (!0))
  rintro rs l ⟨D,l3,hl,j,n⟩;rw[az]at hl;show(_,rfl,?_);lk;show .mk D l3 j (!0) (!0) n (.inl (!0))
 rintro env ⟨hs,l3,j,h1,C,G,I⟩;lk;rw[IF];obtain⟨c,S,c3,X,M⟩:∃c:Int,atI [eb 3,eb 4,eb 6] (num / 27 % 3)=NI (.int c)/\3<=c/\c<=6/\(num / 27 % 3=1->c=4):=by
  let:num / 27 % 3=0\/num / 27 % 3=1\/num / 27 % 3=2:=!0
  rcases this with e|e|e;rw[e];show(3,rfl,!2,!2,!2);rw[e];show(4,rfl,!2,!2,λ_=>rfl);rw[e];show(6,rfl,!2,!2,!2)
 let Z:=j.pop;let J:=j.drop;show((by omega +splitDisjunctions,by omega +splitDisjunctions),?_);lk;show(Jb _,?_);lk;show(l3,rfl,?_);lk;show(IQ (!2) ae,(!2,!2),!2,_,S,_,rfl,by omega +splitDisjunctions,?_);generalize wO l3=p3 at *;generalize l3.dropLast=l4 at *;let u0:=JU p3 (show c≠0 by lia);let u1:=JH p3 (show 0<c by lia);let m1:1<=(m:Int) / (-hs:Int):=by rw[r1 (!0)];lia
 let m2:-hs*(((m:Int) / (-hs:Int)).toNat*iH [])<=m:=by show -hs*(((m / -hs:Nat):Int).toNat*1)<=m;rw[Jv,Nat.mul_one];show Nat.mul_div_le _ _
 show(!0,!0,iW (Hj hs m num) (.mk l4 [] _ _ J rfl m1 m2 (!1)) (λE hN=>?_) ?_)
 .rintro i env hi ⟨l,sp,left,kv,dl,hl,l1,o,r⟩;rw[az]at hi;rw[bC];lk;show(l,rfl,?_);lk;let b:=dl.drop
  cbv;generalize wO l=p at *;generalize l.dropLast=l5 at *;obtain⟨w,hw⟩:∃w:Int,w=if left<12 then left else 12:=(_,rfl)
  w_up;rw[<-hw];let w1:1<=w/\w<=12/\w<=left:=by rw[hw];split <;> lia
  let y0:=JU p (show w≠0 by lia);let y1:=JH p (show 0<w by lia);generalize p % w=y at *;show(!0,by rw[IF,hl];show IY (!0) ae,?_);lk;show(_,yi _ _,_,rfl,(!0,!0),(hN _).nx _ ?_);rw[dR];show .mk l5 (sp++[1+y]) _ _ b (by simp[hl]) ?_ ?_ λx hx=>?_;rw[r1 (!0)];lia;rw[rG];show IQ (Mh _ ?_) o;obtain⟨L,rfl⟩:∃L:Nat,left=(L:Int):=(left.toNat,!0)
  obtain⟨Y,T⟩:∃Y:Nat,1+y=(Y:Int):=((1+y).toNat,!0)
  rw[T,show((L:Int) / (Y:Int)).toNat=L / Y from rfl,Jv,Jv];show xr (l:=0) (IS _) (Jb _) Y (Nat.div_mul_le_self L Y);rcases II.mp hx with hx|hx;show r x hx;rw[IG.mp hx];lia
 .rintro env ⟨l,sp,left,kv,dl,hl,l1,o,r⟩;rw[az]at hl;lk;show(IQ (!2) ae,q sp hs l dl (!0,!0,h1,C,r,G,?_) (IQ (Mh _ (Nat.le_mul_of_pos_left _ (!0))) o));rcases I with h|h;let:=M h;show .inl (!0);show .inr h
noncomputable def b7:Nat->M9
 | 0=>[[]]
 |k+1=>b7 k++(b7 k).map (·++[(k:Int)])
noncomputable def cW(l:Np)(n:Nat):Np:=((cp n).filter λi=>decide (l.getD i 0=1)).map (sr:Nat->Int)
noncomputable def bQ(h:Int)(a r:Np):Bool:=decide ((-r:Int)<=h)&&decide ((a.filter λc=>decide (c ∉ r))=[])
def eB(n:Nat)(h:Int)(l:Np):M9:=(b7 n).filter (bQ h (cW l n))
def D1(r:Np):ab:=.tuple [.int (-r),.list (li r)]
theorem fB:∀n,(b7 n).length=2 ^ n
 | 0=>rfl
 |n+1=>by
  show(b7 n++(b7 n).map _).length=_;rw[Jg,IF,fB n,LW];lia
theorem bj:∀n,∀r∈b7 n,-r<=n/\r.Pairwise (·<·)/\∀x∈r,0<=x/\x<n
 | 0,r,h=>by
  rw[IG.mp h];simp
 |n + 1,r,h=>by
  rcases II.mp h with h|h;let(a,b,c):=bj n r h;show(!0,b,λx hx=>by let:=c x hx;lia);let(r',h',rfl):=IZ.mp h;let(a,b,c):=bj n r' h';show(by simp;lia,Km.mpr (b,!1,λx hx y d=>?_),λx hx=>?_);rw[IG.mp d];let:=c x hx;lia;rcases II.mp hx with hx|hx;let:=c x hx;lia;rw[IG.mp hx];lia
theorem gN{α:Type}{p q:α->Bool}(h:∀x,p x=NK->q x=NK):∀l:List α,(l.filter p).length<=(l.filter q).length
 |[]=>IS _
 |x :: l=>by
  let b:=gN h l;by_cases a:p x=NK;rw[JG a,JG (h x a)];simpa using b;rw[J1 a];by_cases c:q x=NK;rw[JG c];simp;lia;rw[J1 c];show b
def iV{n:Nat}{h:Int}{l:Np}(hn:n<=6)(d:n<=4\/h<=3):(eB n h l).length<64:=by
 rcases d with e|h2;let a:=Jy (bQ h (cW l n)) (b7 n);rw[fB]at a;let:2 ^ n<=2 ^ 4:=JQ (!2) e;unfold eB;lia;let a:(eB n h l).length<=((b7 n).filter λr=>decide (-r<=3)).length:=gN (λr c=>by
  unfold bQ at c;rw[Jw,decide_eq_true_eq]at c;rw[decide_eq_true_eq];lia) _
 let b:∀n:Nat,n<=6->((b7 n).filter λr=>decide (-r<=3)).length<=42:=by
  intro n hn
  match n,hn with
  | 0,_=>decide
  | 1,_=>decide
  | 2,_=>decide
  | 3,_=>decide
  | 4,_=>decide
  | 5,_=>decide +kernel
  | 6,_=>decide +kernel
 let:=b n hn;lia
def aE{l:Np}{k:Nat}(h:k< -l):l.getD k 0∈l:=by rw[IP,IK h];show Ju h
def StB(s o:Np)(d:Nat)(l:Np):Prop:=d< -o/\l.length=-s
abbrev bh:Stmt:=top 57
def aW:ak ["_law_town_here","_law_standing_here","_law_found","_law_clocks","_law_due","_law_rows_here","_law_clock","_law_row"] ["_law_town_here","_law_standing_here"] (ac bh):={}
inductive Ho (s o l:Np) (d i:Nat):NA->Prop
 |mk (cv:Sl) (rs:Nz):rs=lr (b7 i)->Ho s o l d i [.fr (.tuple [.list (li s),.list (li o)]),.fr (.tuple [.int d,.tuple (li l)]),.ow [],.fr (.list (li (ec (sr:Nat->Int) (cp s.length)))),.fr (.list (li (cW l s.length))),.ow rs,cv,.un]
inductive Hn (s o l:Np) (d:Nat) (cv:Sl) (i:Nat):NA->Prop
 |mk (rv:Sl) (fs:Nz):fs=(((b7 s.length).take i).filter (bQ (o.getD d 0) (cW l s.length))).map D1->Hn s o l d cv i [.fr (.tuple [.list (li s),.list (li o)]),.fr (.tuple [.int d,.tuple (li l)]),.ow fs,.fr (.list (li (ec (sr:Nat->Int) (cp s.length)))),.fr (.list (li (cW l s.length))),.fr (.list (lr (b7 s.length))),cv,rv]
inductive s9:DSp
 |mk {ss R} (s o l:Np) (d:Nat):ss=[.fr (.tuple [.list (li s),.list (li o)]),.fr (.tuple [.int d,.tuple (li l)])]->TB s o->StB s o d l->(∀rr:M9,rr.Perm (eB s.length (o.getD d 0) l)->R (.ow (lr rr)) [.un,.un])->s9 ss R
def lV{f:ap}{fd:kN}(F:Fun K "_law_rows" "_law_rows" bh f fd)(B:Bn mg):a9 P w K mg base CX0 1 f fd ["_law_town_here","_law_standing_here"] (spD K s9):=by
 show okD (k:=0) F aW (λss R h=>?_) (!2) (λcdv A outer s H E m=>(_,(ai (ax 2 aW.nd (cP ad))
   (ai (bw 3 aW.nd (NN:=_::_) (sc0:=ac bh) (N':=["_law_clock"]) (ix:=[NJ]) (eY rfl B.range (aa (jc B.len (qx (qv 0) ag)) ad)) (λ_ _ _ _=>(am 0 (!4))) (λ_ _ _ _=>(qf 0)))
   (ai (bw 4 aW.nd (NN:=_::_) (sc0:=ac bh) (N':=["_law_clock","_law_standing_here"]) (ix:=[NJ,NI 1]) (aA (qf 3)) (λ_ _ _ _=>(am 0 (!4))) (λ_ _ _ _=>(qf 0)) (ht:=(λ_ _ _ _=>(iC (ay rJ DJ (qx (qx (qv 1) ag) (qv 0)) ag)))))
   (yF 4 (ai (ax 5 aW.nd (cP (aa (cP ad) ad)))
   (ai (gh PassesOwn.never rfl (aA (qf 3)) (am 6 aW.nd) (af (ax 5 aW.nd (rC (gm (K:=K) rfl) Cf (qv 5) (bX (NN:=_::_) (sc0:=ac bh) (N':=["_law_row","_law_clock"]) (ix:=[NJ,NI 6]) (aA (qf 5)) (λ_ _ _ _=>(am 0 (!4))) (λ_ _ _ _=>(rC (gm (K:=K) rfl) Cf (qv 0) (cP (aa (qf 1) ad)))))))))
   (ai (gh PassesOwn.never rfl (aA (qf 5)) (am 7 aW.nd) (af (gF (PW.pt (jz (ay ou mB (jc B.len (qv 7)) (qx (qx (qv 0) ag) (qx (qv 1) ag))) (iB (ay (Be (K:=K) rfl m.units) mEq (bX (NN:=_::_) (sc0:=ac bh) (N':=["_law_clock","_law_row"]) (ix:=[NJ,NI 7]) (aA (qf 4)) (λ_ _ _ _=>(am 0 (!4))) (λ_ _ _ _=>(qf 0)) (ht:=(λ_ _ _ _=>(iC (ay (D4 (K:=K) rfl) DH (qv 0) (qv 1)))))) (cP ad))))) (af (eL (rE 2 (K:=K) rfl rfl (cG (aa (jc B.len (qv 7)) (aa (qf 7) ad)))))) br)))
   (af (aB (bX (NN:=_::_) (sc0:=ac bh) (N':=["_law_many","_law_row"]) (ix:=[NJ,NJ]) (aA (CY qg (K:=K) rfl (jw m) rfl B.sorted (aa (qv 2) ad))) (λ_ _ _ _=>(iE (K:=K) (n:=2) rfl rfl (bf (am 0 (!4)) (bf (am 1 (!4)) eZ)))) (λ_ _ _ _=>(qf 1)))))))))))),λss R h=>?_))
 let(s,o,l,d,rfl,_):=h;rfl
 cbv;let(s,o,l,d,rfl,tb,J,q):=h;let(S,y,T,U,V,W,D):=tb;let(s1,s2):=J
 w_up;lk;show(Jb _,?_);lk;rw[IF];show(!0,!0,bA (λi=>.int (i:Int)) (by rw[az];lia) (λi hi Q p=>?_) ?_)
 .rw[bC];lk;show p
 rw[az,Jv,xq];lk;show dX (λi=>decide (l.getD i 0=1)) (λi=>.int (i:Int)) (by simp;lia) (λi hi Q L h1 h2=>?_) ?_
 .rw[IF,IF,Jl]at hi;rw[bK];let z:(ec (sr:Nat->Int) (cp (-s))).getD i 0=(i:Int):=by simp[IP,hi]
  rw[z];lk;show(_,dE (k:=i) (!0),?_);lk;show kP (λh=>h1 (by simpa using h)) (λh=>h2 (by simpa using h))
 lk;let M:ec (λ(i:Nat)=>eb (i:Int)) (lx (λ(i:Nat)=>decide (l.getD i 0=1)) (cp (li (ec (sr:Nat->Int) (cp (-s)))).length))=li (cW l (-s)):=by rw[IF,IF,Jl];unfold cW;show _=ec _ (ec _ _);rw[Jq];rfl
 rw[M];show(Jb _,IQ (!2) ae,?_);lk;show iW (Ho s o l d) (.mk _ _ rfl) (λE hN=>?_) ?_
 .rintro i env hi ⟨cv,_,rfl⟩;rw[IF,IF,Jl]at hi;rw[bK];let z:(ec (sr:Nat->Int) (cp (-s))).getD i 0=(i:Int):=by simp[IP,hi]
  rw[z];let hz:(b7 i).length<=32:=by rw[fB];let:2 ^ i<=2 ^ 5:=JQ (!2) (!0);lia
  lk;show bA (λj=>.list (li ((b7 i).getD j []++[(i:Int)]))) (by rw[IF];lia) (λj hj Q p=>?_) ?_
  .rw[IF]at hj;rw[gJ];let m:=(bj i _ (bZ (l:=b7 i) hj)).1;lk;show(IQ (!2) ae,by rw[IF];show IQ (!0) ae,?_);rw[dR];show p
  .rw[IF,bO (b7 i) [] (λr=>dk (li (r++[(i:Int)])))];let e:lr (b7 i)++(b7 i).map (λr=>dk (li (r++[(i:Int)])))=lr (b7 (i+1)):=by
    show _=ec _ (b7 i++_);rw[Jm,Jq];rfl
   lk;show(?_,(hN _).nx _ (.mk _ _ e));rw[IF,IF];show IQ (!0) ae
 rintro env ⟨cv,_,rfl⟩;rw[IF,IF,Jl];lk;show iW (Hn s o l d cv) (.mk _ _ rfl) (λE hN=>?_) ?_
 .rintro i env hi ⟨rv,_,rfl⟩;rw[IF]at hi;rw[gJ];let t:=bZ (l:=b7 (-s)) hi
  cbv;let(X,Y,Z):=bj _ _ t;let G:((b7 (-s)).take (i+1)).filter (bQ (o.getD d 0) (cW l (-s)))=((b7 (-s)).take i).filter (bQ (o.getD d 0) (cW l (-s)))++(if bQ (o.getD d 0) (cW l (-s)) ((b7 (-s)).getD i [])=NK then [(b7 (-s)).getD i []] else []):=by
   let u:(b7 (-s)).getD i []=(b7 (-s))[i]:=by simp[IP,hi]
   rw[JT,IK hi,u,JY];show _++lx _ [_]=_;generalize o.getD d 0=oh;cases hg:bQ oh (cW l (-s)) (b7 (-s))[i] <;> simp[hg]
  let hz:(((b7 (-s)).take i).filter (bQ (o.getD d 0) (cW l (-s)))).length<=64:=by show IQ (Jy _ _) ?_;rw[JC,fB];let:2 ^ (-s)<=2 ^ 6:=JQ (!2) y;lia
  let a:∀g v,g=(((b7 (-s)).take i).filter (bQ (o.getD d 0) (cW l (-s)))++(if bQ (o.getD d 0) (cW l (-s)) ((b7 (-s)).getD i [])=NK then [(b7 (-s)).getD i []] else [])).map D1->(E i).nx [.fr (.tuple [.list (li s),.list (li o)]),.fr (.tuple [.int d,.tuple (li l)]),.ow g,.fr (.list (li (ec (sr:Nat->Int) (cp (-s))))),.fr (.list (li (cW l (-s)))),.fr (.list (lr (b7 (-s)))),cv,v]:=λg v e=>(hN _).nx _ (.mk _ _ (by rw[G];show e));clear hN G;generalize ((b7 (-s)).take i).filter (bQ (o.getD d 0) (cW l (-s)))=fs at *;generalize (b7 (-s)).getD i []=r at *
  w_up;let N:(cW l (-s)).length<=6:=by unfold cW;rw[IF];show IQ (Jy _ _) ?_;rw[Jl];show y
  lk;show(_,dE s1,?_);lk;rw[IF];show kP (λb=>?_) (λb=>?_)
  rotate_left
  let u:bQ (o.getD d 0) (cW l (-s)) r=NL:=by unfold bQ;rw[decide_eq_false b,ML]
  rw[u,M1 (!2),Jh]at a;show a _ _ rfl;show dX (λj=>decide ((cW l (-s)).getD j 0 ∉ r)) (λj=>.int ((cW l (-s)).getD j 0)) (by rw[IF];lia) (λj hj Q L h1 h2=>?_) ?_
  .rw[bK];lk;generalize (cW l (-s)).getD j 0=c at *;show kP (λh=>h1 (decide_eq_true h)) (λh=>h2 (decide_eq_false h))
  rw[IF,dw (cW l (-s)) 0 (λc=>decide (c ∉ r)) (λc=>eb c)];lk;rw[show dk []=dk (li []) from rfl,qA];show(Jb _,(Sh.ints 0 _).shp (!2),(Sh.ints 0 []).shp (!2),?_);let u:bQ (o.getD d 0) (cW l (-s)) r=decide (((cW l (-s)).filter λc=>decide (c ∉ r))=[]):=by unfold bQ;rw[decide_eq_true b,MQ]
  rw[u]at a;show kP (λt=>?_) (λt=>?_);rw[M0 t,Jm]at a;show(IQ (!2) ae,by rw[IF];show IY (!0) ae,?_);show a _ _ (by rw[IF];rfl);rw[M1 t,Jh]at a;show a _ _ rfl
 .rintro env ⟨rv,_,rfl⟩;rw[IF,JK (IS _)];lk;let hs:∀r∈(b7 (-s)).filter (bQ (o.getD d 0) (cW l (-s))),-r<=1000:=λr m=>by
   let:=(bj _ r (Ji.mp m).1).1;lia
  show(λx hx=>?_,?_,λes C=>?_);let(r,_,rfl):=IZ.mp hx;show(-r,r,rfl);rw[IF];show iV (n:=-s) (h:=o.getD d 0) y (D.imp (λh=>h) λh=>by let:=h _ (aE s1);lia)
  .let(rr,I,rfl):=cA C _ rfl;let hl:=I.length_eq;let hf:((b7 (-s)).filter (bQ (o.getD d 0) (cW l (-s)))).length<64:=iV y (D.imp (λh=>h) λh=>by let:=h _ (aE s1);lia);show bA (λj=>.list (li (rr.getD j []))) (by rw[IF];lia) (λj hj Q p=>?_) ?_
   .rw[IF]at hj;let O:(ec D1 rr)[j]'(by simpa using hj)=D1 (rr.getD j []):=by simp[IP,hj]
    rw[O];unfold D1;lk;show p
   .rw[IF,bO rr [] (λr=>dk (li r))];lk;show q rr I
noncomputable def kQ(s l r:Np)(n:Nat):Np:=(cp n).map λ(i:Nat)=>if (i:Int)∈r then s.getD i 0 else l.getD i 0-1
def kL(s l r:Np)(n:Nat):(kQ s l r n).length=n:=by simp[kQ]
def vK(s l r:Np)(n:Nat):kQ s l r (n+1)=kQ s l r n++[if (n:Int)∈r then s.getD n 0 else l.getD n 0-1]:=by unfold kQ;rw[J6,Jm];rfl
abbrev dO:Stmt:=top 58
def bF:ak ["_law_town_here","_law_standing_here","_law_row","_law_lefts","_law_clock"] ["_law_town_here","_law_standing_here","_law_row"] (ac dO):={}
inductive nL:DSp
 |mk {ss R} (s o l r:Np) (d:Nat):ss=[.fr (.tuple [.list (li s),.list (li o)]),.fr (.tuple [.int d,.tuple (li l)]),.fr (.list (li r))]->s.length<=1000->1<=o.length->l.length=s.length->R (.fr (.tuple [.int (((d+1) % o.length:Nat):Int),.tuple (li (kQ s l r s.length))])) [.un,.un,.un]->nL ss R
inductive IvX (s o l r:Np) (d i:Nat):NA->Prop
 |mk (cv:Sl):IvX s o l r d i [.fr (.tuple [.list (li s),.list (li o)]),.fr (.tuple [.int d,.tuple (li l)]),.fr (.list (li r)),.fr (.tuple (li (kQ s l r i))),cv]
def kf{f:ap}{fd:kN}(F:Fun K "_law_after" "_law_after" dO f fd)(B:Bn mg):a9 P w K mg base CX0 1 f fd ["_law_town_here","_law_standing_here","_law_row"] (spD K nL):=by
 show okD (k:=0) F bF (λss R h=>?_) (!2) (λcdv A outer s H E b=>(_,(ai (ax 3 bF.nd (cG ad))
   (ai (gh PassesOwn.never rfl (eY rfl B.range (aa (jc B.len (qx (qv 0) ag)) ad)) (am 4 bF.nd) (af (gF (ay (kIn (K:=K) rfl) mIn (qv 4) (qv 2)) (af (ax 3 bF.nd (lC (K:=K) rfl (qv 3) (cG (aa (qx (qx (qv 0) ag) (qv 4)) ad))))) (af (ax 3 bF.nd (lC (K:=K) rfl (qv 3) (cG (aa (bt ul mI (qx (qx (qv 1) ag) (qv 4)) ag) ad))))))))
   (af (aB (cG (aa (bt bi mIC (bt bY mI (qx (qv 1) ag) ag) (jc B.len (qx (qv 0) ag))) (aa (qf 3) ad))))))),λss R h=>?_))
 let(s,o,l,r,d,rfl,_):=h;rfl;let(s,o,l,r,d,rfl,h1,h2,h3,q):=h;lk;show(Jb _,?_);lk;rw[IF];show(!0,!0,iW (IvX s o l r d) (.mk _) (λE hN=>?_) ?_)
 .rintro i env hi ⟨cv⟩;rw[az,Jv]at hi;rw[bC];lk;let hz:(li (kQ s l r i)).length+1<=sizeLine:=by
   rw[IF,kL];show IQ (!0) ae
  let hv:=λcv=>IvX.mk (s:=s) (o:=o) (l:=l) (r:=r) (d:=d) (i:=i+1) cv;rw[vK]at hv;show kP (λa=>?_) (λa=>?_);rw[M0 a]at hv;show(_,dE hi,IQ (!2) ae,hz,(hN _).nx _ (by rw[dR];show hv _));rw[M1 a]at hv;show(_,dE (!0),_,rfl,IQ (!2) ae,hz,(hN _).nx _ (by rw[dR];show hv _))
 .rintro env ⟨cv⟩;rw[az,Jv];lk;rw[IF];show(!0,IQ (!2) ae,q)
abbrev gb:Stmt:=top 8
def nP:ak ["town","standing"] ["town","standing"] (ac gb):={}
inductive ig:DSp
 |mk {ss R} (s o l:Np) (d:Nat):ss=[.fr (.tuple [.list (li s),.list (li o)]),.fr (.tuple [.int d,.tuple (li l)])]->d<o.length->R (.fr (.int (o.getD d 0))) [.un,.un]->ig ss R
def oB{f:ap}{fd:kN}(F:Fun K "hands_on" "hands_on" gb f fd)(B:Bn mg):a9 P w K mg base CX0 1 f fd ["town","standing"] (spD K ig):=by show okD (k:=0) F nP (λss R h=>?_) (!2) (λcdv A outer s H E a=>(_,(af (aB (qx (qx (qv 0) ag) (qx (qv 1) ag)))),λss R h=>?_));let(s,o,l,d,rfl,_):=h;rfl;let(s,o,l,d,rfl,hd,q):=h;walk_at"dd";show(_,dE hd,q)
abbrev gT:Stmt:=top 11
def iu:ak ["town","standing","row","spans","lefts"] ["town","standing","row"] (ac gT):={}
inductive fF:DSp
 |mk {ss R} (s o l r:Np) (d:Nat):ss=[.fr (.tuple [.list (li s),.list (li o)]),.fr (.tuple [.int d,.tuple (li l)]),.fr (.list (li r))]->1<=o.length->l.length=s.length->s.length<=1000->R (.fr (.tuple [.int (((d+1) % o.length:Nat):Int),.tuple (li (kQ s l r s.length))])) [.un,.un,.un]->fF ss R
def uy{f:ap}{fd:kN}(F:Fun K "behind" "behind" gT f fd)(B:Bn mg):a9 P w K mg base CX0 1 f fd ["town","standing","row"] (spD K fF):=by
 show okD (k:=0) F iu (λss R h=>?_) (!2) (λcdv A outer s H E b=>(_,(ai (ax 3 iu.nd (qx (qv 0) ag))
   (ai (bw 4 iu.nd (NN:=_::_) (sc0:=ac gT) (N':=["clock","left","row","spans"]) (ix:=[NJ,NJ,NI 2,NI 3]) (j0 NK (K:=K) rfl rfl B.enumerate (aa (qx (qv 1) ag) ad)) (λY Y Y Y=>(iE (K:=K) (n:=2) rfl rfl (bf (am 0 (!4)) (bf (am 1 (!4)) eZ)))) (λY Y Y Y=>(gg (ay (kIn (K:=K) rfl) mIn (qv 0) (qv 2)) (qx (qv 3) (qv 0)) (bt ul mI (qv 1) ag))))
   (af (aB (cG (aa (bt bi mIC (bt bY mI (qx (qv 1) ag) ag) (jc B.len (qx (qv 0) ag))) (aa (tO (K:=K) rfl rfl B.tuple (aa (qv 4) ad)) ad))))))),λss R h=>?_))
 let(s,o,l,r,d,rfl,_):=h;rfl;let(s,o,l,r,d,rfl,ho,hl,hs,q):=h;lk;show bA (λi=>.int (if (i:Int)∈r then s.getD i 0 else l.getD i 0-1)) (by rw[a8,IF];lia) (λi hi Q a=>?_) ?_
 .rw[a8,IF]at hi;rw[dW,bK];lk;show kP (λh=>?_) (λh=>?_);rw[M0 h]at a;show(_,dE (!0),a);rw[M1 h]at a;show a
 let e:(cp (kA (li l)).length).map (λi:Nat=>eb (if (i:Int)∈r then s.getD i 0 else l.getD i 0-1))=li (kQ s l r (-s)):=by rw[a8,IF,hl];show _=ec _ (ec _ _);rw[Jq];rfl
 rw[e];lk;rw[IF];show(!0,IQ (!2) ae,q)
abbrev nU:Stmt:=top 7
def wz:ak ["town"] ["town"] (ac nU):={}
inductive ii:DSp
 |mk {ss R} (s o:Np):ss=[.fr (.tuple [.list (li s),.list (li o)])]->R (.fr (.tuple [.int 0,.tuple (li s)])) [.un]->ii ss R
def w9{f:ap}{fd:kN}(F:Fun K "begun" "begun" nU f fd)(B:Bn mg):a9 P w K mg base CX0 1 f fd ["town"] (spD K ii):=by show okD (k:=0) F wz (λss R h=>?_) (!2) (λcdv A outer s H E a=>(_,(af (aB (cG (aa ag (aa (tO (K:=K) rfl rfl B.tuple (aa (qx (qv 0) ag) ad)) ad))))),λss R h=>?_));let(s,o,rfl,_):=h;rfl;let(s,o,rfl,q):=h;walk_at"dd";show(IQ (!2) ae,q)
def hU{s l r:Np}{n c:Nat}(h:c<n):(kQ s l r n).getD c 0=if (c:Int)∈r then s.getD c 0 else l.getD c 0-1:=by unfold kQ;simp[IP,h]
theorem jO:∀(n:Nat) (r:Np),r.Pairwise (·<·)->(∀x∈r,0<=x/\x<n)->r∈b7 n
 | 0,r,_,h=>by
  cases r with
  |nil=>simp[b7]
  |cons x l=>let:=h x (!1);lia
 |n + 1,r,d,h=>by
  show r∈b7 n++(b7 n).map (·++[(n:Int)]);by_cases hn:(n:Int)∈r;show IE _ ?_;rcases sb r with rfl|⟨l,x,rfl⟩
  cases hn;rw[se]at *;let(f,_,p3):=Km.mp d;let hx:=h x (!1);let c:x=(n:Int):=by rcases II.mp hn with z|z;let:=p3 _ z x (!1);lia;show(IG.mp z).symm
  show IZ.mpr (l,jO n l f λy e=>?_,by rw[c]);let a:=h y (by simp[e]);let b:=p3 y e x (!1);lia;show IJ _ (jO n r d λx hx=>?_);let a:=h x hx;let b:x≠(n:Int):=λz=>hn (z▸hx);lia
abbrev fH:Stmt:=top 9
def bM:ak ["town","standing","most","rows","clock","left","with_it"] ["town","standing"] (ac fH):={}
noncomputable def chs(h:Int)(l:Np):Nat->M9
 | 0=>[[]]
 |k+1=>if l.getD k 0=1 then ((chs h l k).filter λr=>decide ((-r:Int)<h)).map (·++[(k:Int)]) else chs h l k++((chs h l k).filter λr=>decide ((-r:Int)<h)).map (·++[(k:Int)])
def iX(l:Np)(k:Nat):cW l (k+1)=cW l k++(if l.getD k 0=1 then [(k:Int)] else []):=by
 unfold cW;rw[J6,JY,Jm]
 congr 1
 by_cases h:l.getD k 0=1;rw[M0 h,JG (by simpa using h)];rfl;rw[M1 h,J1 (by simpa using h)];rfl
def BH{l:Np}{k:Nat}{x:Int}(h:x∈cW l k):0<=x/\x<k:=by unfold cW at h;let(i,hi,rfl):=IZ.mp h;let:=Jz.mp (Ji.mp hi).1;lia
theorem iZ(h:Int)(e:0<=h)(l:Np):∀k,chs h l k=eB k h l
 | 0 => by
  show[[]]=lx _ [[]];rw[JG];rfl;show bQ h (cW l 0) []=NK;unfold bQ cW;simp[e]
 |k + 1=>by
  let f:=iZ h e l k;let e1:((b7 k).map (·++[(k:Int)])).filter (bQ h (cW l (k+1)))=((eB k h l).filter λr=>decide ((-r:Int)<h)).map (·++[(k:Int)]):=by
   unfold eB;rw[MC,List.filter_filter]
   congr 1
   show Mp λr b=>?_;let a:=bj k r b;show bQ h (cW l (k+1)) (r++[(k:Int)])=_;unfold bQ;rw[iX];let e2:(lx (λc=>decide (c ∉ r++[(k:Int)])) (cW l k++if l.getD k 0=1 then [(k:Int)] else []))=lx (λc=>decide (c ∉ r)) (cW l k):=by
    rw[JY];let e3:lx (λc=>decide (c ∉ r++[(k:Int)])) (if l.getD k 0=1 then [(k:Int)] else [])=[]:=by split <;> simp
    rw[e3,Jh];show Mp λc hc=>?_;let:=BH hc;let d:c≠(k:Int):=!0
    simp[d]
   rw[e2];let g:decide (((r++[(k:Int)]).length:Int)<=h)=(decide ((-r:Int)<h)&&decide ((-r:Int)<=h)):=by
    rw[Jg,JD];by_cases c:(-r:Int)<h;let c2:(-r:Int)<=h:=!0
    let c3:((-r+1:Nat):Int)<=h:=!0
    rw[decide_eq_true c,decide_eq_true c2,decide_eq_true c3];rfl;let c3:¬((-r+1:Nat):Int)<=h:=!0
    rw[decide_eq_false c,decide_eq_false c3];rfl
   rw[g,Bool.and_assoc]
  let e2:(b7 k).filter (bQ h (cW l (k+1)))=if l.getD k 0=1 then [] else eB k h l:=by
   split;rename_i h1;show LS.mpr λr b=>?_;let a:=bj k r b;unfold bQ;rw[iX,M0 h1,JY];let hn:(k:Int) ∉ r:=λz=>by let:=a.2.2 _ z;lia
   simp[hn];rename_i h1;unfold eB;rw[iX,M1 h1,Jh]
  show(if l.getD k 0=1 then _ else _)=lx _ (b7 k++(b7 k).map (·++[(k:Int)]));rw[JY,e1,e2,f];split;rw[Kt];rfl
def GY:ab->Int
 |.list es=>-es
 |_=>0
inductive fE:DSp
 |mk {ss R} (s o l:Np) (d:Nat):ss=[.fr (.tuple [.list (li s),.list (li o)]),.fr (.tuple [.int d,.tuple (li l)])]->s.length<=6->0<=o.getD d 0->(s.length<=4\/o.getD d 0<=3)->StB s o d l->(∀cs:M9,cs.Perm (eB s.length (o.getD d 0) l)->(cs.Pairwise λa b=>a.length<=b.length)->R (.ow (lr cs)) [.un,.un])->fE ss R
def rO{f:ap}{fd:kN}(F:Fun K "choices" "choices" fH f fd)(B:Bn mg)(L:sx K base "choices" fd)(e:Cal P w K mg base "hands_on" 1 (spD K ig)):a9 P w K mg base CX0 6 f fd ["town","standing"] (spD K fE):=by
 show FU (k:=5) F bM (λss R h=>?_) (!2) (λcdv v A outer s H E t=>(_,(ai (ax 2 bM.nd (ao e (aa (qf 0) (aa (qf 1) ad))))
   (ai (ax 3 bM.nd (cP (aa (cP ad) ad)))
   (ai (gh PassesOwn.never rfl (j0 NK (K:=K) rfl rfl B.enumerate (aa (qx (qv 1) ag) ad)) (iE (K:=K) (n:=2) rfl rfl (bf (am 4 bM.nd) (bf (am 5 bM.nd) eZ))) (ai (bw 6 bM.nd (NN:=_::_) (sc0:=ac fH) (N':=["row","most","clock"]) (ix:=[NJ,NI 2,NI 4]) (aA (qf 3)) (λY Y Y Y=>(am 0 (!4))) (λY Y Y Y=>(rC (gm (K:=K) rfl) Cf (qv 0) (cP (aa (qf 2) ad)))) (ht:=(λY Y Y Y=>(iC (ay ur mB (jc B.len (qv 0)) (qv 1))))))
   (af (ax 3 bM.nd (gg (ay rJ DJ (qv 5) ag) (qf 6) (rC (gm (K:=K) rfl) Cf (qv 3) (qv 6)))))))
   (af (aB (CZ qg (p := "row") (K:=K) rfl (let ⟨c,T,a,b,d⟩:=L;(c,T,v.trans a,b,d)) (t.mono (!2)) rfl B.sorted (aa (qv 3) ad) (rfl,rfl,rfl,!2,rfl,λx hx=>by rw[IG.mp hx];show .inl rfl,!2) (λY Y Y Y Y=>rfl) rfl rfl (λY Y Y Y Y=>(cG (aa (jc B.len (qv 0)) (aa (qf 0) ad)))))))))),λss R h=>?_))
 let(s,o,l,d,rfl,_):=h;rfl;let(s,o,l,d,rfl,C,u,D,G,q):=h;let(s1,s2):=G;lk;show(s,o,l,d,rfl,s1,?_);lk;show(Jb _,IQ (!2) ae,?_);lk;show qw (λi env=>∃(rv a b c:Sl),env=[.fr (.tuple [.list (li s),.list (li o)]),.fr (.tuple [.int d,.tuple (li l)]),.fr (.int (o.getD d 0)),rv,a,b,c]/\(rv=.ow (lr (chs (o.getD d 0) l i))\/rv=.fr (.list (lr (chs (o.getD d 0) l i))))) (_,_,_,_,rfl,.inl rfl) ?_ ?_
 .rintro i env hi ⟨rv,a,b,c,rfl,g⟩;rw[dW,bK];rw[a8,IF]at hi;let hz:(chs (o.getD d 0) l i).length<=64:=by
   rw[iZ _ u];show IQ (Jy _ _) ?_;rw[fB];show JQ (!2) (show i<=6 by lia)
  let m:∀r∈chs (o.getD d 0) l i,-r<=6:=λr t=>by
   rw[iZ _ u]at t;let:=(bj i r (Ji.mp t).1).1;lia
  let I:chs (o.getD d 0) l (i+1)=if l.getD i 0=1 then ((chs (o.getD d 0) l i).filter λr=>decide ((-r:Int)<o.getD d 0)).map (·++[(i:Int)]) else chs (o.getD d 0) l i++((chs (o.getD d 0) l i).filter λr=>decide ((-r:Int)<o.getD d 0)).map (·++[(i:Int)]):=rfl
  rw[I];generalize chs (o.getD d 0) l i=cs at *;generalize o.getD d 0=hd at *;rcases g with rfl|rfl
  all_goals
   lk;show dX (λj=>decide (((cs.getD j []).length:Int)<hd)) (λj=>.list (li (cs.getD j []++[(i:Int)]))) (by rw[IF];lia) (λj hj Q N h1 h2=>?_) ?_
   .rw[IF]at hj;rw[gJ];let O:=m _ (bZ (l:=cs) hj);lk;rw[IF];show kP (λh=>?_) (λh=>h2 (by simpa using h));rw[dR];show(IQ (!2) ae,IQ (!0) ae,h1 (by simpa using h))
   rw[IF,dw cs [] (λr=>decide ((-r:Int)<hd)) (λr=>dk (li (r++[(i:Int)])))];lk;show kP (λh1=>?_) (λh1=>?_);rw[M0 h1];show .inr (!1);rw[M1 h1];let S:=Jy (λr:Np=>decide ((-r:Int)<hd)) cs;show(?_,.inl (!1));rw[IF,IF];show IQ (!0) ae
 .rintro env ⟨rv,a,b,c,rfl,g⟩;rw[a8,IF,s2]at g;let hz:(chs (o.getD d 0) l (-s)).length<64:=by
   rw[iZ _ u];show iV C D
  rcases g with rfl|rfl
  all_goals
   lk;show(by rw[IF];show hz,GY,λx hx=>?_,λes y J=>?_)
   .let(r,_,rfl):=IZ.mp hx;unfold Bc D2;walk_at"dd";show(IQ (!2) ae,(_,r,rfl),rfl)
   let(cs,M,rfl):=cA y _ rfl;show q cs (by rw[<-iZ _ u];show M) ((Kk.mp J).imp λz=>by simpa[GY] using z)
section
variable{κ β:Type}[DecidableEq κ]
def xK(a b:List (κ×β))(k:κ):cu (a++b) k=match cu a k with|some v=>NI v|none=>cu b k:=by
 induction a with
 |nil=>rfl
 |cons p a c =>
  rw[La,bz,bz,c];by_cases h:p.1=k <;> simp[h]
def xI(kvs:List (κ×β))(k:κ)(v:β)(x:κ):cu (kvs.map λp=>if p.1=k then (p.1,v) else p) x=if x=k then (cu kvs x).map λY=>v else cu kvs x:=by
 induction kvs with
 |nil=>simp[cu]
 |cons p kvs a =>
  rw[IU,bz,bz,a];by_cases h1:p.1=k;by_cases h2:x=k;simp[h1,h2];let:¬k=x:=λz=>h2 z.symm;simp[h1,h2,this];by_cases h2:p.1=x;subst h2;simp[h1];simp[h1,h2]
def bH(kvs:List (κ×β))(k:κ)(v:β)(x:κ):cu (kO kvs k v) x=if x=k then NI v else cu kvs x:=by
 unfold kO;cases e:cu kvs k with
 |some w =>
  rw[M0 (show(NI w).isSome=NK from rfl),xI];by_cases h:x=k;subst h;simp[e];simp[h]
 |none =>
  rw[M1 (!1),xK,bz,xJ];by_cases h:x=k;subst h;simp[e];let:¬k=x:=λz=>h z.symm;simp only[this,h,if_false];cases cu kvs x <;> rfl
end
theorem fO{α:Type} [DecidableEq α]:∀{l U:List α},l.Nodup->(∀x∈l,x∈U)->-l<=-U
 |[],_,_,_=>Jb _
 |x::l,U,hn,h=>by
  let(h1,h2):=Jr.mp hn;let hx:=h x (!1);let:=fO (l:=l) (U:=U.erase x) h2 λy a=>(List.mem_erase_of_ne (λ(z:y=x)=>h1 (by rw[<-z];show a))).mpr (h y (by simp[a]));rw[List.length_erase_of_mem hx]at this;let b:0< -U:=List.length_pos_of_mem hx;simp;lia
def kj{n:Nat}{h:Int}{l r:Np}:r∈eB n h l↔r∈b7 n/\(-r:Int)<=h/\∀c,c<n->l.getD c 0=1->(c:Int)∈r:=by
 unfold eB bQ;rw[Ji,Jw,decide_eq_true_eq,decide_eq_true_eq];let a:(lx (λc=>decide (c ∉ r)) (cW l n))=[]↔∀c,c<n->l.getD c 0=1->(c:Int)∈r:=by
  rw[LS];constructor;intro h c hc e;let:=h (c:Int) (by
   unfold cW;show IZ.mpr (c,Ji.mpr (Jz.mpr hc,decide_eq_true e),rfl))
  simpa using this;intro h x hx;unfold cW at hx;let(c,hc,rfl):=IZ.mp hx;let(h1,h2):=Ji.mp hc;let:=h c (Jz.mp h1) (of_decide_eq_true h2);simpa using this
 rw[a]
abbrev Std:=Nat×Np
abbrev M2:=List (Std×List (List Int))
abbrev Nc:=List (Std×Int)
abbrev Nv:=List Std
def cL(s o:Np)(x:Std)(r:Np):Std:=((x.1+1) % (-o),kQ s x.2 r (-s))
def eI(s o:Np)(x:Std)(fr:M9):Prop:=(∀r∈fr,r∈eB (-s) (o.getD x.1 0) x.2)/\(∀r∈eB (-s) (o.getD x.1 0) x.2,∃r'∈fr,∀c∈r,c∈r') /\
 (∀r∈fr,∀r'∈eB (-s) (o.getD x.1 0) x.2,-r'<=-r)/\∀r∈eB (-s) (o.getD x.1 0) x.2,(∀r'∈eB (-s) (o.getD x.1 0) x.2,-r'<=-r)->r∈fr
def eI.same{s o:Np}{x:Std}{fr a:M9}(h:eI s o x fr)(h':eI s o x a){r:Np}(b:r∈fr):r∈a:=h'.2.2.2 r (h.1 r b) (h.2.2.1 r b)
def IsS(s o:Np)(x:Std):Prop:=x.1< -o/\x.2.length=-s/\∀c,c< -s->1<=x.2.getD c 0/\x.2.getD c 0<=s.getD c 0
def lX{s o:Np}(hs:∀x∈s,1<=x){x:Std}{r:Np}(h:IsS s o x)(a:r∈eB (-s) (o.getD x.1 0) x.2):IsS s o (cL s o x r):=by let(h1,h2,h3):=h;show(v2 _ (!0),kL _ _ _ _,λc hc=>?_);let b:=(kj.mp a).2.2;show 1<=(kQ s x.2 r (-s)).getD c 0/\(kQ s x.2 r (-s)).getD c 0<=_;rw[hU hc];let d:=h3 c hc;let f:=hs _ (aE hc);split;lia;rename_i hn;by_cases e:x.2.getD c 0=1;show absurd (b c hc e) hn;lia
noncomputable def yk:Np->M9
 |[]=>[[]]
 |x::s=>((cp x.toNat).map λ(i:Nat)=>(yk s).map λl=>((i:Int)+1)::l).flatten
theorem qc:∀{s l:Np},-l=-s->(∀c,c< -s->1<=l.getD c 0/\l.getD c 0<=s.getD c 0)->l∈yk s
 |[],l,h,_=>by
  rw[LK.mp h];simp[yk]
 |x::s,[],h,_=>by simp at h
 |x::s,y::l,h,a=>by
  let b:=a 0 (!1);let e:1<=y/\y<=x:=by simpa using b
  let d:=qc (s:=s) (l:=l) (by simpa using h) λc hc=>by simpa using a (c+1) (by simpa using hc)
  unfold yk;show Mv.mpr (_,IZ.mpr ((y-1).toNat,Jz.mpr (!0),rfl),IZ.mpr (l,d,?_));rw[show(((y-1).toNat:Nat):Int)+1=y by lia]
def lE:Np->Nat
 |[]=>1
 |x::s=>x.toNat*lE s
theorem q5:∀s:Np,(yk s).length=lE s
 |[]=>rfl
 |x :: s=>by
  unfold yk lE;rw[Md,Jq];let:(np ∘ λ(i:Nat)=>(yk s).map λl=>((i:Int)+1)::l)=λY=>lE s:=by funext i;simp[q5 s]
  rw[this,r0,LR,Jl]
def qZ(s o:Np):Nv:=((cp (-o)).map λd=>(yk s).map λl=>(d,l)).flatten
def km{s o:Np}{x:Std}(h:IsS s o x):x∈qZ s o :=
 Mv.mpr (_,IZ.mpr (x.1,Jz.mpr h.1,rfl),IZ.mpr (x.2,qc h.2.1 h.2.2,rfl))
def yj(s o:Np):(qZ s o).length=-o*lE s:=by
 unfold qZ;rw[Md,Jq];let:(np ∘ λd=>(yk s).map λl=>((d,l):Std))=λY=>lE s:=by funext i;simp[q5 s]
 rw[this,r0,LR,Jl]
def noB(s o:Np)(x y:Std):Prop:=IsS s o y/\x.1=y.1/\x.2.length=-s/\∀c,c< -s->y.2.getD c 0<=x.2.getD c 0
def goS(s o:Np)(y z:Std):Prop:=∃r∈eB (-s) (o.getD y.1 0) y.2,z=cL s o y r
def xP{s o l l' r:Np}{d:Nat}(b:∀c,c< -s->1<=l.getD c 0/\l.getD c 0<=l'.getD c 0)(a:r∈eB (-s) (o.getD d 0) l):r∈eB (-s) (o.getD d 0) l':=by rw[kj]at a ⊢;show(a.1,a.2.1,λc hc e=>a.2.2 c hc ?_);let:=b c hc;lia
def xT{s o:Np}(hs:∀x∈s,1<=x){x y z:Std}{fr:M9}(i:eI s o x fr)(hl:noB s o x y)(hg:goS s o y z):∃r∈fr,noB s o (cL s o x r) z:=by
 cbv;let(e,e1,l1,h):=hl;let(d,a,rfl):=hg;let f:d∈eB (-s) (o.getD x.1 0) x.2:=by rw[e1];show xP (λc hc=>((e.2.2 c hc).1,h c hc)) a
 let(r,j,b):=i.2.1 d f
 w_up;show(r,j,lX hs e a,?_,kL _ _ _ _,λc hc=>?_);show(x.1+1) % (-o)=(y.1+1) % (-o);rw[e1];show(kQ s y.2 d (-s)).getD c 0<=(kQ s x.2 r (-s)).getD c 0;rw[hU hc,hU hc];let h1:=h c hc;let h2:=(e.2.2 c hc).2;by_cases g:(c:Int)∈d;rw[M0 g,M0 (b _ g)];show Jo _;rw[M1 g];split <;> lia
def y4(c:Int)(r:Np):Np:=r.filter (λx=>decide (x<c))++c::r.filter (λx=>decide (c<x))
def ki{c x:Int}{r:Np}:x∈y4 c r↔x=c\/x∈r:=by unfold y4;rw[II,IR,Ji,Ji,decide_eq_true_eq,decide_eq_true_eq];constructor;rintro(h|h|h);show .inr h.1;show .inl h;show .inr h.1;rintro(h|h);show .inr (.inl h);by_cases h1:x<c;show .inl (h,h1);by_cases h2:x=c;show .inr (.inl h2);show .inr (.inr (h,!0))
def qq{c:Int}{r:Np}(h:c ∉ r):(y4 c r).length=-r+1:=by
 unfold y4;rw[Jg,Jf];let : ∀r:Np,c ∉ r->(r.filter λx=>decide (x<c)).length+(r.filter λx=>decide (c<x)).length=-r:=λr=>by
  induction r with
  |nil=>exactλY=>rfl
  |cons x r a =>
   intro h;let h1:c≠x:=λz=>h (by simp[z]);let:=a λz=>h (IM _ z);by_cases h2:x<c;let h3:¬c<x:=!0
   rw[JG (by simpa using h2),J1 (by simpa using h3),Jf,Jf];lia;let h3:c<x:=!0
   rw[J1 (by simpa using h2),JG (by simpa using h3),Jf,Jf];lia
 let:=this r h;lia
def rX{c:Int}{r:Np}(h:r.Pairwise (·<·)):(y4 c r).Pairwise (·<·):=by
 unfold y4;show Km.mpr (h.filter _,Mi.mpr (λx hx=>?_,h.filter _),λx hx y a=>?_);simpa using(Ji.mp hx).2;let h1:x<c:=by simpa using(Ji.mp hx).2
 rcases IR.mp a with a|a;rw[a];show h1;let h2:c<y:=by simpa using(Ji.mp a).2
 lia
def Bv{s o l r:Np}{d:Nat}{c:Int}(a:r∈eB (-s) (o.getD d 0) l)(hc:0<=c/\c< -s)(hn:c ∉ r)(h:(-r:Int)+1<=o.getD d 0):y4 c r∈eB (-s) (o.getD d 0) l:=by rw[kj]at a ⊢;let(h1,h3,b):=a;let(_,f,g):=bj _ _ h1;show(jO _ _ (rX f) λx hx=>?_,?_,λk hk e=>ki.mpr (.inr (b k hk e)));rcases ki.mp hx with rfl|hx;show hc;show g x hx;rw[qq hn];lia
def nW{r:Np}(h:r.Pairwise (·<·)):r.Nodup:=h.imp λ{a b} (z:a<b) (e:a=b)=>!0
theorem qu{s o l:Np}{d:Nat}{a:Np}(h1:a∈eB (-s) (o.getD d 0) l):∀n (r:Np),r∈eB (-s) (o.getD d 0) l->-r+n=-a->∃r'∈eB (-s) (o.getD d 0) l,-r'=-a/\∀x∈r,x∈r'
 | 0,r,f,e=>(r,f,!0,λx hx=>hx)
 |n + 1,r,f,e=>by
  cbv;let(_,g,h):=bj _ _ (Ji.mp h1).1;let i:(-a:Int)<=o.getD d 0:=by let:=(Ji.mp h1).2;unfold bQ at this;rw[Jw,decide_eq_true_eq]at this;show this.1
  let : ∃c∈a,c ∉ r:=by
   by_cases hc:∃c∈a,c ∉ r;show hc;let:=fO (nW g) (U:=r) λx hx=>by
    by_cases b:x∈r;show b;show absurd (x,hx,b) hc
   lia
  let(c,c1,c2):=this;let(r',a1,a2,a3):=qu h1 n (y4 c r) (Bv f (h c c1) c2 (!0)) (by rw[qq c2];lia)
  w_up;show(r',a1,a2,λx hx=>a3 x (ki.mpr (.inr hx)))
def Bu{s o:Np}{x:Std}{fr:M9}{e:Np}(h1:e∈eB (-s) (o.getD x.1 0) x.2)(c:∀r∈eB (-s) (o.getD x.1 0) x.2,-r<=-e)
  (f:∀r,r∈fr↔r∈eB (-s) (o.getD x.1 0) x.2/\r.length=-e):eI s o x fr:=by show(λr d=>((f r).mp d).1,λr d=>?_,λr d r' g=>?_,λr d h=>(f r).mpr (d,Nat.le_antisymm (c r d) (h e h1)));let(r',a1,a2,a3):=qu h1 (-e- -r) r d (by let:=c r d;lia);show(r',(f r').mpr (a1,a2),a3);let a:=((f r).mp d).2;let b:=c r' g;lia
def xO{s o:Np}{x:Std}(h:eB (-s) (o.getD x.1 0) x.2=[]):eI s o x []:=by
 show(λr a=>(by cases a),λr a=>?_,λr a=>(by cases a),λr a=>?_)
 all_goals
  rw[h]at a;cases a
structure fV(s o:Np)(P:Nc):Prop where
 bg : ∃e∈P,e.1=((0,s):Std)
 is : ∀e∈P,IsS s o e.1/\0<=e.2/\e.2<100000
 down:∀e∈P,∃fr,eI s o e.1 fr/\∀r∈fr,∃e'∈P,e'.1=cL s o e.1 r/\e'.2<e.2
def fV.step{s o:Np}{P:Nc}(h:fV s o P)(hs:∀x∈s,1<=x){e:Std×Int}{y z:Std}(a:e∈P)(hn:noB s o e.1 y)(hg:goS s o y z):∃e'∈P,noB s o e'.1 z/\e'.2<e.2:=by
 cbv;let(fr,b,c):=h.down e a;let(r,d,hz):=xT hs b hn hg;let(e',m,f,g):=c r d
 w_up;show(e',m,by rw[f];show hz,g)
def vH(a:M9)(x:Np):atI (lr (a++[x])) (-1)=NI (.list (li x)):=by show atI (ec _ (a++[x])) (-1)=_;rw[Jm];show cX _ _
abbrev dq:Stmt:=top 13
def cJ:ak ["town","standing","lefts","rows","full"] ["town","standing"] (ac dq):={}
inductive pF:DSp
 |mk {ss R} (s o l:Np) (d:Nat):ss=[.fr (.tuple [.list (li s),.list (li o)]),.fr (.tuple [.int d,.tuple (li l)])]->s.length<=6->0<=o.getD d 0->(s.length<=4\/o.getD d 0<=3)->StB s o d l->(∀fr:M9,eI s o (d,l) fr->fr.length<64->R (.ow (lr fr)) [.un,.un])->pF ss R
def lT{f:ap}{fd:kN}(F:Fun K "full_rows" "full_rows" dq f fd)(B:Bn mg)(L:sx K base "full_rows" fd)(e:Cal P w K mg base "choices" 6 (spD K fE)):a9 P w K mg base CX0 7 f fd ["town","standing"] (spD K pF):=by
 show FU (k:=6) F cJ (λss R h=>?_) (!2) (λcdv v A outer s H E g=>(_,(bc (ax 2 cJ.nd (qx (qv 1) ag))
   (bc (ax 3 cJ.nd (ao e (aa (qf 0) (aa (qf 1) ad))))
   (bc (bw 4 cJ.nd (NN:=_::_) (sc0:=ac dq) (N':=["row","rows"]) (ix:=[NJ,NI 3]) (aA (qf 3)) (λ_ _ _ _=>(am 0 (!4))) (λ_ _ _ _=>(qf 0)) (ht:=(λ_ _ _ _=>(iC (ay rJ DJ (jc B.len (qv 0)) (jc B.len (qx (qv 1) (ET kW EW ag))))))))
   (af (aB (FN 2 xx (p := "row") (x := "lefts") (K:=K) rfl (let ⟨c,T,a,b,d⟩:=L;(c,T,v.trans a,b,d)) (g.mono (!2)) rfl B.sorted (aa (qv 4) ad) (rfl,rfl,rfl,rfl,rfl,!2,!2,!2) rfl (ef cc) cc (λz=>nomatch (show(NI hI:Option NameKind)=NI .local from z)) (λ_ _ _ _ _ _=>rfl) (λc hc=>by cases hc;rfl) rfl (λ_ _ _ _ _ _ y=>(CY qh (K:=K) rfl (jw y) rfl B.sorted (aa (Ar (N':=["clock","lefts"]) (ix:=[NJ,NI 1]) rfl (GI (!3)) (aA (qf 0)) (λ_ _ _ _=>(am 0 (!4))) (λ_ _ _ _=>iD) (λ_ _ _ _=>(qx (qv 1) (qv 0)))) ad))))))))),λss R h=>?_))
 let(s,o,l,d,rfl,_):=h;rfl;let(s,o,l,d,rfl,J,S,M,N,q):=h;let(s1,s2):=id N;walk_at"dd";show(s,o,l,d,rfl,J,S,M,N,λcs n C=>?_);walk_at"dd";let t:-cs<64:=by rw[n.length_eq];show iV J M
 let D:∀r∈cs,-r<=6/\∀x∈r,0<=x/\x< -s:=λr g=>by
  let:=bj _ r (Ji.mp (n.mem_iff.mp g)).1;show(!0,this.2.2)
 obtain⟨m,U,hF⟩:∃m:Nat,(∀j,j< -cs->∃z:Np,atI (lr cs) (-1)=NI (.list (li z))/\z.length=m)/\∀fr:M9,fr.Perm (cs.filter λr=>decide (-r=m))->eI s o (d,l) fr:=by
  rcases sb cs with rfl|⟨X,r,rfl⟩
  show(0,λj hj=>absurd hj (MH _),λfr h=>by rw[show fr=[] from LZ h];show xO (show eB (-s) (o.getD d 0) l=[] from LZ n.symm));rw[se]at *;let C:=(Km.mp C).2.2;show(-r,λj hj=>(r,vH _ _,rfl),λfr h=>Bu (x:=(d,l)) (n.mem_iff.mp (IE _ IL)) (λr' g=>?_) λr'=>?_);rcases II.mp (n.mem_iff.mpr g) with h|h;show C _ h _ IL;rw[IG.mp h];show IS _;rw[h.mem_iff,Ji,n.mem_iff,decide_eq_true_eq]
 show dX (λj=>decide ((cs.getD j []).length=m)) (λj=>.list (li (cs.getD j []))) (by rw[IF];lia) (λj hj Q Y h1 h2=>?_) ?_
 .rw[IF]at hj;rw[gJ];let(z,z1,z2):=U j hj;walk_at"dd";show(_,z1,_,rfl,?_);rw[IF,IF];show kP (λh=>h1 (decide_eq_true (!0))) (λh=>h2 (decide_eq_false (!0)))
 rw[IF,dw cs [] (λr=>decide (-r=m)) (λr=>dk (li r))];walk_at"dd";let O:(cs.filter λr=>decide (-r=m)).length<64:=Kw (Jy _ _) t;show(by rw[IF];show O,λx hx=>?_,λes G=>?_)
 .let(r,g,rfl):=IZ.mp hx;let(Z,I):=D r (Ji.mp g).1;unfold Bc D2;walk_at"dd";show bA (λi=>.int (l.getD (r.getD i 0).toNat 0)) (by rw[IF];lia) (λi hi Q V=>?_) ?_
  .rw[IF]at hi;rw[bK];let h9:=I _ (aE hi);walk_at"dd";rw[show r.getD i 0=((r.getD i 0).toNat:Int) by lia];show(_,dE (!0),V)
  .lk;show(λd hd=>?_,by simp;lia,λes W=>?_);let(i,_,rfl):=IZ.mp hd;show(_,rfl);let(ns,_,rfl):=cA (f:=eb) W ((cp (li r).length).map λi=>l.getD (r.getD i 0).toNat 0) (by rw[Jq];rfl);show((ns,rfl),rfl)
 let(fr,u,rfl):=cA G _ rfl;show q fr (hF fr u) (by rw[u.length_eq];show O)
abbrev stS(x:Std):ab:=dD ((x.1:Int),x.2)
def kOf(x:Std):aL:=((x.1:Int),x.2)
def gr{x y:Std}(h:kOf x=kOf y):x=y:=by let(a,b):=x;let(c,d):=y;unfold kOf at h;simp only[lc]at h ⊢;show(!0,h.2)
def z7{κ β:Type} [DecidableEq κ]{kvs:List (κ×β)}{k:κ}{v:β}(h:(cu kvs k).isSome=NK):(kO kvs k v).length=-kvs:=by unfold kO;rw[M0 h,IF]
def xE(W:M3):(cp (ec wD W).length).map (λi:Nat=>dk (li ((W.getD i []).getD 0 [])))=lr (W.map λw=>w.getD 0 []):=by show _=ec _ (ec _ _);rw[IF,Jq];show JJ (!1) λi h1 h2=>?_;rw[IF]at h2;simp[IP,h2]
def vx(ns:M9)(a b:Nk):kE (lr ns) a b=lr ((ns.drop (HT.sIx (-ns) 0 a)).take (HT.sIx (-ns) (-ns) b-HT.sIx (-ns) 0 a)):=by unfold kE;show(List.drop _ (ec (λr=>dk (li r)) ns)).take _=ec _ _;rw[IF,LG,LH]
def vv(ns:M9)(c:Nat):kE (lr ns) NJ (NI (c:Int))=lr (ns.take c):=by rw[vx,HT.sIx_none,HT.sIx_nat,Ls,LV];by_cases h:c<=-ns;rw[Kv h];rw[ri (!0),JK (IS _),JK (!0)]
def vy(ns:M9)(c:Nat):kE (lr ns) (NI (c:Int)) NJ=lr (ns.drop c):=by rw[vx,HT.sIx_none,HT.sIx_nat];by_cases h:c<=-ns;rw[Kv h,JK (!1)];rw[ri (!0),Ki (IS _),Ki (!0)];simp
abbrev Cj(s o:Np)(x:Std)(r:Np):Prop:=r∈eB (-s) (o.getD x.1 0) x.2
inductive Wy (s o:Np) (x:Std):M9->Std->Prop
 |nil:Wy s o x [] x
 |snoc {A y r}:Wy s o x A y->Cj s o y r->Wy s o x (A++[r]) (cL s o y r)
inductive Chn (s o:Np) (x0:Std):M2->Prop
 |nil:Chn s o x0 []
 |one {w:M9}:Chn s o x0 [(x0,w)]
 |go {x:Std}{r:Np}{w u:M9}{Z:M2}:Chn s o x0 ((x,r::w)::Z)->Cj s o x r->Chn s o x0 ((cL s o x r,u)::(x,r::w)::Z)
section
variable{s o:Np}{x y z x0:Std}{r:Np}{A B w:M9}{T D Z:M2}
def goW(s o:Np)(x:Std)(A:M9):Std:=A.foldl (cL s o) x
def xG:goW s o x (A++[r])=cL s o (goW s o x A) r:=by unfold goW;rw[List.foldl_append];rfl
def Wy.eq(h:Wy s o x A y):goW s o x A=y:=by
 induction h with
 |nil=>rfl
 |snoc h b a=>rw[xG,a]
theorem Wy.at(h:Wy s o x A y):∀i (hi:i< -A),Cj s o (goW s o x (A.take i)) A[i]:=by
 induction h with
 |nil=>intro i hi;cases hi
 |@snoc A y r h a b =>
  intro i hi;by_cases e:i< -A;rw[Kj (JW e),LI e];show b i e;let e:i=-A:=by simp at hi;lia
  subst e;simpa[h.eq] using a
def Wy.is(hs:∀x∈s,1<=x)(h:Wy s o x A y)(hx:IsS s o x):IsS s o y:=by
 induction h with
 |nil=>show hx
 |snoc h a b=>show lX hs b a
def Wy.rows(h:Wy s o x A y):∀r∈A,∃h l,r∈eB (-s) h l:=λr a=>by
 let(i,hi,rfl):=J2 a;show(_,_,h.at i hi)
def ind(c:Nat)(r:Np):Int:=if (c:Int)∈r then 1 else 0
def wnd(A:M9)(c:Nat):Int:=(A.map (ind c)).sum
def wg{α:Type}(l:List α)(f g:α->Int):(l.map λx=>f x+g x).sum=(l.map f).sum+(l.map g).sum:=by
 induction l with
 |nil=>rfl
 |cons x l a =>
  rw[IU,IU,IU,JB,JB,JB,a];lia
def jN{α:Type}(l:List α)(f:α->Int)(a:Int):(l.map λx=>a*f x).sum=a*(l.map f).sum:=by
 induction l with
 |nil=>simp
 |cons x l b=>rw[IU,IU,JB,JB,b,Int.mul_add]
def zS{α:Type}{l:List α}{f g:α->Int}(h:∀x∈l,f x<=g x):(l.map f).sum<=(l.map g).sum:=by
 induction l with
 |nil=>show Jo _
 |cons x l a =>
  rw[IU,IU,JB,JB];let:=h x (!1);let:=a λy b=>h y (by simp[b]);lia
def Bl{n:Nat}:∀r∈b7 n,((cp n).map λc=>ind c r).sum=-r:=by
 induction n with
 |zero=>intro r a;simp[b7]at a;subst a;rfl
 |succ n b =>
  intro r a;rw[J6,Jm,Ku];let a:r∈b7 n++(b7 n).map (·++[(n:Int)]):=a;rcases II.mp a with h|h;let hn:ind n r=0:=M1 λz=>by let:=(bj n r h).2.2 _ z;lia
  rw[b r h,show ec (λc=>ind c r) [n]=[ind n r] from rfl,hn];simp;let(q,d,rfl):=IZ.mp h;let hn:ind n (q++[(n:Int)])=1:=M0 (!1);let e:(cp n).map (λc=>ind c (q++[(n:Int)]))=(cp n).map λc=>ind c q:=Kp λc hc=>by
   let hc:=Jz.mp hc;unfold ind;let:((c:Int)∈q++[(n:Int)])↔(c:Int)∈q:=by rw[II,IG];show(λz=>z.elim id λz=>!0,.inl)
   simp only[this]
  rw[e,b q d,show ec (λc=>ind c (q++[(n:Int)])) [n]=[ind n (q++[(n:Int)])] from rfl,hn];simp
def wd(o:Np){d:Nat}(h:d< -o):(o.take (d+1)).sum=(o.take d).sum+o.getD d 0:=by rw[JT,IK h,Ku,IP,IK h];simp
def pf(c:Nat):wnd (A++[r]) c=wnd A c+ind c r:=by unfold wnd;rw[Jm,Ku];simp
def Wy.clk(hs:∀x∈s,1<=x)(h:Wy s o x A y)(hx:IsS s o x){c:Nat}(hc:c< -s):y.2.getD c 0+-A<=x.2.getD c 0+wnd A c*s.getD c 0:=by
 induction h with
 |nil=>simp[wnd]
 |@snoc A y r h b d =>
  let e:=(h.is hs hx).2.2 c hc;show(kQ s y.2 r (-s)).getD c 0+_<=_;rw[hU hc,pf,Int.add_mul,Jg,JD];unfold ind;by_cases a:(c:Int)∈r;rw[M0 a,M0 a,Int.one_mul];lia;rw[M1 a,M1 a,L0];lia
def Wy.days(hs:∀x∈s,1<=x)(h:Wy s o x A y)(hx:IsS s o x):∃k:Nat,-A+x.1=y.1+k*-o/\((cp (-s)).map (wnd A)).sum<=(o.take y.1).sum-(o.take x.1).sum+k*o.sum:=by
 induction h with
 |nil =>
  show(0,!1,?_);let:((cp (-s)).map (wnd [])).sum=0:=by let:=jN (cp (-s)) (wnd []) 0;rw[L0]at this;show(congrArg MJ (Kp λc Y=>(L0 _).symm)).trans this
  rw[this];lia
 |@snoc A y r h b d =>
  let(k,e1,e2):=d;let e:=(h.is hs hx).1;let a:=kj.mp b;let e3:((cp (-s)).map (wnd (A++[r]))).sum=((cp (-s)).map (wnd A)).sum+-r:=by rw[<-Bl _ a.1,<-wg];show congrArg MJ (Kp λc Y=>pf c)
  let st:=wd o e;let hl:=a.2.1;rw[e3,Jg,JD];show ∃k,_=(y.1+1) % (-o)+k*-o/\_<=(o.take ((y.1+1) % (-o))).sum-_+_;by_cases hw:y.1+1< -o;rw[Nat.mod_eq_of_lt hw];show(k,!0,!0);let hw:y.1+1=-o:=!0
  rw[hw,JI]at st;rw[hw,Nat.mod_self,List.take_zero];show(k+1,by rw[Nat.add_mul];lia,?_);rw[show(((k+1:Nat):Int))*o.sum=k*o.sum+o.sum by push_cast;rw[Int.add_mul];lia];simp only[MY];lia
structure Rg(s o:Np)(A B:M9):Prop where
 ex : ∃y,Wy s o (0,s) A y/\Wy s o y B y
 ne : 1<=B.length
def is0(hs:∀x∈s,1<=x)(ho:1<=-o):IsS s o (0,s):=(ho,rfl,λc hc=>(hs _ (aE hc),Jo _))
def Rg.mod(hs:∀x∈s,1<=x)(ho:1<=-o)(h:Rg s o A B):-B % (-o)=0:=by let(y,h1,h2):=h.ex;let(k,e,_):=h2.days hs (h1.is hs (is0 hs ho));rw[show -B=k*-o by lia];show Nat.mul_mod_left _ _
def Rg.share(hs:∀x∈s,1<=x)(ho:1<=-o)(h:Rg s o A B){d:Int}(u:1<=d)(hds:∀x∈s,x∣d)(b:(-o:Int)∣d):(s.map (d / ·)).sum<=d / -o*o.sum:=by
 cbv;let((y,h1,h),hL):=h;let m:=h1.is hs (is0 hs ho);let(k,D,E):=h.days hs m;let f:(-B:Int)=k*-o:=by
  rw[show -B=k*-o by lia]
  push_cast
  rfl
 let F:0<k:=by rcases Nat.eq_zero_or_pos k with z|z;subst z;lia;show z
 let v:((cp (-s)).map (wnd B)).sum<=k*o.sum:=!0
 let(q,n):=b
 w_up;let g:d / (-o:Int)=q:=by rw[n];show LL _ (!0)
 rw[g];let e:s.map (d / ·)=(cp (-s)).map λc=>d / s.getD c 0:=by
  apply JJ;simp;intro i h1 h2;let:i< -s:=by simpa using h1
  simp[IP,this]
 let a:((cp (-s)).map λc=>(-B:Int)*(d / s.getD c 0)).sum<=((cp (-s)).map λc=>d*wnd B c).sum:=zS λc hc=>by
  let hc:=Jz.mp hc;let r:=aE hc;let h1:=hs _ r;let(p,t):=hds _ r;let j:d / s.getD c 0=p:=by rw[t];show LL _ (!0)
  let l:0<=p:=by rcases Int.lt_or_le p 0 with z|z;let:=Int.mul_neg_of_pos_of_neg (show 0<s.getD c 0 by lia) z;lia;show z
  rw[j];let h3:=Int.mul_le_mul_of_nonneg_right (show(-B:Int)<=wnd B c*s.getD c 0 by let:=h.clk hs m hc;lia) l;show JF h3 (Int.le_of_eq ?_);rw[t,LM,Int.mul_comm]
 rw[jN,jN,<-e,f]at a;let w:d*((cp (-s)).map (wnd B)).sum<=d*(k*o.sum):=Int.mul_le_mul_of_nonneg_left v (!0);let C:(k:Int)*-o*(s.map (d / ·)).sum<=k*-o*(q*o.sum):=by show JF a (JF w (Int.le_of_eq ?_));rw[n];simp only[LM,Int.mul_left_comm]
 show Int.le_of_mul_le_mul_left C (Int.mul_pos (!0) (!0))
def fV.wy{P:Nc}(hs:∀x∈s,1<=x)(h:fV s o P)(hw:Wy s o x A y){e:Std×Int}(a:e∈P)(hn:noB s o e.1 x):∃e'∈P,noB s o e'.1 y/\e'.2+-A<=e.2:=by
 induction hw with
 |nil=>show(e,a,hn,!1)
 |snoc hw b c =>
  let(e1,m1,d,l1):=c;let(e2,m2,f,l2):=h.step hs m1 d (_,b,rfl);show(e2,m2,f,by simp;lia)
def fV.ring{P:Nc}(hs:∀x∈s,1<=x)(ho:1<=-o)(h:fV s o P)(b:Rg s o A B):False:=by
 cbv;let((y,h1,h2),h3):=b;let(e,a,c):=h.bg;let d:=is0 hs ho;let(e,a,hn,_):=h.wy hs h1 a (by rw[c];show(d,rfl,rfl,λY Y=>Jo _))
 w_up;let:∀(n:Nat) e,e∈P->noB s o e.1 y->e.2<n->False:=λn=>by
  induction n with
  |zero=>intro e a _ l;let:=(h.is e a).2.1;lia
  |succ n f =>
   intro e a hn l;let(e',m,g,l'):=h.wy hs h2 a hn;show f e' m g (!0)
 show this 100000 e a hn (h.is e a).2.2
abbrev hdW(p:Std×M9):Np:=p.2.getD 0 []
def Chn.lose{p:Std×M9}(h:Chn s o x0 (p::Z)):Chn s o x0 Z:=by
 cases h with
 |one=>show .nil
 |go h _=>show h
def Chn.skip{w w':M9}(h:Chn s o x0 ((x,w)::Z)):Chn s o x0 ((x,w')::Z):=by
 cases h with
 |one=>show .one
 |go h h2=>show .go h h2
def Chn.heads(h:Chn s o x0 Z):∀p∈Z.tail,∃q t,p.2=q::t:=by
 induction h with
 |go h c b =>
  intro p a;rcases IR.mp a with rfl|a;show(_,_,rfl);show b p a
 |_=>exactλp a=>nomatch a
def Chn.way(h:Chn s o x0 Z):∀p T,Z=p::T->Wy s o x0 (T.map hdW).reverse p.1:=by
 induction h with
 |nil=>intro p T e;cases e
 |one=>intro p T e;cases e;show .nil
 |go h a b =>
  intro p T e;cases e;rw[IU,J0];show(b _ _ rfl).snoc a
theorem Chn.cut:∀T,Chn s o x0 (T++(y,w)::D)->Chn s o y (T++[(y,w)])
 |[],_=>.one
 |[p],h=>by
  cases h with
  |go h a=>show .go .one a
 |p::q::T,h=>by
  cases h with
  |go h a=>show .go (Chn.cut (_::T) h) a
theorem Chn.drop:∀T,Chn s o x0 (T++D)->Chn s o x0 D
 |[],h=>h
 |_::T,h=>Chn.drop T h.lose
def sV{k:Nat}(h:(Z.map (·.1)).reverse[k]?=NI y):∃T w D,Z=T++(y,w)::D/\D.length=k:=by
 rw[<-List.map_reverse,Jt]at h;let(p,a,rfl):=Option.map_eq_some_iff.mp h;let(hk,e):=IN.mp a;show((Z.reverse.drop (k+1)).reverse,p.2,(Z.reverse.take k).reverse,?_,by simp at hk ⊢;lia);let this:Z=(Z.reverse.take k++p::Z.reverse.drop (k+1)).reverse:=by rw[<-e,<-Kq hk,r3,List.reverse_reverse]
 rw[List.reverse_append,J0,JE]at this;show this
def Chn.ring{k:Nat}(h:Chn s o (0,s) ((x,r::w)::Z))(b:Cj s o x r)(hk:(((x,r::w)::Z).map (·.1)).reverse[k]?=NI (cL s o x r)):Rg s o ((((x,r::w)::Z).map hdW).reverse.take k) ((((x,r::w)::Z).map hdW).reverse.drop k):=by
 let(T,u,D,e,rfl):=sV hk;obtain⟨a,e'⟩:∃a,T++[(cL s o x r,u)]=(x,r::w)::a:=by
  cases T with
  |nil=>show([],by rw[(Lg e).1];rfl)
  |cons p T=>show(_,by rw[(Lg e).1];rfl)
 rw[e]at h;let h2:=h.cut;rw[e']at h2;let h2:=(h2.way _ _ rfl).snoc b;let e2:(((x,r::w)::Z).map hdW).reverse=(D.map hdW).reverse++((a.map hdW).reverse++[r]):=by rw[e,show T++(cL s o x r,u)::D=(T++[(cL s o x r,u)])++D by simp,e'];simp
 rw[e2,List.take_left' (!1),List.drop_left' (!1)];show((_,(h.drop T).way _ _ rfl,h2),!1)
end
structure Lk(s o:Np)(Z:M2)(lost:Nv)(kvs:Nf):Prop where
 ch : Chn s o (0,s) Z
 is : ∀p∈Z,IsS s o p.1/\p.2.length<64
 ful:∀p∈Z,∃fr pre,eI s o p.1 fr/\fr=pre++p.2/\∀r∈pre,cL s o p.1 r∈lost
 isl:∀x∈lost,IsS s o x
 bg : ((0,s):Std)∈Z.map (·.1)++lost
 nd : (Z.map (·.1)++lost).Nodup
 kl : kvs.length<=Z.length+lost.length
 val:∀y d,cu kvs (kOf y)=some d->(d=.none/\y∈lost)\/∃i:Nat,d=.int i/\(Z.map (·.1)).reverse[i]?=some y
 key:∀y∈Z.map (·.1)++lost,(cu kvs (kOf y)).isSome=true
 down:∀(j:Nat) x,lost[j]?=some x->∃fr,eI s o x fr/\∀r∈fr,cL s o x r∈lost.take j
structure Lst(s o:Np)(lost:Nv):Prop where
 bg : ((0,s):Std)∈lost
 is : ∀x∈lost,IsS s o x
 nd : lost.Nodup
 few:lost.length<=(qZ s o).length
 down:∀(j:Nat) x,lost[j]?=some x->∃fr,eI s o x fr/\∀r∈fr,cL s o x r∈lost.take j
section
variable{s o:Np}{x:Std}{r:Np}{w fr:M9}{Z:M2}{lost:Nv}{kvs:Nf}
def Lk.few(h:Lk s o Z lost kvs):-Z+-lost<=(qZ s o).length:=by
 let:=fO h.nd (U:=qZ s o) λx hx=>by
  rcases II.mp hx with hx|hx;let(p,a,rfl):=IZ.mp hx;show km (h.is p a).1;show km (h.isl x hx)
 simpa using this
def Lk.lst(h:Lk s o [] lost kvs):Lst s o lost:=(h.bg,h.isl,h.nd,by let:=h.few;simpa using this,h.down)
def Lk.fit(h:Lk s o ((x,r::w)::Z) lost kvs):Cj s o x r:=by let(fr,pre,h1,h2,_):=h.ful _ IL;show h1.1 r (by rw[h2];simp)
def Lk.init(b:IsS s o (0,s))(c:eI s o (0,s) fr)(hl:-fr<64):Lk s o [((0,s),fr)] [] [(kOf (0,s),.int 0)]:=by show(.one,λp a=>?_,λp a=>?_,λx hx=>(nomatch hx),IL,!1,IS _,λy d e=>?_,λy f=>?_,λj x e=>by simp at e);rw[IG.mp a];show(b,hl);rw[IG.mp a];show(fr,[],c,rfl,λr g=>(nomatch g));rw[bz]at e;split at e;rename_i z;rw[<-gr z];cases e;show .inr (0,rfl,rfl);cases e;rw[IG.mp f,bz,M0 rfl];rfl
theorem Lk.skip(h:Lk s o ((x,r::w)::Z) lost kvs)(hx:cL s o x r∈lost):Lk s o ((x,w)::Z) lost kvs:=by show(h.ch.skip,λp a=>?_,λp a=>?_,h.isl,h.bg,h.nd,h.kl,h.val,h.key,h.down);rcases IR.mp a with rfl|a;let:=h.is _ IL;show(this.1,by let:=this.2;simp at this ⊢;lia);show h.is p (IM _ a);rcases IR.mp a with rfl|a;let(fr,pre,h1,h2,h3):=h.ful _ IL;show(fr,pre++[r],h1,by rw[h2];simp,λq b=>?_);rcases II.mp b with b|b;show h3 q b;rw[IG.mp b];show hx;show h.ful p (IM _ a)
theorem Lk.lose(h:Lk s o ((x,[])::Z) lost kvs):Lk s o Z (lost++[x]) (kO kvs (kOf x) .none):=by
 let pm:(Z.map (·.1)++(lost++[x])).Perm (((x,[])::Z).map (·.1)++lost):=by rw[<-JE];show List.perm_append_singleton ..
 show(h.ch.lose,λp f=>h.is p (IM _ f),λp f=>?_,λy c=>?_,pm.mem_iff.mpr h.bg,pm.nodup_iff.mpr h.nd,?_,λy d e=>?_,λy c=>?_,λj y e=>?_);let(fr,pre,h1,h2,h3):=h.ful p (IM _ f);show(fr,pre,h1,h2,λr k=>IJ _ (h3 r k));rcases II.mp c with c|c;show h.isl y c;rw[IG.mp c];show(h.is _ IL).1;let:=h.kl;rw[z7 (h.key x IL)];simp at this ⊢;lia;rw[bH]at e;split at e;rename_i z;cases e;show .inl (rfl,by rw[gr z];simp);rename_i z;show(h.val y d e).imp (λ⟨a,b⟩=>(a,IJ _ b)) λg=>?_;let(i,a,b):=g;show(i,a,?_);rw[IU,J0]at b;by_cases hi:i<(Z.map (·.1)).reverse.length;rwa [JM hi]at b;rw[JV (!0)]at b;show absurd (by rw[IG.mp (J9 b)]) z;rw[bH];split;rfl;show h.key y (pm.mem_iff.mp c);by_cases hj:j< -lost;rw[JM hj]at e;rw[Kj (JW hj)];show h.down j y e;rw[JV (!0)]at e;let l:j=-lost:=by let:=(IN.mp e).1;simp at this;lia
 rw[IG.mp (J9 e),l,List.take_left];let(fr,pre,h1,h2,h3):=h.ful _ IL;rw[Jh]at h2;show(fr,h1,h2▸h3)
def Lk.push(h:Lk s o ((x,r::w)::Z) lost kvs)(hs:∀x∈s,1<=x)(hn:(cu kvs (kOf (cL s o x r))).isSome=NL)(g:eI s o (cL s o x r) fr)(hl:-fr<64):Lk s o ((cL s o x r,fr)::(x,r::w)::Z) lost (kO kvs (kOf (cL s o x r)) (.int ((-Z+1:Nat):Int))):=by
 let hx:=h.is _ IL;show(.go h.ch h.fit,λp c=>?_,λp c=>?_,h.isl,IM _ h.bg,Jr.mpr (λz=>?_,h.nd),?_,λy d e=>?_,λy f=>?_,h.down);rcases IR.mp c with rfl|c;show(lX hs hx.1 h.fit,hl);show h.is p c;rcases IR.mp c with rfl|c;show(fr,[],g,rfl,λr j=>(nomatch j));show h.ful p c;let:=h.key _ z;rw[hn]at this;cases this;let:=h.kl;let:=jW kvs (kOf (cL s o x r)) (.int ((-Z+1:Nat):Int));simp at *;lia;rw[bH]at e;rw[IU,J0];split at e;rename_i z;cases e;show .inr (_,rfl,by rw[gr z,JV (!1)];simp);show(h.val y d e).imp id λ⟨i,a,b⟩=>(i,a,by rw[JM (IN.mp b).1];show b)
 rw[bH];split;rfl;rename_i z;rcases IR.mp f with e|f;show absurd (by rw[e]) z;show h.key y f
end
def lkM(s o:Np)(Z:M2)(lost:Nv):Nat:=((qZ s o).length-(-Z+-lost))*66+(Z.map λp=>p.2.length+1).sum
inductive Hv (s o:Np) (m:Nat):NA->Prop
 |mk (Z:M2) (kvs:Nf) (lost:Nv) (S1 S2:NE) (a b:Sl) (ps ls:Nz) (ws:ab):ps=(Z.map (·.1)).reverse.map stS->ws=fu (Z.map (·.2)).reverse->ls=lost.map stS->Lk s o Z lost kvs->m=lkM s o Z lost ->
  Hv s o m [.fr (.tuple [.list (li s),.list (li o)]),.fr (stS (0,s)),.ow ps,.tr S1 ws,.tr S2 (eD kvs),.ow ls,a,b]
abbrev bB:Stmt:=top 14
def aF:ak ["town","standing","path","ways","places","lost","ahead","rows"] ["town","standing"] (ac bB):={}
def TbL(s o:Np):Prop:=-s<=6/\1<=-o/\(∀x∈s,1<=x)/\(∀h∈o,0<=h)/\(-s<=4\/∀h∈o,h<=3)/\(qZ s o).length<64
inductive pE:DSp
 |mk {ss R} (s o:Np):ss=[.fr (.tuple [.list (li s),.list (li o)]),.fr (stS (0,s))]->TbL s o->(∀(A B:M9) (x:ab),Rg s o A B->A.length+B.length<64->R (.fr (.tuple [.tuple [.list (lr A),.list (lr B)],x])) [.un,.un])->(∀lost,Lst s o lost->R (.fr (.tuple [.none,.list (lost.map stS)])) [.un,.un])->pE ss R
def gn{f:ap}{fd:kN}(F:Fun K "looked_through" "looked_through" bB f fd)(B:Bn mg)(c:Cal P w K mg base "full_rows" 7 (spD K pF))(g:Cal P w K mg base "behind" 1 (spD K fF)):a9 P w K mg base CX0 9 f fd ["town","standing"] (spD K pE):=by
 show okD (k:=8) F aF (λss R h=>?_) (!2) (λcdv A outer s H E G=>(_,(ai (ax 2 aF.nd (cP (aa (qf 1) ad)))
   (ai (ax 3 aF.nd (yH (aa (ao c (aa (qf 0) (aa (qf 1) ad))) ad)))
   (ai (ax 4 aF.nd (C5 (K:=K) rfl (hu2 G) (qf 1) ag))
   (ai (ax 5 aF.nd (cP ad))
   (ai (j4 PassesOwn.never (gU (K:=K) rfl (qv 2)) (ai (gF (gE (tM 3 (K:=K) rfl rfl)) (ai (eL (rE 5 (K:=K) rfl rfl (Al 2 (K:=K) rfl rfl)))
   (ai (pW 4 (K:=K) rfl (hu2 G) rfl (qx (qv 5) (ET kW EW ag)) fb)
   (ai (eL (C1 3 (K:=K) rfl rfl))
   (af rD)))) br)
   (ai (ax 6 aF.nd (ao g (aa (qf 0) (aa (qx (qv 2) (ET kW EW ag)) (aa (Ao 3 (K:=K) rfl rfl) ad)))))
   (af (gF (ay (oN (K:=K) rfl (hu2 G)) oJ (qv 6) (qv 4)) (ai (pW 4 (K:=K) rfl (hu2 G) rfl (qf 6) (jc B.len (qv 2)))
   (ai (eL (rE 2 (K:=K) rfl rfl (qf 6)))
   (af (eL (C7 3 (K:=K) rfl rfl (ao c (aa (qf 0) (aa (qf 6) ad)))))))) (af (gF (ay p8 EY (qxK (qv 4) (qv 6)) fb) (af (eL (Ak 3 (K:=K) rfl rfl))) (ai (bw 7 aF.nd (NN:=_::_) (sc0:=ac bB) (N':=["way"]) (ix:=[NJ]) (aA (qf 3)) (λ_ _ _ _=>(am 0 (!4))) (λ_ _ _ _=>(C4 (jF (K:=K) rfl) HP (qv 0) ag)))
   (af (aB (cG (aa (cG (aa (tP (K:=K) rfl (qv 7) eX (eW (qxK (qv 4) (qv 6)))) (aa (tP (K:=K) rfl (qv 7) (eW (qxK (qv 4) (qv 6))) eX) ad))) (aa (qf 5) ad)))))))))))))
   (af (aB (cG (aa fb (aa (qf 5) ad)))))))))),λss R h=>?_))
 let(s,o,rfl,_):=h;rfl;let(s,o,rfl,(M,N,L,T,U,t6),V,W):=h;let I:=is0 L N;let big:∀n:Nat,n<=100000->n<sizeLine:=λn h=>IY (!0) ae;let J:∀d,d< -o->0<=o.getD d 0/\(-s<=4\/o.getD d 0<=3):=λd hd=>(T _ (aE hd),U.imp id λh=>h _ (aE hd))
 lk;show(IQ (!2) ae,?_);lk;show(s,o,s,0,rfl,M,(J _ I.1).1,(J _ I.1).2,(I.1,rfl),λfr l m=>?_);show([wD fr],?_,IQ (!2) ae,λS=>?_);show(eG [] (Sl.ow (lr fr))).bind _=_;rw[pw];rfl;lk;show(kOf (0,s),rfl,rfl,λS1=>?_);lk;show(Jb _,?_);lk;show v7 (Hv s o) (_,.mk [((0,s),fr)] [(kOf (0,s),.int 0)] [] S S1 _ _ _ _ _ rfl rfl rfl (.init I l m) rfl) λE hM=>?_;rintro _ env ⟨Z,kvs,lost,S1,S2,a,b,_,_,_,rfl,rfl,rfl,hk,rfl⟩;let few:=hk.few;let kl:=hk.kl;lk;cases Z with
 |nil =>
  rw[M1 (!1)];lk;show(IQ (!2) ae,W _ hk.lst)
 |cons p Z =>
 let(x,w):=p;let y:=(hk.is _ IL).1;simp only[IU,J0,Jf,Jm]at few kl ⊢;rw[M0 (!1)];cases w with
 |nil =>
  let h2:=hk.lose;show((Z.map (·.2)).reverse,[],rfl,?_);rw[M0 (show(!([]:M9).isEmpty)=NL from rfl)];show(stS x,!1,big _ (by simp;lia),?_);lk;show((kvs,rfl),stS x,cX _ _,kvs,rfl,kOf x,rfl,big _ (!0),?_);lk;show((Z.map (·.2)).reverse,[],rfl,λS'=>?_);lk;show(_,?_,.mk Z _ (lost++[x]) _ _ _ _ _ _ _ (!1) rfl (!1) h2 rfl);unfold lkM;simp;lia
 |cons r w =>
  show((Z.map (·.2)).reverse,r::w,rfl,?_);rw[M1 (show ¬(!(r::w).isEmpty)=NL from by simp)];let j:=lX L y hk.fit;lk;show(stS x,cX _ _,(Z.map (·.2)).reverse,r,w,rfl,s,o,x.2,r,x.1,rfl,N,y.2.1,!0,?_);lk;show(kOf (cL s o x r),rfl,rfl,kvs,rfl,kP (λh=>?_) (λh=>?_))
  .let h':(cu kvs (kOf (cL s o x r))).isSome=NL:=by simpa using h
   show((kvs,rfl),kvs,rfl,kOf (cL s o x r),rfl,rfl,big _ (!0),?_);lk;show(big _ (by simp;lia),?_);lk;show(s,o,(cL s o x r).2,(cL s o x r).1,rfl,M,(J _ j.1).1,(J _ j.1).2,(j.1,j.2.1),λfr l m=>?_);let h2:=hk.push L h' l m;let C:=h2.few;lk;show(wD fr,pw (env:=[]) fr,big _ (by simp;lia),λS'=>(hM _).nx _ (_,?_,.mk ((cL s o x r,fr)::(x,r::w)::Z) _ lost _ _ _ _ _ _ _ (by rw[IU,IU,J0,J0,Jm,Jm];rfl) (by simp[fu]) rfl (by simpa using h2) rfl));unfold lkM;simp at C ⊢;lia
  .cases hv:cu kvs (kOf (cL s o x r)) with
   |none=>rw[hv]at h;show absurd rfl h
   |some v =>
    show(kvs,rfl,kOf (cL s o x r),rfl,rfl,v,hv,?_);rcases hk.val _ _ hv with⟨rfl,hx⟩|⟨k,rfl,hx⟩
    rw[M0 (show ng .none=NK from rfl)];show((Z.map (·.2)).reverse,r,w,rfl,(hM _).nx _ (_,?_,.mk ((x,w)::Z) kvs lost _ _ _ _ _ _ _ (!1) (!1) rfl (hk.skip hx) rfl));unfold lkM;simp
    .rw[M1 (show ¬ng (.int (k:Int))=NK fromλz=>Bool.noConfusion z)];let X:=hk.ch.ring hk.fit hx;let hW:∀u∈(Z.map (·.2)).reverse++[r::w],∃q t,u=q::t:=λu D=>by
      rcases II.mp D with D|D;let(p,Y,rfl):=IZ.mp (List.mem_reverse.mp D);show hk.ch.heads p Y;show(r,w,IG.mp D)
     show bA (λi=>.list (li ((((Z.map (·.2)).reverse++[r::w]).getD i []).getD 0 []))) (by simp;lia) (λi hi Q O=>?_) ?_
     .rw[IF]at hi;let(q,t,e):=hW _ (Ju hi);rw[Jn,e];rw[show((Z.map (·.2)).reverse++[r::w]).getD i []=((Z.map (·.2)).reverse++[r::w])[i] by rw[IP,IK hi];rfl,e]at O;lk;show(_,rfl,O)
     rw[xE,show((Z.map (·.2)).reverse++[r::w]).map (λw=>w.getD 0 [])=(((x,r::w)::Z).map hdW).reverse by simp];lk;show(kvs,rfl,kOf (cL s o x r),rfl,rfl,_,hv,_,rfl,kvs,rfl,kOf (cL s o x r),rfl,rfl,_,hv,_,rfl,?_);rw[vv,vy];show(IQ (!2) ae,IQ (!2) ae,(hM _).rt _ _ ?_)
     walk_at"d2";show V _ _ _ X (by simp;lia)
def Lst.pap{s o:Np}{lost:Nv}(h:Lst s o lost)(hN:(qZ s o).length<64):fV s o (lost.zipIdx.map λp=>(Pm p.1 (p.2:Int))):=by
 let few:=h.few;let a:∀{x:Std}{i:Nat},lost[i]?=NI x->(Pm x (i:Int))∈lost.zipIdx.map λp=>(Pm p.1 (p.2:Int)):=λe=>IZ.mpr ⟨(Pm _ _),Ll.mpr e,rfl⟩;show⟨?_,λe b=>?_,λe b=>?_⟩;let(i,hi,e):=J2 h.bg;show⟨_,a (IN.mpr ⟨hi,e⟩),rfl⟩
 all_goals
  let((x,i),c,rfl):=IZ.mp b;let hx:=Ll.mp c;let hi:=(IN.mp hx).1;dsimp only at hx hi ⊢
 show⟨h.is x (J9 hx),!0,!0⟩;let(fr,d,f):=h.down i x hx;show⟨fr,d,λr g=>?_⟩;let(k,hk,e):=J2 (f r g);rw[List.getElem_take]at e;rw[JC]at hk;show⟨_,a (IN.mpr ⟨!0,e⟩),rfl,by show(k:Int)<i;lia⟩
abbrev iz:Stmt:=top 15
def rA:ak ["town"] ["town"] (ac iz):={}
inductive jQ:DSp
 |mk {ss R} (s o:Np):ss=[.fr (.tuple [.list (li s),.list (li o)])]->TbL s o->(∀P,fV s o P->R (.fr .none) [.un])->(∀A B:M9,Rg s o A B->A.length+B.length<64->R (.fr (.tuple [.list (lr A),.list (lr B)])) [.un])->jQ ss R
def rM{f:ap}{fd:kN}(F:Fun K "plan_of" "plan_of" iz f fd)(B:Bn mg)(a:Cal P w K mg base "looked_through" 9 (spD K pE))(b:Cal P w K mg base "begun" 1 (spD K ii)):a9 P w K mg base CX0 10 f fd ["town"] (spD K jQ):=by
 show okD (k:=9) F rA (λss R h=>?_) (!2) (λcdv A outer s H E d=>(_,(af (aB (qx (ao a (aa (qf 0) (aa (ao b (aa (qf 0) ad)) ad))) ag))),λss R h=>?_));let(s,o,rfl,_):=h;rfl;let(s,o,rfl,t,c,q):=h;walk_at"dd";show(s,o,rfl,?_);walk_at"dd";show(s,o,rfl,t,λA B x h1 h2=>?_,λlost hl=>?_)
 .lk;show q A B h1 h2
 .lk;show c _ (hl.pap t.2.2.2.2.2)
abbrev Ck(e:Std×Int):ab:=.tuple [.int (e.1.1:Int),.tuple (li e.1.2),.int e.2]
abbrev wW(P:Nc):Nz:=P.map Ck
abbrev gV(kvs:Nf)(z:Std)(v:Int):Prop:=cu kvs (kOf z)=NI (.int v)
def rkF(kvs:Nf)(z:Std):Int:=((cu kvs (kOf z)).bind Bk).getD 0
def gV.rk{kvs:Nf}{z:Std}{v:Int}(h:gV kvs z v):rkF kvs z=v:=by unfold rkF;rw[h];rfl
structure Rk(s o:Np)(lost:Nv)(kvs:Nf)(j:Nat):Prop where
 kl : kvs.length<=j
 only:∀y d,cu kvs (kOf y)=some d->y∈lost.take j
 val:∀x∈lost.take j,∃v,gV kvs x v/\0<=v/\v<j/\∃fr,eI s o x fr/\∀r∈fr,∃v',gV kvs (cL s o x r) v'/\v'<v
section
variable{s o:Np}{lost:Nv}{kvs:Nf}{x:Std}{fr:M9}{m:Int}{j:Nat}
def Rk.next(hk:Rk s o lost kvs j)(hl:Lst s o lost)(hj:lost[j]?=NI x)(p:eI s o x fr)(hg:∀r∈fr,cL s o x r∈lost.take j)
  (w:vO ((cp (-fr)).map λi=>rkF kvs (cL s o x (fr.getD i []))+1) 0 m):Rk s o lost (kO kvs (kOf x) (.int m)) (j+1):=by
 let(A,D):=IN.mp hj;let q:lost.take (j+1)=lost.take j++[x]:=by rw[JT,hj];rfl
 let nx:x ∉ lost.take j:=λz=>by
  let:=(IT.mp (q▸hl.nd.sublist (Mo _ _))).2.2 x z x IL;show this rfl
 let k:∀y∈lost.take j,cu (kO kvs (kOf x) (.int m)) (kOf y)=cu kvs (kOf y):=λy h=>by
  rw[bH,M1 λz:kOf y=kOf x=>nx (gr z▸h)]
 let rk:∀r∈fr,∃v,gV kvs (cL s o x r) v/\0<=v/\v<j:=λr f=>by
  let(v,a,b,c,_):=hk.val _ (hg r f);show(v,a,b,c)
 let mb:0<=m/\m<=j/\∀r∈fr,rkF kvs (cL s o x r)<m:=by
  rcases w with⟨h1,h2⟩|⟨h1,h2⟩
  let e:fr=[]:=by let:=congrArg np h1;simpa using this
  subst e;show(!0,!0,λr f=>nomatch f);let(i,hi,e):=IZ.mp h1;let hi:=Jz.mp hi;let(v,a,b,c):=rk _ (bZ (l:=fr) hi);rw[a.rk]at e;show(!0,!0,λr f=>?_);let(u,n,e'):=J2 f;let:=h2 _ (IZ.mpr (u,Jz.mpr n,rfl));rw[show fr.getD u []=r by rw[IP,IK n,e'];rfl]at this;lia
 show(IQ (jW _ _ _) (by let:=hk.kl;lia),λy d e=>?_,λy h=>?_);rw[q];rw[bH]at e;split at e;rename_i z;rw[gr z];simp;show IJ _ (hk.only y d e);rw[q]at h;rcases II.mp h with h|h;let(v,a,b,c,t,B,C):=hk.val y h;show(v,(k y h).trans a,b,!0,t,B,λr f=>?_);let(v',g,l):=C r f;show(v',(k _ (hk.only _ _ g)).trans g,l);rw[IG.mp h];show(m,by unfold gV;rw[bH,M0 rfl],mb.1,!0,fr,p,λr f=>?_);let(v,a,_):=rk r f;show(v,(k _ (hg r f)).trans a,a.rk▸mb.2.2 r f)
def Rk.pap(hk:Rk s o lost kvs (-lost))(hl:Lst s o lost)(hN:(qZ s o).length<64):fV s o (lost.map λx=>(x,rkF kvs x)):=by
 let few:=hl.few;let:=hk.val;rw[JI]at this;show((_,Kn hl.bg,rfl),λe d=>?_,λe d=>?_)
 all_goals
  let(x,hx,rfl):=IZ.mp d;let(v,a,b,c,fr,f,h):=this x hx;dsimp only;rw[a.rk]
 show(hl.is x hx,b,!0);show(fr,f,λr i=>?_);let(v',g,l):=h r i;let:=hk.only _ _ g;rw[JI]at this;show(_,Kn this,rfl,by dsimp only;rw[g.rk];show l)
end
inductive Hq (s o:Np) (lost:Nv) (S:NE) (j:Nat):NA->Prop
 |mk (kvs:Nf) (a b:Sl):Rk s o lost kvs j->Hq s o lost S j [.fr (.tuple [.list (li s),.list (li o)]),.fr (.tuple [.none,.list (lost.map stS)]),.tr S (eD kvs),a,b]
abbrev cr:Stmt:=top 17
def cy:ak ["town","found","ranks","standing","ahead"] ["town"] (ac cr):={}
inductive nE:DSp
 |mk {ss R} (s o:Np):ss=[.fr (.tuple [.list (li s),.list (li o)])]->TbL s o->(∀A B,Rg s o A B->R (.fr .none) [.un])->(∀P:Nc,fV s o P->P.length<64->R (.ow (wW P)) [.un])->nE ss R
def oA{f:ap}{fd:kN}(F:Fun K "paper_of" "paper_of" cr f fd)(B:Bn mg)(c:Cal P w K mg base "looked_through" 9 (spD K pE))(z:Cal P w K mg base "begun" 1 (spD K ii))(p:Cal P w K mg base "full_rows" 7 (spD K pF))(u:Cal P w K mg base "behind" 1 (spD K fF)):a9 P w K mg base CX0 10 f fd ["town"] (spD K nE):=by
 show okD (k:=9) F cy (λss R h=>?_) (!2) (λcdv A outer s H E G=>(_,(ai (ax 1 cy.nd (ao c (aa (qf 0) (aa (ao z (aa (qf 0) ad)) ad))))
   (ai (gF (ay gj rS (qx (qv 1) ag) fb) (af (aB fb)) br)
   (ai (ax 2 cy.nd yK)
   (ai (gh PassesOwn.never rfl (aA (qx (qv 1) ag)) (am 3 cy.nd) (ai (bw 4 cy.nd (NN:=_::_) (sc0:=ac cr) (N':=["row","town","standing"]) (ix:=[NJ,NI 0,NI 3]) (aA (ao p (aa (qf 0) (aa (qf 3) ad)))) (λ_ _ _ _=>(am 0 (!4))) (λ_ _ _ _=>(ao u (aa (qf 1) (aa (qf 2) (aa (qf 0) ad))))))
   (yF 4 (af (pW 2 (K:=K) rfl (hu2 G) rfl (qf 3) (An 2 (C3 (K:=K) rfl rfl rfl B.max (aa (bX (NN:=_::_) (sc0:=ac cr) (N':=["other","ranks"]) (ix:=[NJ,NI 2]) (aA (qf 4)) (λ_ _ _ _=>(am 0 (!4))) (λ_ _ _ _=>(bt bY mI (qxK (qv 1) (qv 0)) ag))) ad))))))))
   (tN 2 (af (aB (bX (NN:=_::_) (sc0:=ac cr) (N':=["standing","ranks"]) (ix:=[NJ,NI 2]) (aA (qx (qv 1) ag)) (λ_ _ _ _=>(am 0 (!4))) (λ_ _ _ _=>(cG (aa (qx (qv 0) ag) (aa (qx (qv 0) ag) (aa (qxK (qv 1) (qv 0)) ad))))))))))))),λss R h=>?_))
 let(s,o,rfl,_):=h;rfl;let(s,o,rfl,t,O,q):=h;let(T,U,t3,V,W,X):=id t;lk;show(s,o,rfl,?_);lk;show(s,o,rfl,t,λA B x G _=>?_,λlost hl=>?_)
 .lk;show O A B G
 let few:=hl.few;let L:∀d,d< -o->0<=o.getD d 0/\(-s<=4\/o.getD d 0<=3):=λd hd=>(V _ (aE hd),W.imp id λh=>h _ (aE hd))
 let big:∀n:Nat,n<=100000->n<sizeLine:=λn h=>IY (!0) ae;lk;intro S;lk;show iW (Hq s o lost S) (.mk [] _ _ (IS _,λy d e=>(nomatch e),λx hx=>by simp at hx)) (λE hN=>?_) ?_
 .rintro j env hj ⟨kvs,a,b,hk⟩;rw[IF]at hj;rw[Jn];let M:=IK hj;let C:=hl.is _ (Ju hj);generalize lost[j]=x at *;let(Y,Z,f2):=hl.down j _ M;lk;show(s,o,x.2,x.1,rfl,T,(L _ C.1).1,(L _ C.1).2,(C.1,C.2.1),λfr I a4=>?_);let hg:∀r∈fr,cL s o x r∈lost.take j:=λr G=>f2 r (I.same Z G);lk;show bA (λi=>stS (cL s o x (fr.getD i []))) (by rw[IF];lia) (λi hi Q D=>?_) ?_
  .rw[gJ];lk;show(s,o,x.2,fr.getD i [],x.1,rfl,U,C.2.1,!0,?_);lk;show D
  rw[show(lr fr).length=-fr from IF ..];lk;show bA (λi=>.int (rkF kvs (cL s o x (fr.getD i []))+1)) (by rw[IF,Jl];lia) (λi hi Q D=>?_) ?_
  .rw[IF,Jl]at hi;rw[Jn,Ml];let(v,g,_):=hk.val _ (hg _ (bZ (l:=fr) hi));rw[g.rk]at D;lk;show(kvs,rfl,kOf (cL s o x (fr.getD i [])),rfl,rfl,_,g,_,rfl,D)
  rw[IF,Jl,show(cp (-fr)).map (λi=>eb (rkF kvs (cL s o x (fr.getD i []))+1))=li ((cp (-fr)).map λi=>rkF kvs (cL s o x (fr.getD i []))+1) by
   show _=ec _ (ec _ _);rw[Jq];rfl]
  lk;intro m hm;show((kvs,rfl),kvs,rfl,kOf x,rfl,rfl,big _ (by let:=hk.kl;lia),(hN _).nx _ (.mk _ _ _ (hk.next hl M I hg hm)))
 .rintro env ⟨kvs,a,b,hk⟩;rw[IF]at hk;let N:=hk.val;rw[JI]at N;lk;show bA (λi=>Ck (lost.getD i (0,[]),rkF kvs (lost.getD i (0,[])))) (by rw[IF];lia) (λi hi Q D=>?_) ?_
  .rw[IF]at hi;rw[Jn];rw[show lost.getD i (0,[])=lost[i] by rw[IP,IK hi];rfl]at D;let(v,g,_):=N _ (Ju hi);rw[g.rk]at D;lk;show(kvs,rfl,kOf lost[i],rfl,rfl,_,g,IQ (!2) ae,D)
  rw[show(cp (lost.map stS).length).map (λi=>Ck (lost.getD i (0,[]),rkF kvs (lost.getD i (0,[]))))=wW (lost.map λx=>(x,rkF kvs x)) by
   apply JJ;simp;intro i h1 h2;let J:i< -lost:=by simpa using h1
   simp[IP,J]]
  lk;show q _ (hk.pap hl X) (by rw[IF];lia)
def pb{xs ys:Nz}{i:Nat}(h:i<(v5 xs ys).length):(v5 xs ys)[i]=.tuple [xs[i]'(by rw[ci]at h;lia),ys[i]'(by rw[ci]at h;lia)]:=by simp[v5]
def dQ(L:Ny):L.map (λY=>y2 NK)=(L.map λY=>NK).map y2:=by rw[Jq];rfl
def dY(L:Ny):(L.map λY=>NK).all id=NK:=!1
def kB(l:Np)(c:Nat):Np:=l.take c++(l.getD c 0-1)::l.drop (c+1)
def nwL(l:Np):M9:=((cp (-l)).filter λc=>decide (1<l.getD c 0)).map (kB l)
def gZ{l:Np}{c:Nat}(h:c< -l):(kB l c).length=-l:=by unfold kB;rw[Jg,Jf,JC,Kc];lia
def qI{l:Np}{c:Nat}(h:c< -l)(k:Nat):(kB l c).getD k 0=if k=c then l.getD c 0-1 else l.getD k 0:=by
 unfold kB;let ht:(l.take c).length=c:=by rw[JC];lia
 by_cases h1:k<c;rw[M1 (!0),IP,JM (!0),vr,M0 h1,<-IP];rw[IP,JV (!0),ht];by_cases h2:k=c;rw[M0 h2,h2,Nat.sub_self];rfl;rw[M1 h2,show k-c=(k-c-1)+1 by lia,List.getElem?_cons_succ,Mm,show c+1+(k-c-1)=k by lia,<-IP]
def xW{l:Np}{c:Nat}(h:c< -l):(kB l c).sum=l.sum-1:=by
 let e:l=l.take c++l.getD c 0::l.drop (c+1):=by rw[IP,IK h];show l=l.take c++l[c]::l.drop (c+1);rw[<-Kq h,r3]
 let e2:=congrArg MJ e;unfold kB;rw[Ku,JB]at e2 ⊢;lia
theorem yt:∀{a b:Np},-a=-b->(∀c,c< -b->a.getD c 0<=b.getD c 0)->a.sum<=b.sum
 |[],[],_,_=>Jo _
 |x::a,y::b,hl,h=>by
  let d:=h 0 (!1);let e:=yt (a:=a) (b:=b) (by simpa using hl) λc hc=>by simpa using h (c+1) (by simpa using hc)
  let d:x<=y:=by simpa using d
  rw[JB,JB];lia
def uE{l l':Np}:l'∈nwL l↔∃c,c< -l/\1<l.getD c 0/\l'=kB l c:=by unfold nwL;rw[IZ];constructor;rintro⟨c,hc,rfl⟩;let(h1,h2):=Ji.mp hc;show(c,Jz.mp h1,of_decide_eq_true h2,rfl);rintro⟨c,h1,h2,rfl⟩;show(c,Ji.mpr (Jz.mpr h1,decide_eq_true h2),rfl)
def A1(l:Np):(nwL l).length<=-l:=by unfold nwL;rw[IF];show IQ (Jy _ _) (by rw[Jl];show IS _)
def D8{s o:Np}{y:Std}{l':Np}(i1:IsS s o y)(hl:l'∈nwL y.2):IsS s o (y.1,l'):=by let(c,h1,h2,rfl):=uE.mp hl;show(i1.1,by rw[gZ h1];show i1.2.1,λk hk=>?_);show 1<=(kB y.2 c).getD k 0/\_;let:=i1.2.2 k hk;rw[qI h1];split;rename_i e;subst e;lia;show this
theorem EE{s o:Np}{kvs:Nf}(cl:∀z v,gV kvs z v->∀l'∈nwL z.2,∃v',gV kvs (z.1,l') v'/\v'<=v):∀(n:Nat) (x z:Std) (v:Int),x.2.sum-z.2.sum<=n->noB s o x z->gV kvs x v->∃v',gV kvs z v'/\v'<=v
 |n, x,z,v,hn,j,hg=>by
  let(i1,i2,g,i):=id j;let f:z.2.length=x.2.length:=by rw[i1.2.1,g]
  by_cases h:∃c,c< -s/\z.2.getD c 0<x.2.getD c 0;let(c,hc,l):=h;let d:c<x.2.length:=by rw[g];show hc
  let z1:=(i1.2.2 c hc).1;let(v1,g1,l1):=cl x v hg (kB x.2 c) (uE.mpr (c,d,!0,rfl));let hb':noB s o (x.1,kB x.2 c) z:=by show(i1,i2,by rw[gZ d];show g,λk hk=>?_);show z.2.getD k 0<=(kB x.2 c).getD k 0;let:=i k hk;rw[qI d];split;rename_i e;subst e;lia;show this
  let hs:=yt (a:=z.2) (b:=kB x.2 c) (by rw[gZ d];show f) λk hk=>hb'.2.2.2 k (by rw[gZ d,g]at hk;show hk);let e:=xW d;cases n with
  |zero=>lia
  |succ n =>
   let(m,g2,l2):=EE cl n (x.1,kB x.2 c) z v1 (by show(kB x.2 c).sum-z.2.sum<=n;lia) hb' g1;show(m,g2,JF l2 l1)
  let e:x=z:=by
   show Prod.ext i2 (JJ f.symm λc h1 h2=>?_);let hc:c< -s:=by rw[<-g];show h1
   let a:=i c hc;let b:¬z.2.getD c 0<x.2.getD c 0:=λq=>h (c,hc,q);rw[IP,IK h2,IP,IK h1]at a b;simp only[Me]at a b;lia
  show(v,e▸hg,Jo _)
structure LrI(s o:Np)(D:Nc)(b:Int)(kvs:Nf)(ks W:Nv):Prop where
 kl : kvs.length<=ks.length
 nd : ks.Nodup
 is : ∀z∈ks,IsS s o z/\(cu kvs (kOf z)).isSome=true
 val:∀z d,cu kvs (kOf z)=some d->∃v,d=.int v/\v<=b
 cl : ∀z v,gV kvs z v->∀l'∈nwL z.2,(∃v',gV kvs (z.1,l') v'/\v'<=v)\/((z.1,l')∈W/\v=b)
 wt : ∀z∈W,IsS s o z
 cov:∀f∈D,(f.1∈W/\b<=f.2)\/∃v,gV kvs f.1 v/\v<=f.2
section
variable{s o:Np}{D:Nc}{b:Int}{kvs:Nf}{ks W:Nv}{z:Std}
def LrI.few(h:LrI s o D b kvs ks W):-ks<=(qZ s o).length:=fO h.nd λx hx=>km (h.is x hx).1
def LrI.start:LrI s o [] b [] [] []:=(IS _,J4,λz hz=>(nomatch hz),λz d e=>(nomatch e),λz v e=>(nomatch e),λz hz=>(nomatch hz),λf a=>(nomatch a))
def LrI.up{c:Int}(h:LrI s o D b kvs ks [])(g:b<=c):LrI s o D c kvs ks []:=(h.kl,h.nd,h.is,λz d e=>by
 let(v,a,l):=h.val z d e;show(v,a,JF l g),λz v e l' m=>(h.cl z v e l' m).imp id λa=>(nomatch a.1),λz hz=>(nomatch hz),λf i=>(h.cov f i).imp (λa=>(nomatch a.1)) id)
def LrI.enter{e:Std×Int}(h:LrI s o D e.2 kvs ks [])(c:IsS s o e.1):LrI s o (D++[e]) e.2 kvs ks [e.1]:=by show(h.kl,h.nd,h.is,h.val,λz v g l' m=>(h.cl z v g l' m).imp id λa=>(nomatch a.1),λz hz=>?_,λf b=>?_);rw[IG.mp hz];show c;rcases II.mp b with b|b;show(h.cov f b).imp (λa=>(nomatch a.1)) id;rw[IG.mp b];show .inl (IL,Jo _)
def LrI.skip(h:LrI s o D b kvs ks (W++[z]))(q:(cu kvs (kOf z)).isSome=NK):LrI s o D b kvs ks W:=by
 let(d,q):=Ka.mp q;let(v0,rfl,c):=h.val z d q;show(h.kl,h.nd,h.is,h.val,λy v g l' m=>?_,λy e=>h.wt y (IJ _ e),λf i=>?_);rcases h.cl y v g l' m with a|⟨a,rfl⟩
 show .inl a;rcases II.mp a with a|a;show .inr (a,rfl);show .inl (v0,by rw[IG.mp a];show q,c);rcases h.cov f i with⟨a,l⟩|a;rcases II.mp a with a|a;show .inl (a,l);show .inr (v0,by rw[IG.mp a];show q,JF c l);show .inr a
def LrI.add(h:LrI s o D b kvs ks (W++[z]))(q:(cu kvs (kOf z)).isSome=NL):LrI s o D b (kO kvs (kOf z) (.int b)) (ks++[z]) (W++(nwL z.2).map λl=>(z.1,l)):=by
 let hz:=h.wt z (!1);let new:gV (kO kvs (kOf z) (.int b)) z b:=by unfold gV;rw[bH,M0 rfl]
 let j:∀{y d},cu kvs (kOf y)=NI d->cu (kO kvs (kOf z) (.int b)) (kOf y)=NI d:=λ{y d} g=>by
  rw[bH,M1];show g;intro e;rw[e]at g;rw[g]at q;cases q
 show(?_,IT.mpr (h.nd,!1,λa k c hc e=>?_),λy i=>?_,λy d g=>?_,λy v g l' m=>?_,λy i=>?_,λf n=>?_);let:=jW kvs (kOf z) (.int b);let:=h.kl;rw[Jg,JD];lia;let:=(h.is a k).2;rw[e,IG.mp hc,q]at this;cases this;rcases II.mp i with i|i;let(a,c):=h.is y i;let(d,g):=Ka.mp c;show(a,by rw[j g];rfl);rw[IG.mp i];show(hz,by rw[new];rfl);rw[bH]at g;split at g;cases g;show(b,rfl,Jo _);show h.val y d g;unfold gV at g;rw[bH]at g;split at g;rename_i e;cases g;rw[gr e]at m ⊢;show .inr (IE _ (IZ.mpr (l',m,rfl)),rfl);rcases h.cl y v g l' m with⟨v',a,c⟩|⟨a,rfl⟩
 show .inl (v',j a,c);rcases II.mp a with a|a;show .inr (IJ _ a,rfl);show .inl (v,by rw[IG.mp a];show new,Jo _);rcases II.mp i with i|i;show h.wt y (IJ _ i);let(l',m,rfl):=IZ.mp i;show D8 hz m;rcases h.cov f n with⟨a,l⟩|⟨v,a,l⟩
 rcases II.mp a with a|a;show .inl (IJ _ a,l);show .inr (b,by rw[IG.mp a];show new,l);show .inr (v,j a,l)
end
def vq(l:Np){c:Nat}(h:c<=-l):kE (li l) NJ (NI (c:Int))=li (l.take c):=by unfold kE;let e:HT.sIx (li l).length (li l).length (NI (c:Int))=min c (li l).length:=HT.sIx_nat _ _ c;rw[e,HT.sIx_none,IF,Ls,LV,Kv h];simp[LG]
def vt(l:Np){c:Nat}(h:c<=-l):kE (li l) (NI (c:Int)) NJ=li (l.drop c):=by unfold kE;let e:HT.sIx (li l).length 0 (NI (c:Int))=min c (li l).length:=HT.sIx_nat _ _ c;rw[e,HT.sIx_none,IF,Kv h,JK (!1)];simp[LH]
abbrev bV:Stmt:=top 19
def c8:ak ["standing","lefts","places"] ["standing"] (ac bV):={}
inductive nF:DSp
 |mk {ss R} (z:Std):ss=[.fr (stS z)]->z.2.length<=1000->R (.ow ((nwL z.2).map λl=>stS (z.1,l))) [.un]->nF ss R
def j8{f:ap}{fd:kN}(F:Fun K "next_worse" "next_worse" bV f fd)(B:Bn mg):a9 P w K mg base CX0 1 f fd ["standing"] (spD K nF):=by
 show okD (k:=0) F c8 (λss R h=>?_) (!2) (λcdv A outer s H E u=>(_,(bc (ax 1 c8.nd (qx (qv 0) ag))
   (bc (bw 2 c8.nd (NN:=_::_) (sc0:=ac bV) (N':=["place","left"]) (ix:=[NJ,NJ]) (j0 NK (K:=K) rfl rfl B.enumerate (aa (qf 1) ad)) (λY Y Y Y=>(iE (K:=K) (n:=2) rfl rfl (bf (am 0 (!4)) (bf (am 1 (!4)) eZ)))) (λY Y Y Y=>(qf 0)) (ht:=(λY Y Y Y=>(iC (ay AU mB (qv 1) ag)))))
   (af (aB (bX (NN:=_::_) (sc0:=ac bV) (N':=["place","standing","lefts"]) (ix:=[NJ,NI 0,NI 1]) (aA (qf 2)) (λY Y Y Y=>(am 0 (!4))) (λY Y Y Y=>(cG (aa (qx (qv 1) ag) (aa (lC (K:=K) rfl (lC (K:=K) rfl (C0 (K:=K) rfl (qv 2) eX (eW (qv 0))) (cG (aa (bt ul mI (qx (qv 2) (qv 0)) ag) ad))) (C0 (K:=K) rfl (qv 2) (eW (bt bY mI (qv 0) ag)) eX)) ad))))))))),λss R h=>?_))
 let(z,rfl,_):=h;rfl;let(z,rfl,hl,q):=h;walk_at"dd";show dX (λi=>decide (1<z.2.getD i 0)) (λi=>.int (i:Int)) (by rw[a8,IF];lia) (λi hi Q v h1 h2=>?_) ?_
 .rw[dW,bK];walk_at"dd";show kP (λc=>h1 (decide_eq_true c)) λc=>h2 (decide_eq_false c)
 rw[a8,IF];obtain⟨cs,a⟩:∃cs,cs=(cp z.2.length).filter λi=>decide (1<z.2.getD i 0):=(_,rfl)
 rw[<-a];let hc:∀j,j< -cs->cs.getD j 0<z.2.length:=λj hj=>by
  let:cs.getD j 0∈cs:=by rw[IP,IK hj];show Ju hj
  let d:∀x∈cs,x<z.2.length:=λx hx=>by
   rw[a]at hx;show Jz.mp (Ji.mp hx).1
  show d _ this
 let p:-cs<=z.2.length:=by rw[a];show IQ (Jy _ _) (by rw[Jl];show IS _)
 walk_at"dd";show bA (λj=>stS (z.1,kB z.2 (cs.getD j 0))) (by rw[IF];lia) (λj hj Q r=>?_) ?_
 .rw[IF]at hj;let b:=hc j hj;let e:cs[j]=cs.getD j 0:=by rw[IP,IK hj];rfl
  rw[Jn,e];generalize cs.getD j 0=c at *;walk_at"dd";let x1:HT.sIx (li z.2).length (li z.2).length (NI (c:Int))=min c (li z.2).length:=HT.sIx_nat _ _ c;let t:HT.sIx (li z.2).length 0 (NI ((c:Int)+1))=min (c+1) (li z.2).length:=HT.sIx_nat _ _ (c+1);let g:(li z.2).length=z.2.length:=IF ..;let m:=vq z.2 (JW b);let o:kE (li z.2) (NI ((c:Int)+1)) NJ=li (z.2.drop (c+1)):=vt z.2 (c:=c+1) b;show(λq=>?_,_,dE (ns:=z.2) b,_,rfl,IQ (!2) ae,?_,λq=>?_,?_,IQ (!2) ae,?_);rw[x1,g]at q;lia;rw[m,IF,JC];show IQ (!0) ae;rw[t,g]at q;lia;rw[m,o,Jg,IF,IF,JC,Kc,JD];show IQ (!0) ae;rw[m,o];rw[show li (z.2.take c)++[eb (z.2.getD c 0-1)]++li (z.2.drop (c+1))=li (kB z.2 c) by unfold kB;simp];show r
 rw[IF,show(cp (-cs)).map (λj=>stS (z.1,kB z.2 (cs.getD j 0)))=(nwL z.2).map λl=>stS (z.1,l) by
  unfold nwL;rw[<-a,Jq];apply JJ;simp;intro i h1 h2;let hi:i< -cs:=by simpa using h1
  simp[IP,hi]]
 walk_at"dd";show q
structure Ca(s o:Np)(P:Nc)(kvs:Nf):Prop where
 cov:∀f∈P,∀z,noB s o f.1 z->∃v,gV kvs z v/\v<=f.2
def LrI.fin{s o:Np}{P Q:Nc}{b:Int}{kvs:Nf}{ks:Nv}(h:LrI s o Q b kvs ks [])(c:Q.Perm P):Ca s o P kvs:=⟨λf d z hz=>by
 rcases h.cov f (c.mem_iff.mpr d) with a|⟨v,g,l⟩
 nomatch a.1
 let(v',g',l'):=EE (λz v g l' m=>(h.cl z v g l' m).elim id λa=>(nomatch a.1)) (f.1.2.sum-z.2.sum).toNat f.1 z v (!0) hz g;show(v',g',JF l' l)⟩
def Ir:ab->Int
 |.tuple [_,_,.int n]=>n
 |_=>0
inductive Ht (s o:Np) (P Q:Nc) (S:NE) (i:Nat):NA->Prop
 |mk (kvs:Nf) (ks:Nv) (b:Int) (x y z:Sl):LrI s o (Q.take i) b kvs ks []->(∀f∈Q.drop i,b<=f.2)->Ht s o P Q S i [.fr (.list (wW P)),.tr S (eD kvs),x,y,z]
inductive Hr (s o:Np) (P D:Nc) (e:Std×Int) (S:NE) (m:Nat):NA->Prop
 |mk (kvs:Nf) (ks W:Nv) (c:Sl) (ws:Nz):ws=W.map stS->LrI s o D e.2 kvs ks W->m=W.length+7*((qZ s o).length-ks.length)->m<=1000->Hr s o P D e S m [.fr (.list (wW P)),.tr S (eD kvs),.fr (Ck e),.ow ws,c]
abbrev dg:Stmt:=top 20
def bv:ak ["paper","ranks","entry","waiting","standing"] ["paper"] (ac dg):={}
inductive nH:DSp
 |mk {ss R} (s o:Np) (P:Nc):ss=[.fr (.list (wW P))]->P.length<64->s.length<=6->(qZ s o).length<64->(∀e∈P,IsS s o e.1/\0<=e.2)->(∀kvs,Ca s o P kvs->R (.fr (eD kvs)) [.un])->nH ss R
def jf{f:ap}{fd:kN}(F:Fun K "least_ranks" "least_ranks" dg f fd)(B:Bn mg)(L:sx K base "least_ranks" fd)(g:Cal P w K mg base "next_worse" 1 (spD K nF)):a9 P w K mg base CX0 7 f fd ["paper"] (spD K nH):=by
 show FU (k:=6) F bv (λss R h=>?_) (!2) (λcdv v A outer s H E C=>(_,(ai (ax 1 bv.nd yK)
   (ai (gh PassesOwn.never rfl (aA (CZ qh (p := "one") (K:=K) rfl (let ⟨c,T,a,b,d⟩:=L;(c,T,v.trans a,b,d)) (C.mono (!2)) rfl B.sorted (aa (qv 0) ad) (rfl,rfl,rfl,!2,rfl,λx hx=>by rw[IG.mp hx];show .inl rfl,!2) (λ_ _ _ _ _=>rfl) rfl rfl (λ_ _ _ _ _=>(qx (qv 0) ag)))) (am 2 bv.nd) (ai (ax 3 bv.nd (cP (aa (cG (aa (qx (qv 2) ag) (aa (qx (qv 2) ag) ad))) ad)))
   (af (j4 PassesOwn.never (gU (K:=K) rfl (qv 3)) (ai (ax 4 bv.nd (Al 3 (K:=K) rfl rfl))
   (af (gF (ay (oN (K:=K) rfl (hu2 C)) oJ (qv 4) (qv 1)) (ai (pW 1 (K:=K) rfl (hu2 C) rfl (qf 4) (qx (qv 2) ag))
   (af (eL (FO 3 (K:=K) rfl rfl (aa (ao g (aa (qf 4) ad)) ad))))) br)))))))
   (tN 1 (af (aB (qv 1)))))),λss R h=>?_))
 let(s,o,P,rfl,_):=h;rfl;let(s,o,P,rfl,O,hs,hN,l,q):=h;let big:∀n:Nat,n<=100000->n<sizeLine:=λn h=>IY (!0) ae;lk;intro S;lk;show(by rw[IF];show O,Ir,λd hd=>?_,λes G so=>?_)
 .let(e,_,rfl):=IZ.mp hd;unfold Bc D2;walk_at"dd";show((_,rfl),rfl)
 let(Q,u,rfl):=cA G _ rfl;let aQ:Q.Pairwise λa b=>a.2<=b.2:=(Kk.mp so).imp λz=>z;let a4:-Q<64:=by rw[u.length_eq];show O
 show iW (Ht s o P Q S) (.mk [] [] 0 _ _ _ LrI.start λf I=>(l f (u.mem_iff.mp I)).2) (λE m=>?_) ?_
 .rintro i env hi ⟨kvs,ks,b,x,y,z,hk,J⟩;rw[IF]at hi;rw[Jn];let U:Q.take (i+1)=Q.take i++[Q[i]]:=by rw[JT,IK hi];rfl
  let M:Q.drop i=Q[i]::Q.drop (i+1):=Kq hi;let N:=(l _ (u.mem_iff.mp (Ju hi))).1;let r:∀f∈Q.drop (i+1),Q[i].2<=f.2:=λf I=>by
   let:=aQ.sublist (List.drop_sublist i Q);rw[M]at this;show(Mi.mp this).1 f I
  let hk:=hk.up (J _ (by rw[M];show IL));let nx:∀kvs ks x y z,LrI s o (Q.take i++[Q[i]]) Q[i].2 kvs ks []->(E i).nx [.fr (.list (wW P)),.tr S (eD kvs),x,y,z]:=λkvs ks x y z h=>(m _).nx _ (.mk kvs ks _ _ _ _ (U▸h) r);clear m r J U M;generalize Q[i]=e at *;generalize Q.take i=D at *;lk;show(IQ (!2) ae,IQ (!2) ae,?_);lk;let X:=hk.few;show v7 (Hr s o P (D++[e]) e S) (_,.mk kvs ks [e.1] _ _ rfl (hk.enter N) rfl (by simp;lia)) λE2 hM=>?_;rintro _ env ⟨kvs,ks,W,c,_,rfl,j,rfl,Y⟩;let few:=j.few;let kl:=j.kl;lk;rcases sb W with rfl|⟨V,z,rfl⟩
  .rw[M1 (!1)];lk;show nx _ _ _ _ _ j
  rw[se]at *;let hz:=j.wt z (!1);rw[Jm,M0 (!1)];show(stS z,!1,?_);lk;show(kOf z,rfl,rfl,kvs,rfl,kP (λhc=>?_) λhc=>?_)
  .let Z:=j.add (by simpa using hc);let t:=Z.few;let nf:=A1 z.2;let a5:z.2.length<=6:=by rw[hz.2.1];show hs
   show((kvs,rfl),kvs,rfl,kOf z,rfl,rfl,big _ (!0),?_);lk;show(z,rfl,!0,?_);lk;simp at t Y ⊢;show(JW (big _ (!0)),(hM _).nx _ (_,?_,.mk _ _ _ _ _ (!1) Z rfl (by simp;lia)));simp;lia
  show(hM _).nx _ (_,?_,.mk _ _ _ _ _ (!1) (j.skip (Option.isSome_iff_ne_none.mpr (by simpa using hc))) rfl (by simp at Y;lia));simp
 .rintro env ⟨kvs,ks,b,x,y,z,hk,J⟩;rw[IF,JI]at hk;lk;show q kvs (hk.fin u)
abbrev dh:Stmt:=top 18
def gy:ak ["town","entry","fits"] ["town","entry"] (ac dh):={}
inductive tq:DSp
 |mk {ss R} (s o:Np) (e:Std×Int):ss=[.fr (.tuple [.list (li s),.list (li o)]),.fr (Ck e)]->IsS s o e.1->0<=e.2->s.length<=1000->R (.fr (.bool true)) [.un,.un]->tq ss R
def lS{f:ap}{fd:kN}(F:Fun K "is_ranked" "is_ranked" dh f fd)(B:Bn mg):a9 P w K mg base CX0 1 f fd ["town","entry"] (spD K tq):=by
 show okD (k:=0) F gy (λss R h=>?_) (!2) (λcdv A outer s H E d=>(_,(bc (ax 2 gy.nd (tS (Ch (K:=K) rfl rfl) Cg rfl B.all gt (aa (bX (NN:=_::_) (sc0:=ac dh) (N':=["left","span"]) (ix:=[NJ,NJ]) (CU NK NL (K:=K) rfl rfl B.zip (aa (qx (qv 1) ag) (aa (qx (qv 0) ag) ad))) (λY Y Y Y=>(iE (K:=K) (n:=2) rfl rfl (bf (am 0 (!4)) (bf (am 1 (!4)) eZ)))) (λY Y Y Y=>(j5 ou mB ou mB ag (qv 0) (qv 1)))) ad)))
   (af (aB (rF (qv 2) (rF (j5 ou mB ur mB ag (qx (qv 1) ag) (jc B.len (qx (qv 0) ag))) (tQ (jd FT mB (qx (qv 1) ag) ag))))))),λss R h=>?_))
 let(s,o,e,rfl,_):=h;rfl;let(s,o,e,rfl,(i1,i2,a),b,hs,q):=h;walk_at"dd";show bA (λi=>.bool NK) (by rw[ci,IF];lia) (λi hi Q c=>?_) ?_
 .rw[ci,IF,IF]at hi;rw[pb,bK,bK];let:=a i (!0);walk_at"dd";rw[M0 this.1,decide_eq_true this.2];show c
 rw[dQ];walk_at"dd";rw[dY,M0 rfl,M0 (!0),IF,M0 (!0),decide_eq_true b];show q
abbrev bW:Stmt:=top 21
def c9:ak ["town","entry","ranks","standing","ahead"] ["town","entry","ranks"] (ac bW):={}
inductive nI:DSp
 |mk {ss R} (s o:Np) (e:Std×Int) (P:Nc) (kvs:Nf):ss=[.fr (.tuple [.list (li s),.list (li o)]),.fr (Ck e),.fr (eD kvs)]->TbL s o->fV s o P->e∈P->Ca s o P kvs->R (.fr (.bool true)) [.un,.un,.un]->nI ss R
def j9{f:ap}{fd:kN}(F:Fun K "leads_down" "leads_down" bW f fd)(B:Bn mg)(b:Cal P w K mg base "choices" 6 (spD K fE))(c:Cal P w K mg base "behind" 1 (spD K fF)):a9 P w K mg base CX0 7 f fd ["town","entry","ranks"] (spD K nI):=by
 show okD (k:=6) F c9 (λss R h=>?_) (!2) (λcdv A outer s H E z=>(_,(ai (ax 3 c9.nd (cG (aa (qx (qv 1) ag) (aa (qx (qv 1) ag) ad))))
   (ai (bw 4 c9.nd (NN:=_::_) (sc0:=ac bW) (N':=["row","town","standing"]) (ix:=[NJ,NI 0,NI 3]) (aA (ao b (aa (qf 0) (aa (qf 3) ad)))) (λY Y Y Y=>(am 0 (!4))) (λY Y Y Y=>(ao c (aa (qf 1) (aa (qf 2) (aa (qf 0) ad))))))
   (af (aB (tS (Ch (K:=K) rfl rfl) Cg rfl B.all gt (aa (bX (NN:=_::_) (sc0:=ac bW) (N':=["other","entry","ranks"]) (ix:=[NJ,NI 1,NI 2]) (aA (qf 4)) (λY Y Y Y=>(am 0 (!4))) (λY Y Y Y=>(rF (jd (Ih (K:=K) rfl (hu2 z)) HW (qv 0) (qv 2)) (tQ (jd ur mB (qxK (qv 2) (qv 0)) (qx (qv 1) ag)))))) ad)))))),λss R h=>?_))
 let(s,o,e,P,kvs,rfl,_):=h;rfl;let(s,o,e,P,kvs,rfl,t,j,m,hk,q):=h;let(n,C,p,D,r,M):=id t;let a:=(j.is e m).1;lk;show(IQ (!2) ae,?_);lk;show(s,o,e.1.2,e.1.1,rfl,n,D _ (aE a.1),r.imp id λh=>h _ (aE a.1),(a.1,a.2.1),λcs u Y=>?_);let G:-cs<64:=by rw[u.length_eq];show iV n (r.imp id λh=>h _ (aE a.1))
 lk;show bA (λi=>stS (cL s o e.1 (cs.getD i []))) (by rw[IF];lia) (λi hi Q d=>?_) ?_
 .rw[gJ];lk;show(s,o,e.1.2,cs.getD i [],e.1.1,rfl,C,a.2.1,!0,?_);lk;show d
 rw[show(lr cs).length=-cs from IF ..];lk;show bA (λi=>.bool NK) (by rw[IF,Jl];lia) (λi hi Q d=>?_) ?_
 .rw[IF,Jl]at hi;rw[Jn,Ml];let x:=u.mem_iff.mp (bZ (l:=cs) hi);let I:=lX p a x
  cbv;let(e',J,L,l'):=j.step p m (a,rfl,a.2.1,λY Y=>Jo _) (_,x,rfl);let(v,g,N):=hk.cov e' J _ L;generalize cL s o e.1 (cs.getD i [])=y at *
  w_up;lk;show(kOf y,rfl,rfl,kvs,rfl,?_);rw[M0 (by rw[g];rfl)];show(kvs,rfl,kOf y,rfl,rfl,_,g,v,rfl,?_);rw[decide_eq_true (!0)];show d
 rw[dQ];lk;rw[dY];show q
inductive Hm (s o:Np) (P:Nc) (kvs:Nf) (i:Nat):NA->Prop
 |mk (a:Sl):Hm s o P kvs i [.fr (.tuple [.list (li s),.list (li o)]),.fr (.list (wW P)),.fr (eD kvs),a]
abbrev dc:Stmt:=top 22
def dH:ak ["town","paper","ranks","entry"] ["town","paper"] (ac dc):={}
inductive ny:DSp
 |mk {ss R} (s o:Np) (P:Nc):ss=[.fr (.tuple [.list (li s),.list (li o)]),.fr (.list (wW P))]->TbL s o->fV s o P->P.length<64->R (.fr (.bool true)) [.un,.un]->ny ss R
def lK{f:ap}{fd:kN}(F:Fun K "shuts_out" "shuts_out" dc f fd)(B:Bn mg)(d:Cal P w K mg base "is_ranked" 1 (spD K tq))(b:Cal P w K mg base "least_ranks" 7 (spD K nH))(g:Cal P w K mg base "begun" 1 (spD K ii))(c:Cal P w K mg base "leads_down" 7 (spD K nI)):a9 P w K mg base CX0 9 f fd ["town","paper"] (spD K ny):=by
 show okD (k:=8) F dH (λss R h=>?_) (!2) (λcdv A outer s H E m=>(_,(ai (gF (gE (gC (tS (Ch (K:=K) rfl rfl) Cg rfl B.all gt (aa (bX (NN:=_::_) (sc0:=ac dc) (N':=["entry","town"]) (ix:=[NJ,NI 0]) (aA (qf 1)) (λY Y Y Y=>(am 0 (!4))) (λY Y Y Y=>(ao d (aa (qf 1) (aa (qf 0) ad))))) ad)))) (af (aB wI)) br)
   (ai (ax 2 dH.nd (ao b (aa (qf 1) ad)))
   (ai (gF (ay (oN (K:=K) rfl (hu2 m)) oJ (ao g (aa (qf 0) ad)) (qv 2)) (af (aB wI)) br)
   (ai (gh PassesOwn.never rfl (aA (qf 1)) (am 3 dH.nd) (af (gF (gE (gC (ao c (aa (qf 0) (aa (qf 3) (aa (qf 2) ad)))))) (af (aB wI)) br)))
   (af (aB wI)))))),λss R h=>?_))
 let(s,o,P,rfl,_):=h;rfl;let(s,o,P,rfl,t,j,n,q):=h;let(p,r,u,G,I,v):=id t;lk;show bA (λi=>.bool NK) (by rw[IF];lia) (λi hi Q x=>?_) ?_
 .rw[IF]at hi;rw[Jn];let:=j.is _ (Ju hi);lk;show(s,o,P[i],rfl,this.1,this.2.1,!0,?_);lk;show x
 rw[dQ];lk;rw[dY,M1 (!1)];lk;show(s,o,P,rfl,n,p,v,λe l=>((j.is e l).1,(j.is e l).2.1),λkvs hk=>?_);lk;show(s,o,rfl,?_);lk;let(y,z,C):=j.bg;let(v0,D,_):=hk.cov y z (0,s) (by rw[C];show(is0 u r,rfl,rfl,λY Y=>Jo _));show(kOf (0,s),rfl,rfl,kvs,rfl,?_);rw[M1 (by rw[D];simp)];lk;show iW (Hm s o P kvs) (.mk _) (λE hN=>?_) ?_
 .rintro i env hi ⟨a⟩;rw[IF]at hi;rw[Jn];lk;show(s,o,P[i],P,kvs,rfl,t,j,Ju hi,hk,?_);lk;show .mk _
 .rintro env ⟨a⟩;lk;show q
def xL{x y:Int}(hx:0<=x)(c:0<=y):J8 y (x % y)=J8 x y:=by let(a,rfl):=JS hx;let(b,rfl):=JS c;show Nat.gcd b (a % b)=Nat.gcd a b;rw[Nat.gcd_comm b,<-Nat.gcd_rec,Nat.gcd_comm]
abbrev bG:Stmt:=top 27
def aX:ak ["one","other","rest"] ["one","other"] (ac bG):={}
inductive zX:DSp
 |mk {ss R} (a b:Int):ss=[.fr (.int a),.fr (.int b)]->0<=a->0<=b->R (.fr (.int (J8 a b))) [.un,.un]->zX ss R
inductive IvG (a b:Int) (m:Nat):NA->Prop
 |mk (x y:Int) (r:Sl):0<=x->0<=y->m=y.toNat->J8 x y=J8 a b->IvG a b m [.fr (.int x),.fr (.int y),r]
def fe{f:ap}{fd:kN}(F:Fun K "greatest_divisor" "greatest_divisor" bG f fd)(B:Bn mg):a9 P w K mg base CX0 1 f fd ["one","other"] (spD K zX):=by
 show okD (k:=0) F aX (λss R h=>?_) (!2) (λcdv A outer s H E j=>(_,(ai (j4 PassesOwn.never (ay wY EX (qv 1) ag) (ai (ax 2 aX.nd (bt bi mIC (qv 0) (qv 1)))
   (ai (ax 0 aX.nd (qf 1))
   (af (ax 1 aX.nd (qf 2))))))
   (af (aB (qv 0)))),λss R h=>?_))
 let(a,b,rfl,_):=h;rfl;let(a,b,rfl,g,i,q):=h;lk;show v7 (IvG a b) (_,.mk a b _ g i rfl rfl) λN hN=>?_;rintro _ env ⟨x,y,r,hx,e,rfl,hg⟩;lk;show kP (λc=>?_) (λc=>?_)
 .let c:y≠0:=by simpa using c
  let h1:=JU x c;let h2:=JH x (show 0<y by lia);show(!0,?_);lk;let d:=(xL hx e).trans hg;generalize x % y=z at *;show(z.toNat,!0,.mk y z _ e h1 rfl d)
 .let c:y=0:=by simpa using c
  subst c;lk;rw[<-hg,Int.gcd_zero_right,Int.natAbs_of_nonneg hx]at q;show q
structure Cm(ns:Np)(m:Int):Prop where
 pos:1<=m
 le : m.toNat<=12 ^ ns.length
 dvd:∀x∈ns,x∣m
def Cm.snoc{ns:Np}{m n:Int}(h:Cm ns m)(h1:1<=n)(h2:n<=12):0<(J8 m n:Int)/\(J8 m n:Int)<=m/\m / (J8 m n:Int)<=m/\0<=m / (J8 m n:Int)/\Cm (ns++[n]) (m / (J8 m n:Int)*n):=by
 let c:=h.pos;let g:0<(J8 m n:Int):=by
  let:J8 m n≠0:=λz=>by let:=(Int.gcd_eq_zero_iff.mp z).1;lia
  lia
 let a:(J8 m n:Int)<=m:=Int.le_of_dvd (!0) (MD m n);let d1:m∣m / (J8 m n:Int)*n:=by
  let(k,hk):=Int.gcd_dvd_right m n;let e:=Int.ediv_mul_cancel (MD m n);show(k,?_)
  conv=>lhs;rhs;rw[hk]
  rw[<-LM,e]
 let q0:1<=m / (J8 m n:Int):=by show(r1 g).mpr ?_;rw[Int.one_mul];show a
 let b:m / (J8 m n:Int)<=m:=ME _ (!0);let d:=MP q0 h1 (!0) (!0);let f:=MP b h2 (!0) (!0);show(g,a,b,!0,!0,?_,λx hx=>?_);let:=h.le;rw[Jg,JD,LW];lia;rcases II.mp hx with hx|hx;show Int.dvd_trans (h.dvd x hx) d1;rw[IG.mp hx];show Int.dvd_mul_left _ _
def Cm.big{ns:Np}{m:Int}(h:Cm ns m)(hl:-ns<=7):m<=35831808:=by let:=IQ h.le (JQ (!2) hl);let:=h.pos;lia
abbrev b8:Stmt:=top 28
def bp:ak ["numbers","found","number"] ["numbers"] (ac b8):={}
inductive Fy:DSp
 |mk {ss R} (ns:Np):ss=[.fr (.list (li ns))]->ns.length<=7->(∀x∈ns,1<=x/\x<=12)->(∀m:Int,Cm ns m->R (.fr (.int m)) [.un])->Fy ss R
inductive Hu (ns:Np) (i:Nat):NA->Prop
 |mk (m:Int) (v:Sl):Cm (ns.take i) m->Hu ns i [.fr (.list (li ns)),.fr (.int m),v]
def gp{f:ap}{fd:kN}(F:Fun K "least_multiple" "least_multiple" b8 f fd)(B:Bn mg)(a:Cal P w K mg base "greatest_divisor" 1 (spD K zX)):a9 P w K mg base CX0 2 f fd ["numbers"] (spD K Fy):=by
 show okD (k:=1) F bp (λss R h=>?_) (!2) (λcdv A outer s H E g=>(_,(bc (ax 1 bp.nd ag)
   (bc (gh PassesOwn.never rfl (aA (qf 0)) (am 2 bp.nd) (af (ax 1 bp.nd (bt uq mIC (bt j7 mIC (qv 1) (ao a (aa (qf 1) (aa (qf 2) ad)))) (qv 2)))))
   (af (aB (qv 1))))),λss R h=>?_))
 let(ns,rfl,_):=h;rfl;let(ns,rfl,hl,d,q):=h;lk;show iW (Hu ns) (.mk 1 _ (Jo 1,!1,λx hx=>(by cases hx))) (λE hN=>?_) ?_
 .rintro i env hi ⟨m,v,c⟩;let b:i< -ns:=by simpa using hi
  rw[bK];let bn:=d _ (aE b);let e:ns.take (i+1)=ns.take i++[ns.getD i 0]:=by rw[JT,IK b,IP,IK b];rfl
  let j:=c.pos;let hg:=c.big (by rw[JC];lia);let(g1,g2,g3,l,h2):=c.snoc bn.1 bn.2;lk;show(_,_,rfl,!0,!0,?_);lk;show((g1,Bg.of (!0) (!0)),(Bg.of (!0) (!0),Bg.of (!0) (!0)),(hN _).nx _ (.mk _ _ (e▸h2)))
 .rintro env ⟨m,v,c⟩;rw[IF,JI]at c;lk;show q m c
abbrev db:Stmt:=top 30
def lh:ak ["spans","days"] ["spans","days"] (ac db):={}
inductive sX:DSp
 |mk {ss R} (ns:Np) (d:Int):ss=[.fr (.list (li ns)),.fr (.int d)]->ns.length<=1000->(∀x∈ns,1<=x/\x<=12)->R (.fr (.int ((ns.map (d / ·)).sum))) [.un,.un]->sX ss R
def lJ{f:ap}{fd:kN}(F:Fun K "wanted_in" "wanted_in" db f fd)(B:Bn mg):a9 P w K mg base CX0 1 f fd ["spans","days"] (spD K sX):=by
 show okD (k:=0) F lh (λss R h=>?_) (!2) (λcdv A outer s H E e=>(_,(af (aB (tS (mP (K:=K) rfl rfl) Hd rfl B.sum Le (aa (bX (NN:=_::_) (sc0:=ac db) (N':=["span","days"]) (ix:=[NJ,NI 1]) (aA (qf 0)) (λY Y Y Y=>(am 0 (!4))) (λY Y Y Y=>(bt j7 mIC (qv 1) (qv 0)))) ad)))),λss R h=>?_));let(ns,d,rfl,_):=h;rfl;let(ns,d,rfl,hl,b,q):=h;walk_at"dd";show bA (λi=>.int (d / ns.getD i 0)) (by rw[IF];lia) (λi hi Q c=>?_) ?_
 .let a:i< -ns:=by simpa using hi
  rw[bK];let bn:=b _ (aE a);walk_at"dd";show((!0,Bg.of (!0) (!0)),c)
 rw[IF,bO ns 0 (λx=>eb (d / x)),show ns.map (λx=>eb (d / x))=li (ns.map (d / ·)) by show _=ec _ (ec _ _);rw[Jq];rfl];walk_at"dd";show q
def CG{o:Np}(h:∀x∈o,0<=x/\x<=6):0<=o.sum/\o.sum<=6*-o:=by
 induction o with
 |nil=>simp
 |cons x o a =>
  let:=h x (!1);let:=a λy b=>h y (by simp[b]);rw[JB,Jf];lia
abbrev f9:Stmt:=top 31
def c7:ak ["town","days","wanted","there"] ["town"] (ac f9):={}
inductive nB:DSp
 |mk {ss R} (s o:Np):ss=[.fr (.tuple [.list (li s),.list (li o)])]->TB s o->R (.fr .none) [.un]->(∀a b c:Int,(∀A B,¬Rg s o A B)->R (.fr (.tuple [.int a,.int b,.int c])) [.un])->nB ss R
def oy{f:ap}{fd:kN}(F:Fun K "shortage" "shortage" f9 f fd)(B:Bn mg)(e:Cal P w K mg base "least_multiple" 2 (spD K Fy))(g:Cal P w K mg base "wanted_in" 1 (spD K sX)):a9 P w K mg base CX0 3 f fd ["town"] (spD K nB):=by
 show okD (k:=2) F c7 (λss R h=>?_) (!2) (λcdv A outer s H E j=>(_,(ai (ax 1 c7.nd (ao e (aa (rC (gm (K:=K) rfl) Cf (qx (qv 0) ag) (cP (aa (jc B.len (qx (qv 0) ag)) ad))) ad)))
   (ai (ax 2 c7.nd (ao g (aa (qx (qv 0) ag) (aa (qf 1) ad))))
   (ai (ax 3 c7.nd (bt uq mIC (bt j7 mIC (qv 1) (jc B.len (qx (qv 0) ag))) (tS (mP (K:=K) rfl rfl) Hd rfl B.sum Le (aa (qx (qv 0) ag) ad))))
   (af (aB (gg (ay AU mB (qv 2) (qv 3)) (cG (aa (qf 1) (aa (qf 2) (aa (qf 3) ad)))) fb)))))),λss R h=>?_))
 let(s,o,rfl,_):=h;rfl;let(s,o,rfl,(p,r,l,t,i,m,u),n,q):=h;lk;simp only[IF,dR];show(IQ (!2) ae,IQ (!0) ae,s++[(-o:Int)],rfl,by simp;lia,λx hx=>?_,λd hd=>?_);rcases II.mp hx with hx|hx;show i x hx;rw[IG.mp hx];lia;let h1:=hd.pos;let h2:=hd.big (by simp;lia);lk;show(s,d,rfl,!0,i,?_);lk;rw[IF];let v:=CG m;let q0:=Int.ediv_nonneg (a:=d) (b:=(-o:Int)) (!0) (!0);let y:d / (-o:Int)<=d:=ME _ (!0);show((!0,Bg.of (!0) (!0)),(Bg.of (!0) (!0),Bg.of (!0) (!0)),?_);lk;show kP (λc=>(IQ (!2) ae,q _ _ _ λA B j=>?_)) λc=>n;let:=j.share (λx hx=>(i x hx).1) l h1 (λx hx=>hd.dvd x (by simp[hx])) (hd.dvd _ (!1));lia
abbrev dM:Stmt:=top 59
def cj:ak ["_law_town_here","_law_lefts","_law_span"] ["_law_town_here"] (ac dM):={}
inductive jS:DSp
 |mk {ss R} (s o:Np):ss=[.fr (.tuple [.list (li s),.list (li o)])]->s.length<=1000->R (.fr (.tuple [.int 0,.tuple (li s)])) [.un]->jS ss R
def kb{f:ap}{fd:kN}(F:Fun K "_law_begun" "_law_begun" dM f fd)(B:Bn mg):a9 P w K mg base CX0 1 f fd ["_law_town_here"] (spD K jS):=by
 show okD (k:=0) F cj (λss R h=>?_) (!2) (λcdv A outer s H E c=>(_,(bc (ax 1 cj.nd (cG ad))
   (bc (gh PassesOwn.never rfl (aA (qx (qv 0) ag)) (am 2 cj.nd) (af (ax 1 cj.nd (lC (K:=K) rfl (qv 1) (cG (aa (qf 2) ad))))))
   (af (aB (cG (aa ag (aa (qf 1) ad))))))),λss R h=>?_))
 let(s,o,rfl,_):=h;rfl;let(s,o,rfl,hs,q):=h;walk_at"dd";show(Jb _,?_);show qw (λi env=>∃a:Sl,env=[.fr (.tuple [.list (li s),.list (li o)]),.fr (.tuple (li (s.take i))),a]) (_,rfl) ?_ ?_
 .rintro i env hi ⟨a,rfl⟩;let b:i< -s:=by simpa using hi
  rw[bK,k8 b];walk_at"dd";show(IQ (!2) ae,by rw[IF,JC];show IQ (!0) ae,!1)
 .rintro env ⟨a,rfl⟩;rw[IF,JI];walk_at"dd";show(IQ (!2) ae,q)
def Wy.pre{s o:Np}{x y:Std}{A:M9}(h:Wy s o x A y):∀i (hi:i< -A),∃z,Wy s o x (A.take i) z/\Cj s o z A[i]:=by
 induction h with
 |nil=>intro i hi;cases hi
 |@snoc A y r h a b =>
  intro i hi;by_cases e:i< -A;rw[Kj (JW e),LI e];show b i e;let e:i=-A:=by simp at hi;lia
  subst e;show(y,by simpa using h,by simpa using a)
def EH(rr:M9)(r:Np):((lr rr).any λx=>ed x (.list (li r)))=decide (r∈rr):=by rw[Kf,List.any_eq_true,decide_eq_true_eq];constructor;rintro⟨x,hx,e⟩;let(y,a,rfl):=IZ.mp hx;rw[qA,decide_eq_true_eq]at e;show e▸a;intro h;show(_,Kn h,by rw[qA];simp)
def r9(rr:M9):ed (.list (lr rr)) (.list [])=decide (rr=[]):=by
 cases rr with
 |nil=>rfl
 |cons r rr=>rfl
abbrev dr:Stmt:=top 60
def bR:ak ["_law_town_here","_law_here","_law_rows_here","_law_row"] ["_law_town_here","_law_here","_law_rows_here"] (ac dr):={}
inductive ie:DSp
 |mk {ss R} (s o:Np) (Z:M9) (x y:Std):ss=[.fr (.tuple [.list (li s),.list (li o)]),.fr (stS x),.fr (.list (lr Z))]->TB s o->IsS s o x->Wy s o x Z y->R (.fr (stS y)) [.un,.un,.un]->ie ss R
inductive Hy (s o:Np) (Z:M9) (x:Std) (i:Nat):NA->Prop
 |mk (z:Std) (a:Sl):Wy s o x (Z.take i) z->Hy s o Z x i [.fr (.tuple [.list (li s),.list (li o)]),.fr (stS z),.fr (.list (lr Z)),a]
def jg{f:ap}{fd:kN}(F:Fun K "_law_behind" "_law_behind" dr f fd)(B:Bn mg)(c:Cal P w K mg base "_law_rows" 1 (spD K s9))(b:Cal P w K mg base "_law_after" 1 (spD K nL)):a9 P w K mg base CX0 3 f fd ["_law_town_here","_law_here","_law_rows_here"] (spD K ie):=by
 show okD (k:=2) F bR (λss R h=>?_) (!2) (λcdv A outer s H E l=>(_,(bc (gh PassesOwn.never rfl (aA (qf 2)) (am 3 bR.nd) (af (gF (PW.pt (jz (ay gj rS (qv 1) fb) (jz (gC (wH (K:=K) rfl kr rfl B.isinstance rfl B.list ll (qv 3))) (iB (ay (Ii (K:=K) rfl (jw l)) HX (qv 3) (ao c (aa (qf 0) (aa (qf 1) ad)))))))) (af (ax 1 bR.nd (ao b (aa (qf 0) (aa (qf 1) (aa (qf 3) ad)))))) (af (ax 1 bR.nd fb)))))
   (af (aB (qv 1)))),λss R h=>?_))
 let(s,o,Z,x,y,rfl,_):=h;rfl;let(s,o,Z,x,y,rfl,tb,ix,hw,q):=h;let(u,v,m,C,n,D,G):=id tb;lk;show iW (Hy s o Z x) (.mk x _ .nil) (λE hN=>?_) ?_
 .rintro i env hi ⟨z,a,hz⟩;rw[IF]at hi;let g:Z.take (i+1)=Z.take i++[Z[i]]:=by rw[JT,IK hi];rfl
  rw[gJ,show Z.getD i []=Z[i] by rw[IP,IK hi];rfl]
  cbv;let(p,e,j):=hw.pre i hi;obtain rfl:z=p:=hz.eq.symm.trans e.eq;let d:=hz.is (λx hx=>(n x hx).1) ix;let hn:=hz.snoc j;rw[<-g]at hn;clear e g;generalize Z[i]=r at *
  w_up;lk;show(s,o,z.2,z.1,rfl,tb,(d.1,d.2.1),λrr t=>?_);lk;rw[EH,decide_eq_true (t.mem_iff.mpr j)];show((Sh.ints 0 _).shp (!2),(Sh.lr 0 rr).shp (!2),?_);rw[M0 rfl];show(s,o,z.2,r,z.1,rfl,!0,m,d.2.1,?_);lk;show .mk _ _ hn
 .rintro env ⟨z,a,hz⟩;rw[IF,JI]at hz;obtain rfl:z=y:=hz.eq.symm.trans hw.eq;lk;show q
inductive GN (s o:Np) (A B:M9) (y:Std) (m:Nat):NA->Prop
 |a:m=1->GN s o A B y m [.fr (.tuple [.list (li s),.list (li o)]),.fr (.tuple [.list (lr A),.list (lr B)]),.fr (stS y),.ow []]
 |b:m=0->GN s o A B y m [.fr (.tuple [.list (li s),.list (li o)]),.fr (.tuple [.list (lr A),.list (lr B)]),.fr (stS y),.ow [stS y]]
abbrev cO:Stmt:=top 61
def bE:ak ["_law_town_here","_law_plan","_law_here","_law_met"] ["_law_town_here","_law_plan"] (ac cO):={}
inductive jU:DSp
 |mk {ss R} (s o:Np) (A B:M9):ss=[.fr (.tuple [.list (li s),.list (li o)]),.fr (.tuple [.list (lr A),.list (lr B)])]->TB s o->Rg s o A B->R (.fr (.bool true)) [.un,.un]->jU ss R
def iN{f:ap}{fd:kN}(F:Fun K "_law_goes_on" "_law_goes_on" cO f fd)(B:Bn mg)(d:Cal P w K mg base "_law_begun" 1 (spD K jS))(c:Cal P w K mg base "_law_behind" 3 (spD K ie)):a9 P w K mg base CX0 4 f fd ["_law_town_here","_law_plan"] (spD K jU):=by
 show okD (k:=3) F bE (λss R h=>?_) (!2) (λcdv A outer s H E l=>(_,(ai (gF (PW.pt (lB (gE (gC (wH (K:=K) rfl uJ rfl B.isinstance rfl B.tuple x6 (qv 1)))) (lB (ay wY EX (jc B.len (qv 1)) ag) (lB (gE (gC (wH (K:=K) rfl kr rfl B.isinstance rfl B.list ll (qx (qv 1) ag)))) (lA (gE (gC (wH (K:=K) rfl kr rfl B.isinstance rfl B.list ll (qx (qv 1) ag))))))))) (af (aB wI)) br)
   (ai (gF (PW.pt (lB (ay (Be (K:=K) rfl l.units) mEq (qx (qv 1) ag) (cP ad)) (lA (ay wY EX (bt bi mIC (jc B.len (qx (qv 1) ag)) (jc B.len (qx (qv 0) ag))) ag)))) (af (aB wI)) br)
   (ai (ax 2 bE.nd (ao c (aa (qf 0) (aa (ao d (aa (qf 0) ad)) (aa (qx (qv 1) ag) ad)))))
   (ai (ax 3 bE.nd (cP ad))
   (ai (j4 PassesOwn.never (PW.pt (jz (ay gj rS (qv 2) fb) (iB (ay (Bd (K:=K) rfl (jw l)) A5 (qv 2) (qv 3))))) (ai (eL (rE 3 (K:=K) rfl rfl (qf 2)))
   (af (ax 2 bE.nd (ao c (aa (qf 0) (aa (qf 2) (aa (qx (qv 1) ag) ad))))))))
   (af (aB (jd gj rS (qv 2) fb)))))))),λss R h=>?_))
 let(s,o,A,B,rfl,_):=h;rfl
 cbv;let(s,o,A,B,rfl,tb,p,q):=h;let(G,I,i,J,t,L,M):=id tb;let hs:∀x∈s,1<=x:=λx hx=>(t x hx).1;let u:=p.mod hs i;let((y,r,v),g):=p
 w_up;let C:=r.is hs (is0 hs i);let D:∀Z:M9,(lr Z).length=-Z:=λZ=>IF ..;lk;rw[M1 (!1)];lk;rw[r9,D B,IF,decide_eq_false (show ¬B=[] fromλz=>by rw[z]at g;simp at g)];show(Jb _,(Sh.lr 0 B).shp (!2),(Sh.ints 0 []).shp (!2),?_);rw[M1 (!2),show((-B:Nat):Int) % ((-o:Nat):Int)=((-B % (-o):Nat):Int) from rfl,u];show(!0,?_);rw[M1 (!2)];lk;show(s,o,rfl,!0,?_);lk;show(s,o,A,(0,s),y,rfl,tb,is0 hs i,r,?_);lk;show(Jb _,?_);lk;show v7 (GN s o A B y) (_,.a rfl) λE hM=>?_;let j:Sh 2 (stS y):=Sh.two (Sh.int 1 _) (Sh.intT 0 _);rintro m env (rfl|rfl)
 .lk;show(j.shp (!2),(Sh.ints 0 []).shp (!2),?_);rw[M0 (!1)];show(IY (!2) ae,?_);lk;show(s,o,B,y,y,rfl,tb,C,v,?_);lk;show(0,!0,.b rfl)
 .lk;show(j.shp (!2),(Sh.list (n:=2) (λx hx=>by rw[IG.mp hx];show j)).shp (!2),?_);let e:ed (stS y) (stS y)=NK:=(BB ((y.1:Int),y.2) ((y.1:Int),y.2)).trans (decide_eq_true rfl);rw[M1 (by simp[e])];lk;show q
def GR(P:q3)(w:zb)(K:ca)(mg:bx->Nm)(base:bd)(C:ap)(x:bx)(k:Nat)(sp:Sp):Prop :=
 mg x=NI (.ref C)/\∃(f:ap) (fd:kN) (ps:ND),Mk K C f/\a9 P w K mg base CX0 k f fd ps sp/\cV K fd ps []
def Dp{X:Cx}{C:ap}{x:bx}{k:Nat}{sp:Sp}{p pos:Pos}(G:GR X.prog X.w X.K X.mg X.base C x k sp)(a:b9 (k+1) X.A)(hg:Gl X x)(hd:(x==("__debug__" : bx))=false:=by decide):PE X (.Call (.Name x p) [] [] pos) (zR C sp [] E0 wb):=by let(m,f,fd,ps,M,F,b):=G;show wT M F a hg m b .nil uf hd
def Dm{X:Cx}{C:ap}{m nm:bx}{k j2:Nat}{sp:Sp}{o e:bb}{pos apos:Pos}{cpos:Pos}{to te:TE}{pl:Sem Bool}(G:sE X.prog X.w X.K X.mg X.base C m k sp)(h:b9 k X.A)(ho:PE X o to)(i:PE X e te)
  (a:kq [.Constant (.str nm) j2 cpos,e] X.env=(false,eval (.Constant (.str nm) j2 cpos) X.env)::kq [e] X.env:=by rfl) (d:kq [e] X.env=(false,eval e X.env)::kq [] X.env:=by rfl) (g:(ze pos (kq [e] X.env)).any (·.1)=false:=by rfl)
  (ht:eval (.Call (.Attribute o m apos) [.Constant (.str nm) j2 cpos,e] [] pos) X.env=(do
   let ov <-eval o X.env
   K2 apos.atName
   let (f,first) <-KI [ov] (Qu ov m pl)
   Zj pos f first (ze pos (kq [.Constant (.str nm) j2 cpos,e] X.env)) (KU pos (KA [] X.env))):=by rfl) :
  PE X (.Call (.Attribute o m apos) [.Constant (.str nm) j2 cpos,e] [] pos) (sQ C m sp [] E0 to (nj (tC (.str nm)) (nj te wb))):=by let(c,f,fd,ps,F,b,j):=G;show ub ho c j F h b .nil uf (cB yN (cB i fM d) a) a g ht
def MtI(K:ca)(C:ap)(m q:bx)(st:Stmt):Prop:=∃(f:ap) (fd:kN),EK K C m f/\Fun K m q st f fd
section
variable{C f:ap}{m q x:bx}{st:Stmt}{ps:ND}{k:Nat}{sp:Sp}{oc kV doc pm cdv ct:as}{od an:No}{osl:M6}
def mtI(a:et K (.ref C) m=NI (NI (.ref f)))(i:tf K (.ref f)=NK)(l:K.lookup f=NI (oc,od,.func (fy m q (cT st) (bI st) (ac st) .none kV doc pm an cdv ct),osl))(c:ip K cdv q=NK)(kp:eE K (.ref f)=NK):MtI K C m q st:=(f,_,(a,i,kp),uW l c kp)
def Co(g:MtI K C m q st)(c:Cls K C)(b:∀{f:ap}{fd:kN},Fun K m q st f fd->cV K fd ps [])(ok:∀{f:ap}{fd:kN},Fun K m q st f fd->a9 P w K mg base CX0 k f fd ps sp):sE P w K mg base C m k sp:=by let(f,fd,M,F):=g;show(c,f,fd,ps,ok F,b F,M)
def Iy(g:MtI K C "__init__" q st)(m:mg x=NI (.ref C))(mk:pu K C=NK)(kc:eE K (.ref C)=NK)(b:∀{f:ap}{fd:kN},Fun K "__init__" q st f fd->cV K fd ps [])(ok:∀{f:ap}{fd:kN},Fun K "__init__" q st f fd->a9 P w K mg base CX0 k f fd ps sp):GR P w K mg base C x k sp:=by let(f,fd,M,F):=g;show(m,f,fd,ps,(mk,M.at_,M.fn,kc),ok F,b F)
end
abbrev jY:Stmt:=top 24
def tE:ak ["town"] ["town"] (ac jY):={}
inductive fD:DSp
 |mk {ss R} (s o:Np):ss=[.fr (.tuple [.list (li s),.list (li o)])]->R (.fr (.tuple [.list (li s),.list (li o)])) [.un]->fD ss R
def ux{f:ap}{fd:kN}(F:Fun K "copied" "copied" jY f fd)(B:Bn mg):a9 P w K mg base CX0 1 f fd ["town"] (spD K fD):=by show okD (k:=0) F tE (λss R h=>?_) (!2) (λcdv A outer s H E a=>(_,(af (aB (cG (aa (pX (K:=K) rfl rfl B.list (aa (qx (qv 0) ag) ad)) (aa (pX (K:=K) rfl rfl B.list (aa (qx (qv 0) ag) ad)) ad))))),λss R h=>?_));let(s,o,rfl,_):=h;rfl;let(s,o,rfl,q):=h;walk_at"dd";show(IQ (!2) ae,q)
def yW(d:ab):Prop:=∃s o:Np,d=.tuple [.list (li s),.list (li o)]
abbrev tH:Stmt:=fg (top 25) 0
def Aa:ak ["self"] ["self"] (ac tH):={}
abbrev Ab:Stmt:=fg (top 25) 1
def CJ:ak ["self","name","town"] ["self","name","town"] (ac Ab):={}
section
variable{f C:ap}{fd:kN}
def AZ(F:Fun K "__init__" "Desk.__init__" tH f fd)(c:Cls K C)(na:cN K C "towns"):a9 P w K mg base CX0 1 f fd ["self"] (zW C):=by
 show F.ok (k:=0) Aa (λvs H Q E h=>?_) λcdv A outer s H vs Q E d h=>(GX K (vR 0) CF "towns",j6 (Dg (bu rfl cc) AL rfl),?_)
 let(x,dx,rfl,_):=h;rfl;let(x,dx,rfl,hx,a):=h;intro b nb;show(.ref x,rfl,x,C,dx,[],rfl,by rw[al (au hx nb)];show hx,c,na,!2,a b nb)
def DB(F:Fun K "put" "Desk.put" Ab f fd)(c:Cls K C)(na:cN K C "towns")(g:Cal P w K mg base "copied" 1 (spD K fD)):a9 P w K mg base CX0 2 f fd ["self","name","town"] (zT K C yW):=by
 show F.ok (k:=1) CJ (λvs H Q E h=>?_) λcdv A outer s H vs Q E n h=>(GT (GU (zP (tOp G9 (vR 1) (Ft K (vR 0) "towns"))) yp CB) (Cd (nq (spD K fD) [] E0 (nj (vR 2) wb)) (Hg (Ft K (vR 0) "towns") (vR 1) CN)),
  gW (De (tU Dx (bu rfl cc) (ue (bu rfl cc) rfl) (by with_unfolding_all rfl)) (j6 wN) tV) (j6 (tX (lG g (n.mono (!2)) rfl (cB (bu rfl cc) fM)) (ua (ue (bu rfl cc) rfl) (bu rfl cc) FB))),?_)
 let(x,dx,b,nm,v,d,N,rfl,_):=h;rfl
 .let(x,dx,b,nm,v,d,N,rfl,hx,j,y,live,dn,(s,o,rfl),q):=h;show(.str nm,rfl,.ref x,rfl,x,C,dx,_,.ref b,rfl,hx,c,na,rfl,nm,b,rfl,rfl,j,NL,rfl,?_);show(if NL=NK then _ else _);rw[M1 (!2)];show(v,rfl,N,[.fr (.tuple [.list (li s),.list (li o)])],λr Y=>r=.fr (.tuple [.list (li s),.list (li o)]),rfl,mZ (ds:=[_]) (.cons dn .nil) live,.mk s o rfl rfl,λr t p l u Y m=>?_)
  cbv;subst u;let same:aS H l:=(m.keep.mono (M:=N0) λa z=>by
   let z:a∈oas (tmp ([v].zip ([LC [.list (li s),.list (li o)]].map Sl.fr))):=z;rw[fN]at z;cases z).none
  let(B,ep,i):=m.fr (NI p) _ IL;cases ep
  w_up;show(.ref x,rfl,x,C,dx,_,.ref b,rfl,same _ _ hx,c,na,rfl,.str nm,rfl,nm,b,rfl,rfl,same _ _ j,q p l same (i.to λa o e z=>.inl z))
end
section
variable{f C:ap}{fd:kN}
abbrev iA:Stmt:=fg (top 25) 9
def rB:ak ["self","name"] ["self","name"] (ac iA):={}
inductive fC (C:ap):DSp
 |mk {ss R} (nm:bx) (d:ab):ss=[.fr (jK C nm d),.fr (.str nm)]->R (.fr d) [.un,.un]->fC C ss R
def rN(F:Fun K "look_up" "Desk.look_up" iA f fd)(B:Bn mg)(c:Cls K C)(na:cN K C "towns"):a9 P w K mg base CX0 1 f fd ["self","name"] (spD K (fC C)):=by show okD (k:=0) F rB (λss R h=>?_) (!2) (λcdv A outer s H E a=>(_,(bc (gF (ay AT FV (qv 1) (Ap rfl c na (qv 0))) (af iF) br) (af (aB (C4 Ik HS (Ap rfl c na (qv 0)) (qv 1))))),λss R h=>?_));let(nm,d,rfl,_):=h;rfl;let(nm,d,rfl,q):=h;lk;show(nm,d,rfl,nm,d,rfl,?_);rw[M1 (λz=>z rfl)];show(nm,d,rfl,nm,d,rfl,rfl,q)
abbrev nS:Stmt:=fg (top 25) 4
def wx:ak ["self"] ["self"] (ac nS):={}
inductive nG (C:ap):DSp
 |mk {ss R} (nm:bx) (d:ab):ss=[.fr (jK C nm d)]->R (.ow [.str nm]) [.un]->nG C ss R
def w4(F:Fun K "names" "Desk.names" nS f fd)(B:Bn mg)(c:Cls K C)(na:cN K C "towns"):a9 P w K mg base CX0 1 f fd ["self"] (spD K (nG C)):=by show okD (k:=0) F wx (λss R h=>?_) (!2) (λcdv A outer s H E a=>(_,(af (aB (CW rfl rfl (jw a) rfl B.sorted (aa (Ap rfl c na (qv 0)) ad)))),λss R h=>?_));let(nm,d,rfl,_):=h;rfl;let(nm,d,rfl,q):=h;lk;show(nm,d,rfl,nm,d,rfl,q)
abbrev tF:Stmt:=fg (top 25) 5
def z8:ak ["self","name"] ["self","name"] (ac tF):={}
inductive nw (C:ap):DSp
 |mk {ss R} (nm:bx) (s o:Np):ss=[.fr (jK C nm (.tuple [.list (li s),.list (li o)])),.fr (.str nm)]->R (.fr (.tuple [.list (li s),.list (li o)])) [.un,.un]->nw C ss R
def AX(F:Fun K "town" "Desk.town" tF f fd)(B:Bn mg)(c:Cls K C)(na:cN K C "towns")(a:sE P w K mg base C "look_up" 1 (spD K (fC C)))(b:Cal P w K mg base "copied" 1 (spD K fD)):a9 P w K mg base CX0 2 f fd ["self","name"] (spD K (nw C)):=by show okD (k:=1) F z8 (λss R h=>?_) (!2) (λcdv A outer s H E d=>(_,(af (aB (ao b (aa (jB a rfl (d.mono (!2)) (qv 0) (aa (qf 1) ad)) ad)))),λss R h=>?_));let(nm,s,o,rfl,_):=h;rfl;let(nm,s,o,rfl,q):=h;lk;show((nm,_,rfl),nm,_,rfl,?_);lk;show(s,o,rfl,?_);lk;show q
abbrev tG:Stmt:=fg (top 25) 6
def z9:ak ["self","name"] ["self","name"] (ac tG):={}
inductive nC (C:ap):DSp
 |mk {ss R} (nm:bx) (s o:Np):ss=[.fr (jK C nm (.tuple [.list (li s),.list (li o)])),.fr (.str nm)]->TbL s o->(∀P,fV s o P->R (.fr .none) [.un,.un])->(∀A B:M9,Rg s o A B->A.length+B.length<64->R (.fr (.tuple [.list (lr A),.list (lr B)])) [.un,.un])->nC C ss R
def AY(F:Fun K "plan" "Desk.plan" tG f fd)(B:Bn mg)(c:Cls K C)(na:cN K C "towns")(a:sE P w K mg base C "look_up" 1 (spD K (fC C)))(b:Cal P w K mg base "plan_of" 10 (spD K jQ)):a9 P w K mg base CX0 11 f fd ["self","name"] (spD K (nC C)):=by
 show okD (k:=10) F z9 (λss R h=>?_) (!2) (λcdv A outer s H E d=>(_,(af (aB (ao b (aa (jB a rfl (d.mono (!2)) (qv 0) (aa (qf 1) ad)) ad)))),λss R h=>?_));let(nm,s,o,rfl,_):=h;rfl;let(nm,s,o,rfl,t,e,g):=h;lk;show((nm,_,rfl),nm,_,rfl,?_);lk;show(s,o,rfl,t,λP i=>?_,λA B h1 h2=>?_)
 .lk;show e P i
 .lk;show g A B h1 h2
abbrev nR:Stmt:=fg (top 25) 7
def ww:ak ["self","name"] ["self","name"] (ac nR):={}
inductive jR (C:ap):DSp
 |mk {ss R} (nm:bx) (s o:Np):ss=[.fr (jK C nm (.tuple [.list (li s),.list (li o)])),.fr (.str nm)]->TbL s o->(∀A B,Rg s o A B->R (.fr .none) [.un,.un])->(∀P:Nc,fV s o P->P.length<64->R (.ow (wW P)) [.un,.un])->jR C ss R
def wZ(F:Fun K "paper" "Desk.paper" nR f fd)(B:Bn mg)(c:Cls K C)(na:cN K C "towns")(b:sE P w K mg base C "look_up" 1 (spD K (fC C)))(a:Cal P w K mg base "paper_of" 10 (spD K nE)):a9 P w K mg base CX0 11 f fd ["self","name"] (spD K (jR C)):=by
 show okD (k:=10) F ww (λss R h=>?_) (!2) (λcdv A outer s H E d=>(_,(af (aB (ao a (aa (jB b rfl (d.mono (!2)) (qv 0) (aa (qf 1) ad)) ad)))),λss R h=>?_));let(nm,s,o,rfl,_):=h;rfl;let(nm,s,o,rfl,t,e,g):=h;lk;show((nm,_,rfl),nm,_,rfl,?_);lk;show(s,o,rfl,t,λA B h1=>?_,λP h1 h2=>?_)
 .lk;show e A B h1
 .lk;show g P h1 h2
end
abbrev bS:Stmt:=top 39
def ik:ak ["numbers","between"] ["numbers","between"] (ac bS):={}
def nz:DSp:=λss R=>∃(ns:Np) (c:Nat),ss=[.fr (.list (li ns)),.fr (.str (sgn c))]/\NB ns/\R (.fr (.str (hC (sgn c) (ns.map num)))) [.un,.un]
def wj(ns:Np):(cp (li ns).length).map (λi=>ei (num (ns.getD i 0)))=(ns.map num).map ei:=by rw[IF,bO ns 0 (λn=>ei (num n)),Jq];rfl
def iL{f:ap}{fd:kN}(F:Fun K "show_numbers" "show_numbers" bS f fd)(B:Bn mg):a9 P w K mg base CX0 1 f fd ["numbers","between"] (spD K nz):=by
 show okD (k:=0) F ik (λss R h=>?_) (!2) (λcdv A outer s H E d=>(_,(af (aB (yJ (K:=K) rfl (qv 1) (bX (NN:=_::_) (sc0:=ac bS) (N':=["number"]) (ix:=[NJ]) (aA (qf 0)) (λY Y Y Y=>(am 0 (!4))) (λY Y Y Y=>(C6 mQ HL rfl B.str PyProof.Rows.boot_str (aa (qv 0) ad))))))),λss R h=>?_));let(ns,c,rfl,_):=h;rfl;let(ns,c,rfl,hn,q):=h;walk_at"dd";show bA (λi=>.str (num (ns.getD i 0))) (by rw[IF];let:=hn.1;lia) (λi hi Q b=>?_) ?_
 .rw[bK];let a:i< -ns:=by simpa using hi
  let hl:=hn.log (aE a);walk_at"dd";show(hl,b)
 rw[wj];walk_at"dd";show(ns.map num,rfl,IQ (hn.lens (by show 1<=10;decide)) (!2),q)
abbrev eQ:Stmt:=top 40
def lj:ak ["town"] ["town"] (ac eQ):={}
def DK(a b:Np):bx:=hC (sgn 32) (a.map num)++bar++hC (sgn 32) (b.map num)
def sZ:DSp:=λss R=>∃a b:Np,ss=[.fr (.tuple [.list (li a),.list (li b)])]/\NB a/\NB b/\R (.fr (.str (DK a b))) [.un]
def lM{f:ap}{fd:kN}(F:Fun K "show_town" "show_town" eQ f fd)(B:Bn mg){e:Tok}{d:bx}(g:mg "BETWEEN" = NI (.str d e))(e_BETWEEN:d=cq " | ")(c:Cal P w K mg base "show_numbers" 1 (spD K nz)):a9 P w K mg base CX0 2 f fd ["town"] (spD K sZ):=by
 show okD (k:=1) F lj (λss R h=>?_) (!2) (λcdv A outer s H E l=>(_,(af (aB (bt d5 xo (bt d5 xo (ao c (aa (qx (qv 0) ag) (aa fL ad))) (dP rfl g)) (ao c (aa (qx (qv 0) ag) (aa fL ad)))))),λss R h=>?_));let(a,b,rfl,_):=h;rfl;let(a,b,rfl,i,j,q):=h;subst e_BETWEEN;lk;show(a,32,rfl,i,?_);lk;let la:=d6 i 32;let m:=d6 j 32;let l3:(cq " | ").length=3:=!3
 show(!0,b,32,rfl,j,?_);lk;show(?_,q);rw[gs];lia
abbrev ck:Stmt:=top 44
def eJ:ak ["text","fits"] ["text"] (ac ck):={}
def tp:DSp:=λss R=>∃n:Int,ss=[.fr (.str (num n))]/\0<=n/\n<10 ^ 40/\R (.fr (.int n)) [.un]
def je{f:ap}{fd:kN}(F:Fun K "read_number" "read_number" ck f fd)(B:Bn mg){l:Tok}{g:bx}(m:mg "FIGURES" = NI (.str g l))(e_FIGURES:g=cq "0123456789"){b:Tok}{a:Int}(d:mg "MOST_FIGURES" = NI (.int a b))(e_MOST_FIGURES:a=40):a9 P w K mg base CX0 1 f fd ["text"] (spD K tp):=by
 show okD (k:=0) F eJ (λss R h=>?_) (!2) (λcdv A outer s H E y=>(_,(pV (ax 1 eJ.nd (rF (j5 ou mB ou mB ag (tS mS FW rfl B.len My (aa (qv 0) ad)) (tR rfl d)) (tQ (tS (Ch (K:=K) rfl rfl) Cg rfl B.all gt (aa (bX (NN:=_::_) (sc0:=ac ck) (N':=["sign"]) (ix:=[NJ]) (CV (qv 0)) (λY Y Y Y=>(am 0 (!4))) (λY Y Y Y=>(jd ut HV (qv 0) (dP rfl m)))) ad)))))
   (bc (gF (PW.pt (lB (gE (gC (qv 1))) (lA (PW.pt (jz (ay (Be (K:=K) rfl y.units) mEq (C4 D7 HQ (qv 0) ag) fL) (iB (ay (E3 (K:=K) rfl y.units) mNe (qv 0) fL))))))) (af iF) br)
   (af (aB (C6 F3 FX rfl B.int PyProof.Rows.boot_int (aa (qv 0) ad)))))),λss R h=>?_))
 let(n,rfl,_):=h;rfl
 cbv;let(n,rfl,o,h1,q):=h;subst e_FIGURES;subst e_MOST_FIGURES
 w_up;let hl:=oF o (!2) h1;walk_at"dd";show(λenv=>env=[.fr (.str (num n)),.fr (.bool NK)],?_,?_)
 .walk_at"dd";rw[M0 (!0),M0 (!0)];let u:(num n).cps.toList.length=(num n).length:=by simp[nl]
  show(!0,uB o,?_);show bA (λY=>.bool NK) (by rw[IF];lia) (λi hi Q D=>?_) ?_
  .rw[Jn];let p:i<(num n).cps.toList.length:=by simpa using hi
   let hd:=bP o ((num n).cps.toList[i]'p) (Ju _);generalize (num n).cps.toList[i]'p=c at *;walk_at"dd";rw[fig c hd];show D
  .let e:∀k:Nat,(cp k).map (λY=>y2 NK)=(JN k NK).map y2:=λk=>by
    rw[List.map_replicate];apply JJ;simp;intro i h1 h2;simp
   rw[e];walk_at"dd";simp
 .rintro env rfl;walk_at"dd";let v:∀x:bx,(∀c∈cpl x,c<1000)->shp (.str x):=λx hx=>tu (by
   unfold LD;rw[me];intro c hc;let:=hx c (by simpa[cpl] using hc);simp;lia)
  let C:shp (ei (cq "0")):=v _ (!3);let G:cpl (cq "0")=[48]:=!3
  obtain⟨c,r,e⟩:∃c r,(num n).cps.toList=c::r:=by
   cases e:(num n).cps.toList with
   |nil =>
    let u:(num n).cps.toList.length=(num n).length:=by simp[nl]
    rw[e]at u;simp at u;lia
   |cons c r=>show(c,r,rfl)
  let hc:=bP o c (by show c∈(num n).cps.toList;rw[e];simp);let fin:∃x,intText? (num n)=NI x/\(num n).length<=640/\R (Sl.fr (eb x)) [Sl.un]:=(n,xf o (Int.lt_of_lt_of_le h1 (!2)),!0,q)
  show(!0,c,by rw[e];show cU (j:=0) (xs:=c::r) rfl,v _ (λx hx=>by let hx:x∈[c]:=hx;rw[IG.mp hx];lia),C,kP (λh=>(v _ (λx hx=>by let:=bP o x hx;lia),C,?_)) (λh=>fin));let t:c=48:=by let:=congrArg cpl h;rw[G]at this;let:[c]=[48]:=this;simpa using this
  let I:n=0:=xc o (by show(num n).cps.toList[0]?=_;rw[e,t];rfl);subst I;rw[M1 (λz=>z rfl)];show fin
abbrev bT:Stmt:=top 45
def im:ak ["text","between"] ["text","between"] (ac bT):={}
def jP:DSp:=λss R=>∃(ns:Np) (c:Nat),ss=[.fr (.str (hC (sgn c) (ns.map num))),.fr (.str (sgn c))]/\NB ns/\ns≠[]/\c<48/\R (.ow (li ns)) [.un,.un]
def iM{f:ap}{fd:kN}(F:Fun K "read_numbers" "read_numbers" bT f fd)(B:Bn mg)(a:Cal P w K mg base "read_number" 1 (spD K tp)):a9 P w K mg base CX0 2 f fd ["text","between"] (spD K jP):=by
 show okD (k:=1) F im (λss R h=>?_) (!2) (λcdv A outer s H E l=>(_,(af (aB (bX (NN:=_::_) (sc0:=ac bT) (N':=["part"]) (ix:=[NJ]) (aA (og (K:=K) rfl (qv 0) (qv 1))) (λY Y Y Y=>(am 0 (!4))) (λY Y Y Y=>(ao a (aa (qf 0) ad)))))),λss R h=>?_));let(ns,c,rfl,_):=h;rfl;let(ns,c,rfl,hn,d,hc,q):=h;walk_at"dd";show(rfl,IQ (d6 hn c) (!2),?_);rw[rp hn d hc];show bA (λi=>.int (ns.getD i 0)) (by rw[IF,IF];let:=hn.1;lia) (λi hi Q j=>?_) ?_
 .let b:i< -ns:=by simpa using hi
  let g:=hn.2 _ (aE b);let e:((ns.map num).map ei)[i]=ei (num (ns.getD i 0)):=by rw[Jn,Jn,IP,IK b];rfl
  rw[e];walk_at"dd";show(_,rfl,g.1,g.2,?_);walk_at"dd";show j
 let e:(cp ((ns.map num).map ei).length).map (λi=>eb (ns.getD i 0))=li ns:=by rw[IF,IF,bO ns 0 (λn=>eb n)]
 rw[e];walk_at"dd";show q
abbrev jX:Stmt:=top 46
def ly:ak ["line","parts"] ["line"] (ac jX):={}
def jT:DSp:=λss R=>∃A a:bx,ss=[.fr (.str (A++bar++a))]/\124 ∉ cpl A/\124 ∉ cpl a/\A.length+-a<=90000/\R (.ow [.str A,.str a]) [.un]
def uw{f:ap}{fd:kN}(F:Fun K "halves" "halves" jX f fd)(B:Bn mg){b:Tok}{a:bx}(c:mg "BETWEEN" = NI (.str a b))(e_BETWEEN:a=cq " | "):a9 P w K mg base CX0 1 f fd ["line"] (spD K jT):=by
 show okD (k:=0) F ly (λss R h=>?_) (!2) (λcdv A outer s H E j=>(_,(bc (ax 1 ly.nd (og (K:=K) rfl (qv 0) (dP rfl c)))
   (bc (gF (ay wY EX (jc B.len (qv 1)) ag) (af iF) br)
   (af (aB (qv 1))))),λss R h=>?_))
 let(d,e,rfl,_):=h;rfl;let(d,e,rfl,g,i,hl,q):=h;subst e_BETWEEN;walk_at"dd";let l3:-bar=3:=!3
 rw[show cq " | " = bar from rfl,sW g i];show(!3,by rw[gs,gs];lia,?_);rw[M1 (!1)];show q
abbrev eU:Stmt:=top 47
def dJ:ak ["line","parts","spans"] ["line"] (ac eU):={}
def tm:DSp:=λss R=>∃a b:Np,ss=[.fr (.str (DK a b))]/\NB a/\NB b/\a≠[]/\b≠[]/\(∀x∈a,1<=x)/\∀S,R (.tr S (.tuple [.list (li a),.list (li b)])) [.un]
def lP{f:ap}{fd:kN}(F:Fun K "read_town" "read_town" eU f fd)(B:Bn mg)(d:Cal P w K mg base "halves" 1 (spD K jT))(c:Cal P w K mg base "read_numbers" 2 (spD K jP)):a9 P w K mg base CX0 3 f fd ["line"] (spD K tm):=by
 show okD (k:=2) F dJ (λss R h=>?_) (!2) (λcdv A outer s H E i=>(_,(ai (ax 1 dJ.nd (ao d (aa (qf 0) ad)))
   (ai (ax 2 dJ.nd (ao c (aa (qx (qv 1) ag) (aa fL ad))))
   (ai (gF (ay (kIn (K:=K) rfl) mIn ag (qv 2)) (af iF) br)
   (af (aB (yG (aa (C2 2) (aa (ao c (aa (qx (qv 1) ag) (aa fL ad))) ad)))))))),λss R h=>?_))
 let(a,b,rfl,_):=h;rfl;let(a,b,rfl,e,g,na,nb,h1,q):=h;lk;show(_,_,rfl,p9 e (!2),p9 g (!2),by let:=d6 e 32;let:=d6 g 32;lia,?_);lk;show(a,32,rfl,e,na,!2,?_);lk;rw[M1 (λz=>by let:=h1 0 z;lia)];lk;show(b,32,rfl,g,nb,!2,?_);lk;show(IQ (!2) ae,q)
def pG{x:bx}(hx:∀c∈cpl x,c<1000):shp (.str x):=tu (by
 unfold LD;rw[me];intro c hc;let:=hx c (by simpa[cpl] using hc);simp;lia)
abbrev fG:Stmt:=top 10
def lw:ak ["row","clocks","rising"] ["row","clocks"] (ac fG):={}
structure Rs(r:Np):Prop where
 nb : NB r
 up : r.Pairwise (·<·)
 lt : ∀x∈r,0<=x/\x<1000
inductive nJ:DSp
 |mk {ss R} (r:Np):ss=[.fr (.list (li r)),.fr (.int 1000)]->Rs r->R (.fr (.bool true)) [.un,.un]->nJ ss R
def uv{f:ap}{fd:kN}(F:Fun K "is_row" "is_row" fG f fd)(B:Bn mg):a9 P w K mg base CX0 1 f fd ["row","clocks"] (spD K nJ):=by
 show okD (k:=0) F lw (λss R h=>?_) (!2) (λcdv A outer s H E a=>(_,(ai (ax 2 lw.nd (tS (Ch (K:=K) rfl rfl) Cg rfl B.all gt (aa (bX (NN:=_::_) (sc0:=ac fG) (N':=["one","other"]) (ix:=[NJ,NJ]) (Ai (K:=K) rfl rfl B.zip (aa (qf 0) (aa (tP (K:=K) rfl (qv 0) (eW ag) eX) ad))) (λY Y Y Y=>(iE (K:=K) (n:=2) rfl rfl (bf (am 0 (!4)) (bf (am 1 (!4)) eZ)))) (λY Y Y Y=>(jd ur mB (qv 0) (qv 1)))) ad)))
   (af (aB (rF (qv 2) (tQ (tS (Ch (K:=K) rfl rfl) Cg rfl B.all gt (aa (bX (NN:=_::_) (sc0:=ac fG) (N':=["clock","clocks"]) (ix:=[NJ,NI 1]) (aA (qf 0)) (λY Y Y Y=>(am 0 (!4))) (λY Y Y Y=>(j5 ou mB ur mB ag (qv 0) (qv 1)))) ad))))))),λss R h=>?_))
 let(r,rfl,_):=h;rfl;let(r,rfl,a,q):=h;lk;rw[show(NI (1:Int))=NI ((1:Nat):Int) from rfl,qS];show bA (λY=>.bool NK) (by rw[ci,IF];let:=a.nb.1;lia) (λi hi Q b=>?_) ?_
 .rw[pb,bK,bK];rw[ci,IF,IF,Kc]at hi;let e:(r.drop 1).getD i 0=r.getD (i+1) 0:=by simp[IP,Mm,Nat.add_comm]
  rw[e];let lt:r.getD i 0<r.getD (i+1) 0:=by let:=Ko.mp a.up i (i+1) (!0) (!0) (!0);rwa [IP,IK (!0),IP,IK (!0)]
  lk;rw[decide_eq_true lt];show b
 rw[dQ];lk;rw[dY];lk;show bA (λY=>.bool NK) (by rw[IF];let:=a.nb.1;lia) (λi hi Q b=>?_) ?_
 .rw[bK];let c:=a.lt _ (aE (l:=r) (k:=i) (by simpa using hi));lk;rw[M0 c.1,decide_eq_true c.2];show b
 rw[dQ];lk;rw[dY];show q
abbrev f8:Stmt:=top 41
def nO:ak ["row"] ["row"] (ac f8):={}
inductive ia (ss:NA) (R:Sl->NA->Prop):Prop
 |mk (r:Np):ss=[.fr (.list (li r))]->NB r->R (.fr (.str (gz r))) [.un]->ia ss R
def ox{f:ap}{fd:kN}(F:Fun K "show_row" "show_row" f8 f fd)(B:Bn mg){c:Tok}{a:bx}(d:mg "NO_CLOCKS" = NI (.str a c))(e_NO_CLOCKS:a=cq "-")(b:Cal P w K mg base "show_numbers" 1 (spD K nz)):a9 P w K mg base CX0 2 f fd ["row"] (spD K ia):=by
 show okD (k:=1) F nO (λss R h=>?_) (!2) (λcdv A outer s H E e=>(_,(af (aB (gg (gU (K:=K) rfl (qv 0)) (ao b (aa (qf 0) (aa fL ad))) (dP rfl d)))),λss R h=>?_));let(r,rfl,_):=h;rfl;let(r,rfl,hn,q):=h;subst e_NO_CLOCKS;unfold gz at q;lk;by_cases h:r=[]
 subst h;rw[M0 rfl]at q;show q;rw[M1 h]at q;rw[M0 (by cases r with|nil=>show absurd rfl h|cons x r=>rfl)];show(r,44,rfl,hn,_,rfl,q)
abbrev de:Stmt:=top 42
def lm:ak ["rows"] ["rows"] (ac de):={}
inductive fY (ss:NA) (R:Sl->NA->Prop):Prop
 |mk (rs:M9):ss=[.fr (.list (lr rs))]->(∀r∈rs,NB r)->rs.length<=64->R (.fr (.str (dU rs))) [.un]->fY ss R
def lN{f:ap}{fd:kN}(F:Fun K "show_rows" "show_rows" de f fd)(B:Bn mg){c:Tok}{a:bx}(d:mg "NO_ROWS" = NI (.str a c))(e_NO_ROWS:a=cq ".")(b:Cal P w K mg base "show_row" 2 (spD K ia)):a9 P w K mg base CX0 3 f fd ["rows"] (spD K fY):=by
 show okD (k:=2) F lm (λss R h=>?_) (!2) (λcdv A outer s H E m=>(_,(af (aB (gg (gU (K:=K) rfl (qv 0)) (yJ (K:=K) rfl fL (bX (NN:=_::_) (sc0:=ac de) (N':=["row"]) (ix:=[NJ]) (aA (qf 0)) (λY Y Y Y=>(am 0 (!4))) (λY Y Y Y=>(ao b (aa (qf 0) ad))))) (dP rfl d)))),λss R h=>?_));let(rs,rfl,_):=h;rfl;let(rs,rfl,hn,hl,q):=h;subst e_NO_ROWS;unfold dU at q;lk;by_cases h:rs=[]
 subst h;rw[M0 rfl]at q;show q
 .rw[M1 h]at q;rw[M0 (by cases rs with|nil=>show absurd rfl h|cons x r=>rfl)];show bA (λi=>.str (gz (rs.getD i []))) (by rw[IF];lia) (λi hi Q g=>?_) ?_
  .rw[gJ];let j:=hn _ (bZ (l:=rs) (k:=i) (by simpa using hi));lk;show(_,rfl,j,?_);lk;show g
  let e:(cp (lr rs).length).map (λi=>ei (gz (rs.getD i [])))=(rs.map gz).map ei:=by rw[IF,bO rs [] (λr=>ei (gz r)),Jq];rfl
  rw[e];lk;show(rs.map gz,rfl,IQ (lz hn (!0) (!3)) (!2),q)
abbrev eR:Stmt:=top 43
def ln:ak ["plan"] ["plan"] (ac eR):={}
inductive fZ (ss:NA) (R:Sl->NA->Prop):Prop
 |mk (a b:M9):ss=[.fr (.tuple [.list (lr a),.list (lr b)])]->(∀r∈a,NB r)->(∀r∈b,NB r)->a.length<=64->b.length<=64->b≠[]->R (.fr (.str (AA a b))) [.un]->fZ ss R
def lO{f:ap}{fd:kN}(F:Fun K "show_plan" "show_plan" eR f fd)(B:Bn mg){e:Tok}{d:bx}(g:mg "BETWEEN" = NI (.str d e))(e_BETWEEN:d=cq " | ")(c:Cal P w K mg base "show_rows" 3 (spD K fY)):a9 P w K mg base CX0 4 f fd ["plan"] (spD K fZ):=by
 show okD (k:=3) F ln (λss R h=>?_) (!2) (λcdv A outer s H E p=>(_,(af (aB (bt d5 xo (bt d5 xo (ao c (aa (qx (qv 0) ag) ad)) (dP rfl g)) (ao c (aa (qx (qv 0) ag) ad))))),λss R h=>?_));let(a,b,rfl,_):=h;rfl;let(a,b,rfl,i,j,la,l,nb,q):=h;subst e_BETWEEN;lk;let l3:(cq " | ").length=3:=!3
 let m:(dU a).length<=20000:=by unfold dU;split;show IQ (show -dot<=1 by decide +kernel) (!2);let:=fJ i la;lia
 let n:=fJ j l;let o:dU b=fK b:=M1 nb;show(a,rfl,i,la,?_);lk;show(!0,b,rfl,j,l,?_);lk;rw[o];show(by rw[gs];lia,q)
abbrev ga:Stmt:=top 48
def il:ak ["text","row"] ["text"] (ac ga):={}
inductive ib (ss:NA) (R:Sl->NA->Prop):Prop
 |mk (r:Np):ss=[.fr (.str (gz r))]->Rs r->R (.ow (li r)) [.un]->ib ss R
def oz{f:ap}{fd:kN}(F:Fun K "read_row" "read_row" ga f fd)(B:Bn mg){e:Tok}{a:bx}(g:mg "NO_CLOCKS" = NI (.str a e))(e_NO_CLOCKS:a=cq "-"){i:Tok}{d:Int}(j:mg "CLOCKS" = NI (.int d i))(e_CLOCKS:d=1000)(b:Cal P w K mg base "read_numbers" 2 (spD K jP))(l:Cal P w K mg base "is_row" 1 (spD K nJ)):a9 P w K mg base CX0 3 f fd ["text"] (spD K ib):=by
 show okD (k:=2) F il (λss R h=>?_) (!2) (λcdv A outer s H E m=>(_,(ai (gF (ay (Be (K:=K) rfl m.units) mEq (qv 0) (dP rfl g)) (af (aB (cP ad))) br)
   (ai (ax 1 il.nd (ao b (aa (qf 0) (aa fL ad))))
   (ai (gF (gE (gC (As l (m.mono (!2)) rfl (aa (FP 1) (aa (tR rfl j) ad))))) (af iF) br)
   (af (aB (qv 1)))))),λss R h=>?_))
 let(r,rfl,_):=h;rfl
 cbv;let(r,rfl,m,q):=h;subst e_NO_CLOCKS;subst e_CLOCKS
 w_up;lk;let n:shp (ei (cq "-")):=pG (!3);let o:shp (ei (gz r)):=pG λc hc=>by
  rcases nV m.nb c hc with h|h|h <;> lia
 show(o,n,?_);by_cases h:r=[]
 subst h;rw[M0 (show gz []=cq "-" from M0 rfl)];show(Jb _,q)
 .let hd:gz r≠cq "-" := wF m.nb h;rw[M1 hd];lk;show(r,44,by unfold gz;rw[M1 h];rfl,m.nb,h,!2,?_);lk;show(r,rfl,m,?_);lk;show(rfl,?_);lk;show q
abbrev df:Stmt:=top 49
def lq:ak ["text"] ["text"] (ac df):={}
inductive f6 (ss:NA) (R:Sl->NA->Prop):Prop
 |mk (rs:M9):ss=[.fr (.str (fK rs))]->rs≠[]->(∀r∈rs,Rs r)->rs.length<=64->(∀S,R (.tr S (.list (lr rs))) [.un])->f6 ss R
def lQ{f:ap}{fd:kN}(F:Fun K "read_rows" "read_rows" df f fd)(B:Bn mg)(a:Cal P w K mg base "read_row" 3 (spD K ib)):a9 P w K mg base CX0 4 f fd ["text"] (spD K f6):=by
 show okD (k:=3) F lq (λss R h=>?_) (!2) (λcdv A outer s H E c=>(_,(af (aB (Aq (N':=["part"]) (ix:=[NJ]) rfl (vD (N:=_::_) (sc0:=ac df) rfl rfl (!3)) (aA (og (K:=K) rfl (qv 0) fL)) (λY Y Y Y=>(am 0 (!4))) (λY Y Y Y=>iD) (λY Y Y Y=>(ao a (aa (qf 0) ad)))))),λss R h=>?_));let(rs,rfl,_):=h;rfl;let(rs,rfl,d,c,hl,q):=h;lk;let hn:∀r∈rs,NB r:=λr h=>(c r h).nb;show(!3,IQ (fJ hn hl) (!2),?_);rw[show cq " " = sgn 32 from rfl,rn hn d];show B3 (λi=>.list (li (rs.getD i []))) (by rw[IF,IF];lia) (λi hi Q g=>?_) ?_
 .let b:i< -rs:=by simpa using hi
  let j:=c _ (bZ b);let e:((rs.map gz).map ei)[i]=ei (gz (rs.getD i [])):=by rw[Jn,Jn,IP,IK b];rfl
  rw[e];lk;show(_,rfl,j,?_);lk;show g
 intro S;let e:(cp ((rs.map gz).map ei).length).map (λi=>dk (li (rs.getD i [])))=lr rs:=by rw[IF,IF,bO rs [] (λr=>dk (li r))]
 rw[e];lk;show q S
abbrev eV:Stmt:=top 50
def dL:ak ["line","parts","first"] ["line"] (ac eV):={}
inductive f7 (ss:NA) (R:Sl->NA->Prop):Prop
 |mk (a b:M9):ss=[.fr (.str (AA a b))]->(∀r∈a,Rs r)->(∀r∈b,Rs r)->a.length<=64->b.length<=64->b≠[]->(∀S,R (.tr S (.tuple [.list (lr a),.list (lr b)])) [.un])->f7 ss R
def lR{f:ap}{fd:kN}(F:Fun K "read_plan" "read_plan" eV f fd)(B:Bn mg){g:Tok}{e:bx}(i:mg "NO_ROWS" = NI (.str e g))(e_NO_ROWS:e=cq ".")(j:Cal P w K mg base "halves" 1 (spD K jT))(d:Cal P w K mg base "read_rows" 4 (spD K f6)):a9 P w K mg base CX0 5 f fd ["line"] (spD K f7):=by
 show okD (k:=4) F dL (λss R h=>?_) (!2) (λcdv A outer s H E t=>(_,(ai (ax 1 dL.nd (ao j (aa (qf 0) ad)))
   (pV (ax 2 dL.nd (gg (ay (Be (K:=K) rfl t.units) mEq (qx (qv 1) ag) (dP rfl i)) (yH ad) (ao d (aa (qx (qv 1) ag) ad))))
   (af (aB (yG (aa (C2 2) (aa (ao d (aa (qx (qv 1) ag) ad)) ad))))))),λss R h=>?_))
 let(a,b,rfl,_):=h;rfl;let(a,b,rfl,m,n,la,o,nb,q):=h;subst e_NO_ROWS;lk;let na:∀r∈a,NB r:=λr h=>(m r h).nb;let l:∀r∈b,NB r:=λr h=>(n r h).nb;let u:(dU a).length<=20000:=by unfold dU;split;show IQ (show -dot<=1 by decide +kernel) (!2);let:=fJ na la;lia
 let v:=fJ l o;show(dU a,fK b,rfl,xF na,pN l,!0,?_);lk;show(λenv=>∃S,env=[.fr (.str (AA a b)),.ow [.str (dU a),.str (fK b)],.tr S (.list (lr a))],?_,?_)
 .lk;let x:shp (ei (cq ".")):=pG (!3);let y:shp (ei (dU a)):=pG λc hc=>by
   unfold dU at hc;split at hc;rw[oT]at hc;rw[IG.mp hc];decide;rcases jZ na c hc with h|h|h|h <;> lia
  show(y,x,?_);by_cases h:a=[]
  subst h;rw[M0 (show dU []=cq "." from M0 rfl)];show(Jb _,λY=>rfl)
  .let p:dU a=fK a:=M1 h;let hd:dU a≠cq "." := by
    rw[p];show wE na
   rw[M1 hd];show(a,by rw[p],h,m,la,λS=>?_);lk
 .rintro env ⟨S,rfl⟩;lk;show(b,rfl,nb,n,o,λS'=>?_);lk;show(IQ (!2) ae,q)
abbrev Ac:Stmt:=top 62
def iq:ak ["_law_script","_law_town_here","_law_again","_law_desk","_law_plan","_law_paper","_law_told"] ["_law_script"] (ac Ac):={}
theorem tY:∀s:Np,iH s=lE s
 |[]=>rfl
 |x::s=>by
  show x.toNat*iH s=x.toNat*lE s;rw[tY s]
def TB.tbl{s o:Np}(h:TB s o)(a:-o*iH s<=60):TbL s o:=by
 let(h1,h2,h3,f,b,c,d):=h;let e:(qZ s o).length<=60:=by rw[yj,<-tY];show a
 show(h2,h3,λx hx=>(b x hx).1,λx hx=>(c x hx).1,d.imp id λh x hx=>JF (h x hx) (!2),!0)
inductive wu:DSp
 |mk {ss R} (ns:Np):ss=[.fr (.list (li ns))]->ns.length<=63->R (.fr (.bool true)) [.un]->wu ss R
def DC{f C:ap}{fd:kN}(F:Fun K "law" "law" Ac f fd)(B:Bn mg)(e:Cal P w K mg base "_law_draws" 2 (spD K nK))(g:Cal P w K mg base "_law_town" 2 (spD K sY))(m:Cal P w K mg base "show_town" 2 (spD K sZ))(n:Cal P w K mg base "read_town" 3 (spD K tm))
  (L:GR P w K mg base C "Desk" 1 (zW C)) (O:sE P w K mg base C "put" 2 (zT K C yW)) (I:sE P w K mg base C "names" 1 (spD K (nG C))) (M:sE P w K mg base C "town" 2 (spD K (nw C))) (N:sE P w K mg base C "plan" 11 (spD K (nC C))) (J:sE P w K mg base C "paper" 11 (spD K (jR C)))
  (G:Cal P w K mg base "shortage" 3 (spD K nB)) (p:Cal P w K mg base "shuts_out" 9 (spD K ny)) (u:Cal P w K mg base "show_plan" 4 (spD K fZ)) (v:Cal P w K mg base "read_plan" 5 (spD K f7)) (d:Cal P w K mg base "_law_goes_on" 4 (spD K jU)):a9 P w K mg base CX0 14 f fd ["_law_script"] (spD K wu):=by
 show okD (k:=13) F iq (λss R h=>?_) (!2) (λcdv A outer s H E D=>(_,(ai (ax 1 iq.nd (Au g (aa (ao e (aa (qf 0) (aa ag (aa ag ad)))) (aa ag ad))))
   (ai (ax 2 iq.nd (yI (ao n (aa (ao m (aa (qf 1) ad)) ad))))
   (Ah (i:=3) (j:=2) (yL iq.nd rfl cc (Dp L (D.mono (!2)) rfl)) (tW (Dm O (D.mono (!2)) (bu rfl cc) (bu rfl cc))) (ai (gF (PW.pt (lB (ay (E3 (K:=K) rfl D.units) mNe (qv 2) (qv 1)) (lB (ay (E3 (K:=K) rfl D.units) mNe (Am I rfl (D.mono (!2)) (qv 3)) (cP (aa fL ad))) (lA (ay (E3 (K:=K) rfl D.units) mNe (jB M rfl (D.mono (!2)) (qv 3) (aa fL ad)) (qv 1)))))) (af (aB wI)) br)
   (ai (ax 4 iq.nd (jB N rfl (D.mono (!2)) (qv 3) (aa fL ad)))
   (ai (ax 5 iq.nd (jB J rfl (D.mono (!2)) (qv 3) (aa fL ad)))
   (ai (gF (PW.pt (lB (ay rJ HY (jd p8 EY (qv 4) fb) (jd p8 EY (qv 5) fb)) (lA (PW.pt (jz (ay gj rS (ao G (aa (qf 2) ad)) fb) (iB (ay gj rS (qv 4) fb))))))) (af (aB wI)) br)
   (ai (gF (ay p8 EY (qv 4) fb) (af (aB (jd Du HU (ao p (aa (qf 2) (aa (qf 5) ad))) wI))) br)
   (ai (ax 6 iq.nd (yI (ao v (aa (ao u (aa (qf 4) ad)) ad))))
   (af (aB (rF (jd (Be (K:=K) rfl D.units) mEq (qv 6) (qv 4)) (tQ (ao d (aa (qf 1) (aa (qf 6) ad)))))))))))))))),λss R h=>?_))
 let(ns,rfl,_):=h;rfl;let(ns,rfl,X,q):=h;lk;show(ns,1,30,rfl,X,!2,!2,λl hl _=>?_);lk;show(l,60,rfl,hl,!2,!2,λs o l' a4 tb Y=>?_);lk;let t:=tb.tbl Y;let(t1,t2,W,t4,t5,t6,t7):=id tb;let Q:NB s:=(t2,λx hx=>by let:=t5 x hx;lia)
 let T:NB o:=(t4,λx hx=>by let:=t6 x hx;lia)
 show(s,o,rfl,Q,T,?_);lk;show(s,o,rfl,Q,T,λz=>by rw[z]at t1;simp at t1,λz=>by rw[z]at W;simp at W,λx hx=>(t5 x hx).1,λS=>?_);lk;let U:Sh 2 (.tuple [.list (li s),.list (li o)]):=Sh.two (Sh.ints 0 s) (Sh.ints 0 o);let eT:=qy U (!2);show((s,o,rfl),!2,U.shp (!2),U.shp (!2),?_);rw[eT,M1 (!2)];show((_,_,rfl),_,_,rfl,?_);lk;let sA:shp (dk [ei (cq "a")]):=!3
 let eA:ed (dk [ei (cq "a")]) (dk [ei (cq "a")])=NK:=!3
 show(IQ (!2) ae,sA,sA,?_);rw[eA,M1 (!2)];show((_,_,rfl),_,s,o,rfl,?_);lk;show(U.shp (!2),U.shp (!2),?_);rw[eT,M1 (!2)];lk;show((_,_,rfl),_,s,o,rfl,t,λP Y=>?_,λA B h1 h2=>?_)
 .lk;show((_,_,rfl),_,s,o,rfl,t,λA B D=>(Y.ring t.2.2.1 W D).elim,λP2 h3 h4=>?_);lk;show(s,o,rfl,tb,?_,λa b c _=>?_)
  all_goals
   lk;show(s,o,P2,rfl,t,h3,h4,?_);lk;show q
 .let rs:∀{Z x y},Wy s o x Z y->∀r∈Z,Rs r:=λ{Z x y} w r D=>by
   let(h,l,hm):=w.rows r D;let(a1,a2,a3):=bj _ r (Ji.mp hm).1;show((!0,λx hx=>by let:=a3 x hx;lia),a2,λx hx=>by let:=a3 x hx;lia)
  lk;show((_,_,rfl),_,s,o,rfl,t,λA2 B2 _=>?_,λP h3 _=>(h3.ring t.2.2.1 W h1).elim);lk;show(s,o,rfl,tb,?_,λa b c hn=>(hn A B h1).elim);lk;let((y,wA,wB),V):=id h1;let ra:=rs wA;let rb:=rs wB;let nb:B≠[]:=λz=>by rw[z]at V;simp at V
  show(A,B,rfl,λr D=>(ra r D).nb,λr D=>(rb r D).nb,!0,!0,nb,?_);lk;show(A,B,rfl,ra,rb,!0,!0,nb,λS2=>?_);lk;let sP:Sh 3 (.tuple [.list (lr A),.list (lr B)]):=Sh.two (Sh.lr 0 A) (Sh.lr 0 B);show(sP.shp (!2),sP.shp (!2),?_);rw[qy sP (!2),M0 rfl];show(s,o,A,B,rfl,tb,h1,?_);lk;show q
end
def EI{l:py}{w:zb}{K:ca}{h:bd}{mg:bx->Nm}{fa CD:ap}(X:K.In h)(G:h.Ns ky mg)(f1:mg "law" = NI (.ref fa))
  (g0:FnI K "_law_pop" gc)
  (g1:FnI K "_law_mix" gd)
  (g2:FnI K "_law_draws" cK)
  (g3:FnI K "_law_town" bN)
  (g4:FnI K "_law_rows" bh)
  (g5:FnI K "_law_after" dO)
  (g6:FnI K "hands_on" gb)
  (g7:FnI K "behind" gT)
  (g8:FnI K "begun" nU)
  (g9:FnL K "choices" fH)
  (f2:FnL K "full_rows" dq)
  (f3:FnI K "looked_through" bB)
  (f4:FnI K "plan_of" iz)
  (f5:FnI K "paper_of" cr)
  (h0:FnI K "next_worse" bV)
  (h4:FnL K "least_ranks" dg)
  (h5:FnI K "is_ranked" dh)
  (h6:FnI K "leads_down" bW)
  (h7:FnI K "shuts_out" dc)
  (h9:FnI K "greatest_divisor" bG)
  (i0:FnI K "least_multiple" b8)
  (i3:FnI K "wanted_in" db)
  (i4:FnI K "shortage" f9)
  (j1:FnI K "_law_begun" dM)
  (j3:FnI K "_law_behind" dr)
  (k0:FnI K "_law_goes_on" cO)
  (k1:FnI K "copied" jY)
  (k2:FnI K "show_numbers" bS)
  (k3:FnI K "show_town" eQ)
  (k5:FnI K "read_number" ck)
  (k6:FnI K "read_numbers" bT)
  (k9:FnI K "halves" jX)
  (l0:FnI K "read_town" eU)
  (m7:FnI K "is_row" fG)
  (n0:FnI K "show_row" f8)
  (n1:FnI K "show_rows" de)
  (n2:FnI K "show_plan" eR)
  (n3:FnI K "read_row" ga)
  (n4:FnI K "read_rows" df)
  (n5:FnI K "read_plan" eV)
  (n6:FnI K "law" Ac)
  {b6:Tok}{p:bx} (g_BETWEEN:cb K ky "BETWEEN" = NI (NI (.str p b6))) (e_BETWEEN:p=cq " | ")
  {c4:Tok}{q:bx} (g_FIGURES:cb K ky "FIGURES" = NI (NI (.str q c4))) (e_FIGURES:q=cq "0123456789")
  {n:Tok}{b:Int} (g_MOST_FIGURES:cb K ky "MOST_FIGURES" = NI (NI (.int b n))) (e_MOST_FIGURES:b=40)
  {O:Tok}{i:bx} (g_NO_CLOCKS:cb K ky "NO_CLOCKS" = NI (NI (.str i O))) (e_NO_CLOCKS:i=cq "-")
  {c6:Tok}{r:bx} (g_NO_ROWS:cb K ky "NO_ROWS" = NI (NI (.str r c6))) (e_NO_ROWS:r=cq ".")
  {d3:Tok}{J:Int} (g_CLOCKS:cb K ky "CLOCKS" = NI (NI (.int J d3))) (e_CLOCKS:J=1000)
  (aD:cb K ky "Desk" = NI (NI (.ref CD))) (pg:mj K CD Str.empty=NK) (hd:ol K CD=NK) (po:sT K CD=NK) (sa:et K (.ref CD) "__setattr__" = NI (NI (.builtin "object.__setattr__"))) (mk:pu K CD=NK) (kc:eE K (.ref CD)=NK) (na:et K (.ref CD) "towns" = NI NJ)
  (m0:MtI K CD "__init__" "Desk.__init__" tH)
  (m1:MtI K CD "put" "Desk.put" Ab)
  (m2:MtI K CD "names" "Desk.names" nS)
  (m3:MtI K CD "town" "Desk.town" tF)
  (m4:MtI K CD "plan" "Desk.plan" tG)
  (m5:MtI K CD "paper" "Desk.paper" nR)
  (m6:MtI K CD "look_up" "Desk.look_up" iA)
  (z : BnI K)
  : ∃fd:kN,(∀(s:ba) (v:as),QJ s fd ([v],[]) [("_law_script",v)])/\∀base:bd,K.In base->base.Ns ky mg->a9 l.prog w K mg base CX0 14 fa fd ["_law_script"] (spD K wu):=by
 let B:Bn mg:=z.bn X G;show H9 X G f1 n6 (λF s v=>?_) λ{fd base} e9 Xb=>?_;let(_,_,_,_,_,_,_,_,_,rfl,_,_):=F.ex;show .of_eq rfl;let c:Cls K CD:=(pg,hd,po,sa)
 let a7:=dF X G g0 (λF=>bd1 F) λF=>oC (P:=l.prog) (w:=w) (base:=base) F B;let b0:=dF X G g1 (λF=>bd2 F) λF=>oE (P:=l.prog) (w:=w) (base:=base) F B;let C:=dF X G g2 (λF=>bd3 F) λF=>ka (P:=l.prog) (w:=w) (base:=base) F B b0;let Q:=dF X G g3 (λF=>bd2 F) λF=>lU (P:=l.prog) (w:=w) (base:=base) F B a7;let R:=dF X G g4 (λF=>bd2 F) λF=>lV (P:=l.prog) (w:=w) (base:=base) F B;let D:=dF X G g5 (λF=>bd3 F) λF=>kf (P:=l.prog) (w:=w) (base:=base) F B;let b1:=dF X G g6 (λF=>bd2 F) λF=>oB (P:=l.prog) (w:=w) (base:=base) F B;let m:=dF X G g7 (λF=>bd3 F) λF=>uy (P:=l.prog) (w:=w) (base:=base) F B;let t:=dF X G g8 (λF=>bd1 F) λF=>w9 (P:=l.prog) (w:=w) (base:=base) F B;let u:=GH X G Xb g9 (λF=>bd2 F) λF L=>rO (P:=l.prog) (w:=w) F B L b1;let j:=GH X G Xb f2 (λF=>bd2 F) λF L=>lT (P:=l.prog) (w:=w) F B L u;let a:=dF X G f3 (λF=>bd2 F) λF=>gn (P:=l.prog) (w:=w) (base:=base) F B j m;let d0:=dF X G f4 (λF=>bd1 F) λF=>rM (P:=l.prog) (w:=w) (base:=base) F B a t;let b2:=dF X G f5 (λF=>bd1 F) λF=>oA (P:=l.prog) (w:=w) (base:=base) F B a t j m;let E:=dF X G h0 (λF=>bd1 F) λF=>j8 (P:=l.prog) (w:=w) (base:=base) F B;let x:=GH X G Xb h4 (λF=>bd1 F) λF L=>jf (P:=l.prog) (w:=w) F B L E;let S:=dF X G h5 (λF=>bd2 F) λF=>lS (P:=l.prog) (w:=w) (base:=base) F B;let H:=dF X G h6 (λF=>bd3 F) λF=>j9 (P:=l.prog) (w:=w) (base:=base) F B u m;let T:=dF X G h7 (λF=>bd2 F) λF=>lK (P:=l.prog) (w:=w) (base:=base) F B S x t H;let f:=dF X G h9 (λF=>bd2 F) λF=>fe (P:=l.prog) (w:=w) (base:=base) F B;let k:=dF X G i0 (λF=>bd1 F) λF=>gp (P:=l.prog) (w:=w) (base:=base) F B f;let U:=dF X G i3 (λF=>bd2 F) λF=>lJ (P:=l.prog) (w:=w) (base:=base) F B;let b3:=dF X G i4 (λF=>bd1 F) λF=>oy (P:=l.prog) (w:=w) (base:=base) F B k U;let I:=dF X G j1 (λF=>bd1 F) λF=>kb (P:=l.prog) (w:=w) (base:=base) F B;let y:=dF X G j3 (λF=>bd3 F) λF=>jg (P:=l.prog) (w:=w) (base:=base) F B R D;let o:=dF X G k0 (λF=>bd2 F) λF=>iN (P:=l.prog) (w:=w) (base:=base) F B I y;let M:=dF X G k1 (λF=>bd1 F) λF=>ux (P:=l.prog) (w:=w) (base:=base) F B;let d:=dF X G k2 (λF=>bd2 F) λF=>iL (P:=l.prog) (w:=w) (base:=base) F B;let V:=dF X G k3 (λF=>bd1 F) λF=>lM (P:=l.prog) (w:=w) (base:=base) F B (en X G g_BETWEEN) e_BETWEEN d;let A:=dF X G k5 (λF=>bd1 F) λF=>je (P:=l.prog) (w:=w) (base:=base) F B (en X G g_FIGURES) e_FIGURES (en X G g_MOST_FIGURES) e_MOST_FIGURES;let e:=dF X G k6 (λF=>bd2 F) λF=>iM (P:=l.prog) (w:=w) (base:=base) F B A;let N:=dF X G k9 (λF=>bd1 F) λF=>uw (P:=l.prog) (w:=w) (base:=base) F B (en X G g_BETWEEN) e_BETWEEN;let Y:=dF X G l0 (λF=>bd1 F) λF=>lP (P:=l.prog) (w:=w) (base:=base) F B N e;let e0:=dF X G m7 (λF=>bd2 F) λF=>uv (P:=l.prog) (w:=w) (base:=base) F B;let b4:=dF X G n0 (λF=>bd1 F) λF=>ox (P:=l.prog) (w:=w) (base:=base) F B (en X G g_NO_CLOCKS) e_NO_CLOCKS d;let Z:=dF X G n1 (λF=>bd1 F) λF=>lN (P:=l.prog) (w:=w) (base:=base) F B (en X G g_NO_ROWS) e_NO_ROWS b4;let a4:=dF X G n2 (λF=>bd1 F) λF=>lO (P:=l.prog) (w:=w) (base:=base) F B (en X G g_BETWEEN) e_BETWEEN Z;let b5:=dF X G n3 (λF=>bd1 F) λF=>oz (P:=l.prog) (w:=w) (base:=base) F B (en X G g_NO_CLOCKS) e_NO_CLOCKS (en X G g_CLOCKS) e_CLOCKS e e0;let a5:=dF X G n4 (λF=>bd1 F) λF=>lQ (P:=l.prog) (w:=w) (base:=base) F B b5;let a6:=dF X G n5 (λF=>bd1 F) λF=>lR (P:=l.prog) (w:=w) (base:=base) F B (en X G g_NO_ROWS) e_NO_ROWS N a5;let e6:=Iy (P:=l.prog) (w:=w) (base:=base) m0 (en X G aD) mk kc (λF=>bd1 F) λF=>AZ F c na;let f0:=Co (P:=l.prog) (w:=w) (mg:=mg) (base:=base) m1 c (λF=>bd3 F) λF=>DB F c na M;let g:=Co (P:=l.prog) (w:=w) (mg:=mg) (base:=base) m6 c (λF=>bd2 F) λF=>rN F B c na;let e4:=Co (P:=l.prog) (w:=w) (mg:=mg) (base:=base) m2 c (λF=>bd1 F) λF=>w4 F B c na;let e7:=Co (P:=l.prog) (w:=w) (mg:=mg) (base:=base) m3 c (λF=>bd2 F) λF=>AX F B c na g M;let e8:=Co (P:=l.prog) (w:=w) (mg:=mg) (base:=base) m4 c (λF=>bd2 F) λF=>AY F B c na g d0;let e5:=Co (P:=l.prog) (w:=w) (mg:=mg) (base:=base) m5 c (λF=>bd2 F) λF=>wZ F B c na g b2;show DC e9 B C Q V Y e6 f0 e4 e7 e8 e5 b3 T a4 a6 o
end _W
end
namespace PySem.Challenge.cw_windround_k38_whole_from_line_to_answer_holds
def tw6774672688702060040:0=0:=rfl
def tw2749832172768963041:0=0:=rfl
def tw14247740133712863758:0=0:=rfl
def tw15647508221674565146:0=0:=rfl
def tw8559069426721487777:0=0:=rfl
def tw7682216685361179745:0=0:=rfl
def tw14286194780422649953:0=0:=rfl
def tw9855415366307535023:0=0:=rfl
def tw7739281754440138728:0=0:=rfl
def tw6524176354700059660:0=0:=rfl
def tw3872737077777787198:0=0:=rfl
def tw8132195839078417438:0=0:=rfl
def tw16283668839073163519:0=0:=rfl
def tw17225597259708539773:0=0:=rfl
def tw11889602300298222403:0=0:=rfl
def tw10700857870460008783:0=0:=rfl
def tw17207760094107810439:0=0:=rfl
def tw5567963819328276031:0=0:=rfl
def tw13475666943523788303:0=0:=rfl
def tw9545615669544696592:0=0:=rfl
def tw10817506043225103861:0=0:=rfl
def tw5273235860182150637:0=0:=rfl
def tw4712309563873245161:0=0:=rfl
def tw13502640136876623750:0=0:=rfl
def tw5811760979882170121:0=0:=rfl
def tw7055211073332135382:0=0:=rfl
def tw6709658115434871612:0=0:=rfl
def tw8327267969934022355:0=0:=rfl
def tw17561487811439867605:0=0:=rfl
def tw1589107564085890936:0=0:=rfl
def tw11345621905757476889:0=0:=rfl
def tw10587975195164523335:0=0:=rfl
def tw5711924150761605205:0=0:=rfl
def tw4351977255061271879:0=0:=rfl
def tw13650961429015943910:0=0:=rfl
def tw5920158777854081403:0=0:=rfl
def tw1818395349408989296:0=0:=rfl
def tw16632370054567908256:0=0:=rfl
def tw11392202758536865635:0=0:=rfl
def tw16423004032758212194:0=0:=rfl
def tw13231934204561376800:0=0:=rfl
def tw5004212060051508442:0=0:=rfl
def tw12729878477857617444:0=0:=rfl
def tw871012042305572946:0=0:=rfl
def tw1062660533572163355:0=0:=rfl
def tw4528134951815112248:0=0:=rfl
def tw6275628371192862971:0=0:=rfl
def tw4997173510649596391:0=0:=rfl
def tw15951604810069906979:0=0:=rfl
def tw7818107149442476862:0=0:=rfl
def tw6706777478482327060:0=0:=rfl
def tw11594553136164135046:0=0:=rfl
def tw1501225004814867778:0=0:=rfl
def tw4312023454835880910:0=0:=rfl
def tw2000167855015234957:0=0:=rfl
def tw16222268809609453096:0=0:=rfl
def tw6590698284014022556:0=0:=rfl
def tw6523915860177340970:0=0:=rfl
def tw12604051828888421225:0=0:=rfl
def tw2833824764332809006:0=0:=rfl
def tw15540290085239476712:0=0:=rfl
def tw2281777879206557663:0=0:=rfl
def tw15697188275832439968:0=0:=rfl
def tw16143062652533100162:0=0:=rfl
def tw17851264466187977887:0=0:=rfl
def tw18134700725434961005:0=0:=rfl
def tw3457213030218509168:0=0:=rfl
def tw14900775257839238502:0=0:=rfl
def tw3789504392545248183:0=0:=rfl
def tw13490776846174621036:0=0:=rfl
def tw16593184907537306091:0=0:=rfl
def tw11164863467927058100:0=0:=rfl
def tw15098290889097945482:0=0:=rfl
def tw16671680361642135464:0=0:=rfl
def tw5781654240459528124:0=0:=rfl
def tw1774613463137381736:0=0:=rfl
def tw11624482380612078635:0=0:=rfl
def tw2532262153471737840:0=0:=rfl
def tw5370216374227273044:0=0:=rfl
def tw3536031084720205159:0=0:=rfl
def tw6063419586675967138:0=0:=rfl
def tw1718507996732542450:0=0:=rfl
def tw5460796735846602447:0=0:=rfl
def tw17109326413859800966:0=0:=rfl
def tw5703638018077394264:0=0:=rfl
def tw10287263869392839561:0=0:=rfl
def tw5495834483236184029:0=0:=rfl
def tw17366867836822432404:0=0:=rfl
def tw8294159968239928511:0=0:=rfl
def tw11012456524105383961:0=0:=rfl
def tw15192152140827311854:0=0:=rfl
def tw7060452244931900572:0=0:=rfl
def tw5712895123942973041:0=0:=rfl
def tw5332733424017034730:0=0:=rfl
def tw14135757324042845476:0=0:=rfl
def tw13094989902497491964:0=0:=rfl
def tw17844350530620094145:0=0:=rfl
def tw7592131285026123056:0=0:=rfl
def tw7730629208965037010:0=0:=rfl
def tw10929619113911557498:0=0:=rfl
def tw15485324971274920958:0=0:=rfl
def tw17696712341067657914:0=0:=rfl
def tw18412152799832344368:0=0:=rfl
def tw8540989406838218228:0=0:=rfl
def tw4407246089224040971:0=0:=rfl
def tw2598333439819483707:0=0:=rfl
def tw15402617235928437801:0=0:=rfl
def tw12705103945551804745:0=0:=rfl
def tw16546480838701961285:0=0:=rfl
def tw3174153399661957742:0=0:=rfl
def tw5250441786030311630:0=0:=rfl
def tw10362634227066074586:0=0:=rfl
def tw11163771503581595278:0=0:=rfl
def tw2034007967380905567:0=0:=rfl
def tw12681117958853352662:0=0:=rfl
def tw7405301708172015112:0=0:=rfl
def tw15815174155455444578:0=0:=rfl
def tw1917829052889244695:0=0:=rfl
def tw15153858660159293957:0=0:=rfl
def tw3291993792591975333:0=0:=rfl
def tw14527173755139800941:0=0:=rfl
def tw282595803014131805:0=0:=rfl
def tw1506582548909501926:0=0:=rfl
def tw10936934978913605084:0=0:=rfl
def tw10944166068688152124:0=0:=rfl
def tw6016159739911053708:0=0:=rfl
def tw15197193549770676167:0=0:=rfl
def tw1256057899642401620:0=0:=rfl
def tw5050657318642305923:0=0:=rfl
def tw7434752909422553707:0=0:=rfl
def tw8205852047763594725:0=0:=rfl
def tw7421851222541626609:0=0:=rfl
def tw5596738940433981081:0=0:=rfl
def tw11144618589419867561:0=0:=rfl
def tw7854520089222780375:0=0:=rfl
def tw2504993334011200625:0=0:=rfl
def tw18001534778805222800:0=0:=rfl
def tw10048200872388639335:0=0:=rfl
def tw15825008271769412634:0=0:=rfl
def tw16680065465397946498:0=0:=rfl
def tw95165212427498085:0=0:=rfl
def tw5316087885000244588:0=0:=rfl
def tw2866319359904713975:0=0:=rfl
def tw14165711103782906018:0=0:=rfl
def tw2404539828986583466:0=0:=rfl
def tw11002241170313860213:0=0:=rfl
def tw15471195259387782630:0=0:=rfl
def tw10091245730316430011:0=0:=rfl
def tw11041721679767546438:0=0:=rfl
def tw3559202030399113187:0=0:=rfl
def tw16630387848396091124:0=0:=rfl
def tw8465042464561724617:0=0:=rfl
def tw6940807150534666989:0=0:=rfl
def tw9851352056330668291:0=0:=rfl
def tw106186924770326483:0=0:=rfl
def tw9203027139361534837:0=0:=rfl
def tw15647535773591275947:0=0:=rfl
def tw8508932644890102191:0=0:=rfl
def tw17784809828408587787:0=0:=rfl
def tw10584615322881444153:0=0:=rfl
def tw378151547662086835:0=0:=rfl
def tw12945454701554558523:0=0:=rfl
def tw4800673079389397218:0=0:=rfl
def tw15140001357397484873:0=0:=rfl
def tw9190138958901306933:0=0:=rfl
def tw9109274920399502886:0=0:=rfl
def tw8005655390183499012:0=0:=rfl
def tw40610947314541234:0=0:=rfl
def tw9252771048992212074:0=0:=rfl
def tw6104910045745148095:0=0:=rfl
def tw12959655386039872900:0=0:=rfl
def tw15271796383750108393:0=0:=rfl
def tw14208758719536009976:0=0:=rfl
def tw7577853335810823595:0=0:=rfl
def tw8708220676306928920:0=0:=rfl
def tw3785046630049478173:0=0:=rfl
def tw13598368467336703254:0=0:=rfl
def tw11725368699745766407:0=0:=rfl
def tw2051924929501172359:0=0:=rfl
def tw11422821780428607614:0=0:=rfl
def tw10536879079805029415:0=0:=rfl
def tw15705188730414497755:0=0:=rfl
def tw17513675707806566119:0=0:=rfl
def tw3973115054016925245:0=0:=rfl
def tw5619715567659822618:0=0:=rfl
def tw4897170400749349894:0=0:=rfl
def tw6113222171629657000:0=0:=rfl
def tw6764103766580306555:0=0:=rfl
def tw5952669249852290487:0=0:=rfl
def tw12678374463013026927:0=0:=rfl
def tw11064150535697261331:0=0:=rfl
def tw7869677280843132652:0=0:=rfl
def tw2046251430360295881:0=0:=rfl
def tw15988580304930630271:0=0:=rfl
def tw17287560101671422902:0=0:=rfl
def tw16294630084813329669:0=0:=rfl
def tw11274389179621421192:0=0:=rfl
def tw1796078645756268633:0=0:=rfl
def tw3544163169279496741:0=0:=rfl
def tw3034483846183905689:0=0:=rfl
def tw743997284133669523:0=0:=rfl
def tw12331415295229746290:0=0:=rfl
def tw1548894007319163133:0=0:=rfl
def tw14488900608928010021:0=0:=rfl
def tw12231886655241369186:0=0:=rfl
def tw8182074451585486849:0=0:=rfl
def tw4712545466773652883:0=0:=rfl
def tw14341916780746505586:0=0:=rfl
def tw8450546803002195803:0=0:=rfl
def tw5369259113207260376:0=0:=rfl
def tw13734305732041682911:0=0:=rfl
def tw8154740874446920183:0=0:=rfl
def tw2637721048453765490:0=0:=rfl
def tw1404780468729119492:0=0:=rfl
def tw8718090093564054388:0=0:=rfl
def tw16018204346306973033:0=0:=rfl
def tw16090956799859240986:0=0:=rfl
def tw13086223531160881405:0=0:=rfl
def tw7947436864624680003:0=0:=rfl
def tw13640110098693704526:0=0:=rfl
def tw10552209491861697792:0=0:=rfl
def tw14543622277241318641:0=0:=rfl
def tw12151079873091214030:0=0:=rfl
def tw11008478495847136208:0=0:=rfl
def tw17599736122347062165:0=0:=rfl
def tw11518640918928036802:0=0:=rfl
def tw9532021519903448895:0=0:=rfl
def tw17355355159515915936:0=0:=rfl
def tw12732374501895491938:0=0:=rfl
def tw13562003744401124457:0=0:=rfl
def tw5982393118024658040:0=0:=rfl
def tw4853649914405656919:0=0:=rfl
def tw7041206955249931255:0=0:=rfl
def tw17703353614243225960:0=0:=rfl
def tw12188609116293161548:0=0:=rfl
def tw2317014049270198510:0=0:=rfl
def tw2076372572428064490:0=0:=rfl
def tw9056922981538378868:0=0:=rfl
def tw7896995492212846646:0=0:=rfl
def tw8635483601572436711:0=0:=rfl
def tw11051364229708056147:0=0:=rfl
def tw12659290338429334626:0=0:=rfl
def tw11773385349049487187:0=0:=rfl
def tw2941915073901401197:0=0:=rfl
def tw1772360574509621831:0=0:=rfl
def tw17637722650067597167:0=0:=rfl
def tw12583268122890979800:0=0:=rfl
def tw13055760140345963369:0=0:=rfl
def tw430360910489064903:0=0:=rfl
def tw10270953359229338388:0=0:=rfl
def tw2047616440159204355:0=0:=rfl
def tw11886044813521903596:0=0:=rfl
def tw15664327351500170758:0=0:=rfl
def tw4321397495652469893:0=0:=rfl
def tw3840609168881977791:0=0:=rfl
def tw10084870129533645646:0=0:=rfl
def tw11399426054122734552:0=0:=rfl
def tw11464789256831458206:0=0:=rfl
def tw16093233623907162924:0=0:=rfl
def tw15188799938745653462:0=0:=rfl
def tw17001781500846838844:0=0:=rfl
def tw3568387013723116943:0=0:=rfl
def tw3173188158445376402:0=0:=rfl
def tw2826769380292530056:0=0:=rfl
def tw2824459311463814918:0=0:=rfl
def tw11294535472346252193:0=0:=rfl
def tw17659766374799670805:0=0:=rfl
def tw16172928345669361856:0=0:=rfl
def tw12032359302241624050:0=0:=rfl
def tw10083926768589106362:0=0:=rfl
def tw588093454986466072:0=0:=rfl
def tw16684434865192962125:0=0:=rfl
def tw5415474064049260666:0=0:=rfl
def tw11165153420897405859:0=0:=rfl
def tw7974828641883833940:0=0:=rfl
def tw4476692992619613687:0=0:=rfl
def tw14332260864750559819:0=0:=rfl
def tw5770170095260630118:0=0:=rfl
def tw5506580512432894029:0=0:=rfl
def tw393699011372675074:0=0:=rfl
def tw10407682936072486012:0=0:=rfl
def tw15677658127655438961:0=0:=rfl
def tw14192381736081503661:0=0:=rfl
def tw6024060401987747325:0=0:=rfl
def tw18339086029420154919:0=0:=rfl
def tw3265624075063793631:0=0:=rfl
def tw11378412856453762369:0=0:=rfl
def tw14577281552356457585:0=0:=rfl
def tw14412039290515429739:0=0:=rfl
def tw6949291950261949154:0=0:=rfl
def tw390664866162971334:0=0:=rfl
def tw10029451728055659448:0=0:=rfl
def tw6626194031271354523:0=0:=rfl
def tw363010445826188251:0=0:=rfl
def tw5218285081384162378:0=0:=rfl
def tw11414467151492896210:0=0:=rfl
def tw6815405333998053260:0=0:=rfl
def tw8744052957831681238:0=0:=rfl
def tw12268986808538037490:0=0:=rfl
def tw18358388388542234986:0=0:=rfl
def tw282337964820189631:0=0:=rfl
def tw5861465192951920022:0=0:=rfl
def tw2514536532762100432:0=0:=rfl
def tw11111653175489071978:0=0:=rfl
def tw15648921339703184407:0=0:=rfl
def tw8024761563912306706:0=0:=rfl
def tw3241724490782770981:0=0:=rfl
def tw10697077644105307386:0=0:=rfl
def tw1823852744470052093:0=0:=rfl
def tw8542290098715624625:0=0:=rfl
def tw17873447557043280501:0=0:=rfl
def tw11643457648444280691:0=0:=rfl
def tw14936731203781132811:0=0:=rfl
def tw14671411026308774485:0=0:=rfl
def tw1036208267191287430:0=0:=rfl
def tw5108492873634441819:0=0:=rfl
def tw4292126115578490640:0=0:=rfl
def tw4201097040738772289:0=0:=rfl
def tw6998058704621743286:0=0:=rfl
def tw17543319947391137915:0=0:=rfl
def tw4731292351493144827:0=0:=rfl
def tw17234184385667652315:0=0:=rfl
def tw6702602013969756512:0=0:=rfl
def tw3840007278542147280:0=0:=rfl
def tw2628176725606148859:0=0:=rfl
def tw2693069135367847685:0=0:=rfl
def tw15906296228656107721:0=0:=rfl
def tw14118912185462020291:0=0:=rfl
def tw8042834920603295733:0=0:=rfl
def tw15078426805568996002:0=0:=rfl
def tw12910926852359198311:0=0:=rfl
def tw10779839659693874573:0=0:=rfl
def tw9829974686331160890:0=0:=rfl
def tw15453958561525392140:0=0:=rfl
def tw2383845720876413096:0=0:=rfl
def tw18206549537707817444:0=0:=rfl
def tw3027875582342541719:0=0:=rfl
def tw13005925391062834572:0=0:=rfl
def tw13514672698734530721:0=0:=rfl
def tw6467061075189180135:0=0:=rfl
def tw14272015871509130868:0=0:=rfl
def tw2928667727334283466:0=0:=rfl
def tw11635841740550371499:0=0:=rfl
def tw13819159814824045697:0=0:=rfl
def tw15075118729853546772:0=0:=rfl
def tw15418803810798642309:0=0:=rfl
def tw10446452916818073803:0=0:=rfl
def tw17682208891324105668:0=0:=rfl
def tw15713504695338558408:0=0:=rfl
def tw5613889611561440025:0=0:=rfl
def tw4431643671861278658:0=0:=rfl
def tw4763322243357063971:0=0:=rfl
def tw13670042991383470687:0=0:=rfl
def tw216394025105811521:0=0:=rfl
def tw9341949320862508490:0=0:=rfl
def tw18293662079043910047:0=0:=rfl
def tw1234972432662901388:0=0:=rfl
def tw3789212179184198581:0=0:=rfl
def tw5152352872850696605:0=0:=rfl
def tw12002420326727694458:0=0:=rfl
def tw12452323460804582309:0=0:=rfl
def tw3043966962970165360:0=0:=rfl
def tw6685335188682235035:0=0:=rfl
def tw3815594202622986081:0=0:=rfl
def tw965698310682423408:0=0:=rfl
def tw5242003107380219731:0=0:=rfl
def tw14076149004347879487:0=0:=rfl
def tw12998444095322284872:0=0:=rfl
def tw5297997842935733520:0=0:=rfl
def tw17577537618295505546:0=0:=rfl
def tw11096600386561880442:0=0:=rfl
def tw12690986296521231594:0=0:=rfl
def tw5581989674063850486:0=0:=rfl
def tw3267608396276273279:0=0:=rfl
def tw10077851121190573878:0=0:=rfl
def tw13815679657685676229:0=0:=rfl
def tw8316047145126935121:0=0:=rfl
def tw12879647448378058255:0=0:=rfl
def tw9436389152854272261:0=0:=rfl
end PySem.Challenge.cw_windround_k38_whole_from_line_to_answer_holds
open PySem PySem.W PyProof.Rows
set_option maxRecDepth 100000 in
set_option maxHeartbeats 0 in
set_option Elab.async true in
theorem PySem.Challenge.cw_windround_k38_whole_from_line_to_answer_holds : PySem.Challenge.rw_windround_k38_whole_from_line_to_answer.Holds := by
 w_on;o_law;k_head;(case hw=>w_witness2)
 k_fill
 refine _L.Fo (l:=PySem.Challenge.rw_windround_k38_whole_from_line_to_answer) (sp:=_W.wu) (k:=14) (by decide) rfl rfl (λns h=>⟨ns,rfl,h,rfl⟩) ?TB (λw h Y=>PySem.W.km_in_of Y) ?F
 case TB =>
  intro w s₀ mg mb h G a
  refine' _L.zO _ (_L.kn (x := "choices") (_L.ko G a rfl ?a1 ?l1 ?c1 ?lc1 ?hT1 ?hn1) (_L.kn (x := "full_rows") (_L.ko G a rfl ?a2 ?l2 ?c2 ?lc2 ?hT2 ?hn2) (_L.kn (x := "least_ranks") (_L.ko G a rfl ?a3 ?l3 ?c3 ?lc3 ?hT3 ?hn3) _L.A9))) ?nd (_L.Ba (.inl ?y0) (.inl ?y1) (.inr ?z2) (.inl ?y3))
  (case a1=>k_is);(case l1=>k_is);(case c1=>exact rfl);(case lc1=>k_is);(case hT1=>exact⟨rfl,rfl,⟨_,_,rfl⟩,⟨_,_,rfl⟩,⟨_,rfl⟩,⟨_,_,rfl⟩,by decide⟩);(case hn1=>kernel_rfl)
  (case a2=>k_is);(case l2=>k_is);(case c2=>exact rfl);(case lc2=>k_is);(case hT2=>exact⟨rfl,rfl,⟨_,_,rfl⟩,⟨_,_,rfl⟩,⟨_,rfl⟩,⟨_,_,rfl⟩,by decide⟩);(case hn2=>kernel_rfl)
  (case a3=>k_is);(case l3=>k_is);(case c3=>exact rfl);(case lc3=>k_is);(case hT3=>exact⟨rfl,rfl,⟨_,_,rfl⟩,⟨_,_,rfl⟩,⟨_,rfl⟩,⟨_,_,rfl⟩,by decide⟩);(case hn3=>kernel_rfl)
  (case nd=>decide);(case y0=>simp);(case y1=>simp);(case z2=>k_is);(case y3=>simp)
 case F =>
  intro w mg fa h a G b
  refine' _W.EI a G b ?fn0 ?fn1 ?fn2 ?fn3 ?fn4 ?fn5 ?fn6 ?fn7 ?fn8 ?fn9 ?fn10 ?fn11 ?fn12 ?fn13 ?fn14 ?fn15 ?fn16 ?fn17 ?fn18 ?fn19 ?fn20 ?fn21 ?fn22 ?fn23 ?fn24 ?fn25 ?fn26 ?fn27 ?fn28 ?fn29 ?fn30 ?fn31 ?fn32 ?fn33 ?fn34 ?fn35 ?fn36 ?fn37 ?fn38 ?fn39 ?fn40 ?g_BETWEEN ?e_BETWEEN ?g_FIGURES ?e_FIGURES ?g_MOST_FIGURES ?e_MOST_FIGURES ?g_NO_CLOCKS ?e_NO_CLOCKS ?g_NO_ROWS ?e_NO_ROWS ?g_CLOCKS ?e_CLOCKS ?aD ?pg ?hd ?po ?sa ?mk ?kc ?na ?mt0 ?mt1 ?mt2 ?mt3 ?mt4 ?mt5 ?mt6 ?fz
  case fn0|fn1|fn2|fn3|fn4|fn5|fn6|fn7|fn8|fn11|fn12|fn13|fn14|fn16|fn17|fn18|fn19|fn20|fn21|fn22|fn23|fn24|fn25|fn26|fn27|fn28|fn29|fn30|fn31|fn32|fn33|fn34|fn35|fn36|fn37|fn38|fn39|fn40=>(refine' _L.fnI ?fa ?fl ?fc ?fk;(case fa=>k_is);(case fl=>k_is);(case fc=>k_is);(case fk=>k_is))
  (case g_BETWEEN=>k_is);(case e_BETWEEN=>rfl)
  (case g_FIGURES=>k_is);(case e_FIGURES=>rfl)
  (case g_MOST_FIGURES=>k_is);(case e_MOST_FIGURES=>rfl)
  (case g_NO_CLOCKS=>k_is);(case e_NO_CLOCKS=>rfl)
  (case g_NO_ROWS=>k_is);(case e_NO_ROWS=>rfl)
  (case g_CLOCKS=>k_is);(case e_CLOCKS=>rfl)
  case fn9|fn10|fn15=>(refine' _L.fnL (by decide) ?fa ?fl ?fc ?fk ?fhc ?flc ?fhT;(case fa=>k_is);(case fl=>k_is);(case fc=>k_is);(case fk=>k_is);(case fhc=>exact rfl);(case flc=>k_is);(case fhT=>exact⟨rfl,rfl,⟨_,_,rfl⟩,⟨_,_,rfl⟩,⟨_,rfl⟩,⟨_,_,rfl⟩,by decide⟩))
  case aD|pg|hd|po|sa|mk|kc|na=>k_is
  case mt0|mt1|mt2|mt3|mt4|mt5|mt6=>(refine' _W.mtI ?fa ?fi ?fl ?fc ?fk;(case fa=>k_is);(case fi=>k_is);(case fl=>k_is);(case fc=>k_is);(case fk=>k_is))
  case fz=>refine'⟨?_,?_,?_,?_,?_,?_,?_,?_,?_,?_,?_,?_,?_,?_,?_,?_,?_,?_,?_⟩ <;> k_is
