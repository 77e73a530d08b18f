import PyProof.Rows.All
import Wide.All
import OpenK.AllK
import Wide.FinOn
import Lean
import PyProof.EqAt
import PyProof.EqKinds
import PyProof.TupleCall
import PyProof.DictRoadsH
import PyProof.DictKinds
import PyProof.DictIter
import PyProof.DictRoads
import PyProof.DictList
import PyProof.ListMulAny
import PyProof.StrLawsTight
import KE.KIntText
import PyProof.Rows.StrItems
import PyProof.StrWalks
import KE.KSortTup
import KE.KLam
import PyProof.ExcInit
import PyProof.ExcClass3
import PyProof.InstStoreFacts
import PyProof.ExcBaseAll.ValueError
import PyProof.ExcArgsOwn
import PyProof.ExcAttrAll.ValueError
import PyProof.Rows.RuleN_isinstance
import PyProof.AutoSeq1
import KE.KRevIter
import PyProof.Rows.FactsT2
import PyProof.DictTruth
import PyProof.DictWalks
import PyProof.ListRange
import PyProof.CollectWalk
import KE.KItemsList
import PyProof.ZipIter
import PySem.Challenge.RW_windround_k30_whole_no_plan_costs_less
set_option compiler.extract_closed false
set_option bootstrap.genMatcherCode false
local macro_rules|`(!0)=>`(by omega)|`(!1)=>`(by simp)|`(!2)=>`(by decide)|`(!3)=>`(by decide +kernel)|`(!4)=>`(by show List.Nodup (_::_);decide +kernel)
local macro_rules | `(tactic| omega) => `(tactic| first | assumption | lia)
set_option Elab.async false
set_option linter.all false
set_option maxRecDepth 100000
noncomputable section
open PySem.Value renaming ref->cn,none->dt,int->eC,bool->hI,type->i4,notImplemented->Ly,isInt->Mu
open List renaming range->cu,Nodup->da,map->eT,length->fI,filter->lv,getElem_take->ol,zip->pd,getElem_zip->ph,flatMap_eq_nil_iff->pp,toArray->pu,filter_eq_nil_iff->pw,nil_append->ra,mem_iff_getElem?->rj,dropLast_eq_take->ro,mem_of_mem_take->rr,map_congr_left->rA,filter_sublist->rB,filterMap_cons->rE,sum_cons->r6,mem_replicate->sb,lookup_append->sj,ext_getElem?->su,eraseIdxIfInBounds_toArray->t7,map_snd_zip->vl,cons_append->vr,lookup->xb,eq_nil_of_length_eq_zero->xn,length_set->yn,filter_map->y2,count_cons->A2,pairwise_iff_getElem->Le,getLastD_eq_getLast?->Lf,length_erase_of_mem->Ln,getElem?_take_of_lt->Lo,length_eq_zero_iff->Lq,sum_replicate_nat->Lu,getElem?_zipWith->LC,pairwise_append->LH,getElem_reverse->LI,count_cons_self->LJ,map_eq_nil_iff->LM,length_flatten->LN,mem_filterMap->LS,getElem?_take->LU,getElem?_drop->LV,foldl_append->LX,filter_congr->LY,mem_flatten->L4,map_fst_zip->L5,countP_cons->L6,cons_ne_nil->L7,map_const'->Mf,drop_zero->Mi,map_take->Mo,map_drop->Mp,all_cons->Mq,map_set->Mx
open PySem renaming boot_len->db,mem_of_lookup->gf,call->B2
open Or renaming inr->di,inl->lA
open PySem.Heap.SameBut renaming update->dk
open Option.some renaming inj->dm,injEq->Lm
open PySem.PyData renaming list->dy,canLay0->dV,int->eb,eqvAll->et,canLayAll0->ew,eqv->eA,tuple->hZ,depthAll->ir,depth->lu,none->Mm,bool->Mn
open PySem.NameKind renaming free->ee,cell->ip
open PySem.Obj renaming mapSeq->ef,data_mapDictKeys->nn,data_mapFields->n6,isFreed_of_dict->r4,isFreed_of_fields->LG,cls_mapFields->L1,data_mapDict->Mb,mapFields->Mv
open PySem.Builtin.SmallTypes renaming nextOf->eg,ownedTupleIsFree->gk
open PySem.F renaming plainAttrs_list->ei,type_list_pop->m5,slot_list_pop->nf,plain_extend_loop->np,type_list_append->nN,slot_list_append->nT,args_tuple_add_2->n0,plainAttrs_dict->oi,entry_tuple_add->oj,slot_tuple_add->oS,type_dict_setdefault->tf,slot_dict_setdefault->ti,slot_dict_getitem->x4,entry_extend_loop->x5,type_list_index->Hs,slot_list_index->H7
open PyProof.Rows renaming callWith_type1->eE,boot_all->mu,boot_sum->oe,boot_list->vb,boot_zip->v3,boot_min->wi
open PySem.Builtin.List renaming listExtendWith->eS,listSameRef->i3,listLengthHint->nm,listTooLong->no,listItems->vu
open PySem.Builtin.Tuple renaming tupleHashOf->fx
open PySem.SeqAt renaming canLay_of_shaped->fy,shaped->lx,depth_of_shaped->p7,EqAt->r2,eqBoolOverData->Lz,list_indexAt->LL
open PySem.Str renaming ofString->gh
open PySem.W renaming fnOf->gs,keepIn->mN,codeIn->m3,cellsFrom_some->oL,OpenLaw->o0,methodObj->r3,Ground->v2,mg_of->Dd,WalkO->LZ
open List.Perm renaming append_left->gt,append_right->Hh
open PySem.Heap renaming SameBut->gw,ExtBut->x2
open Array renaming getElem?_eq_getElem->gV,length_toList->me,forIn_toList->mA,getElem?_eq_none->pr,getElem?_toList->Lx,getElem_of_mem->LF,toList_append->LK,size_push->Ma,toList->Mt
open List.cons renaming injEq->lB
open Prod.mk renaming inj->ml,injEq->nl
open Nat renaming gcd->om,min_eq_left->rd,div_le_self->ri,cast->ry,mod_lt->sn,add_zero->t0,mod_eq_of_lt->wr,dvd_trans->Lp,mul_div_cancel_left->Ls,sub_zero->LA,lt_of_succ_lt_succ->LB,mul_le_mul_left->LQ,mul_div_cancel'->LR,gcd_dvd_right->L2,dvd_mul_right->L3,succ_ne_zero->Mc,le_of_not_lt->Md,dvd_mul_left->Me,mod_add_mod->Mh,le_of_dvd->Mw
open Int renaming mul_add->oo,zero_add->u2,fdiv_eq_ediv_of_nonneg->Lg,ofNat_inj->Lr,eq_ofNat_of_zero_le->Lv,le_ediv_iff_mul_le->LD,gcd_dvd_right->L8,natCast_ediv->Mg,natCast_mul->Mj,mul_nonneg->Mr
open PySem.Builtin.Dict_items renaming ownsTuple->py
open Sum renaming inr->sw,inl->td
open PySem.Builtin.Dict renaming showsAll->x3
open Nat.succ renaming inj->I1
open List.Pairwise renaming nil->I7
open PySem.SeqAt.EqAt renaming str_int->Lh,int_str->Li,int_int->Lj
open PySem.PyData.list renaming injEq->Lk
open PySem.PyData.dict renaming injEq->Ll
open Option renaming getD_some->LO,getD_none->LP,map_some->LW
open Bool renaming noConfusion->L9,not_false->Mk,or_false->Ms
open PySem.Challenge renaming pw_windround_k30_whole_no_plan_costs_less->Ml
open PySem.Heap.IsSliceOf renaming new->My
open PySem renaming PyData->ah,Addr->ao,Value->av,Shared->az,Expr->bb,Heap->bg,Str->bt
open PySem.W renaming Frag->cb,nsIn->cc
open PySem renaming wpAny_bind->jj,wpAny_pure->j0,starEach->j1,wpAny->j4,FuncData->ki,mainGlobals->kq,model->kw,Program->ky,compareOp->k0,World->k3,wpAny_holding->k5,backTo->k6,attributeBase->qb,sizeLine_eq->zg,cLine->zs,wpAny_callSpecial?_slot->z4,wpAny_mono->z5,wpAny_call_entry->KX,cellsFrom->Qa,sysModules->Qb,intKind->Qc,Keyword->Qd,wpAny_truthy_bool->Qf,assignEach->Qg,keywordEach->Qi,wpAny_specialOf->Qj,holding->Qk,wpAny_newObj_type->Ql,foldedSetIterable->Qm,Scope->Qn,rawInt->Qo,wpAny_typeNameOfWhole_keyiter->Qp,wpAny_field->Qq,wpAny_rule->Qr,wpAny_passesOwn->Qs,binaryOp->Qt,wpAny_pyIter_list->Qu,codeAny->Qv,wpAny_seqItems->Qw,builtinsNs->Qx,backToKw->Qy,wpAny_isInstance->Qz,wpAny_typeNameOf_keyiter->QA,plainId_quiet->QB,wpAny_updateSeq->QC,codeAny_builtin->QD,assign->QE,atKey->QF,wpAny_nextOf_list_item->QG,wpAny_dictEntries->QH,valueAt->QI,bootBuiltins->QJ,bindArgs->QK,argBest->QL,wpAny_forIn_list->QM,wpAny_eqBool_int->QN,closureFor->QO,call_meets->QP,behindInMarks->QR,sliceBounds->QS,wpAny_execs_nil->QT,standAt->QV,DictEntry->QW,wpAny_Call_Name_kw->QX,pyNext->QY,ZipApart->QZ,wpAny_attempt->Q0,swapsWithSole->Q1,swappedStores->Q2,swapsWith->Q4,pushCells->Q5,wpAny_Call_method_late->Q6,setItem->Q7,PlainAttrs->Q8,pushCells_keeps->Za,letOwnedTupleGo->Zb,wpAny_notOrdered_dict->Zc,wpAny_nextOf_list_end->Zd,isSubtype_tuple_tuple->Ze,wpAny_setField->Zf,isTrue->Zg,firstArgMember->Zh,IsPair->Zi,updateSeq->Zj,codeAmong->Zk,BindsTo->Zl,Arguments->Zm,wpAny_standAt->Zn,wpAny_newList->Zo,wpAny_tupleItemsOf->Zr,hashInt->Zt,concat_meets->Zu,codeAny_mono->Zv,callerA->Zw,call_meetsIn->Zx,atKey_none_of_get->Zy,Operator->Zz,wpAny_pyIter_zip->ZA,wpAny_execs_cons->ZB,seqIndex?->ZC,noFill_tuple_add->ZD,subscripted->ZE,wpAny_ite_split->ZH,wpAny_dictEpoch->ZI,storedH->ZJ,release->ZK,wpAny_newTuple->ZM,wpAny_newFunctionEnv_cells->ZN,truthy->ZO,reduceHash->ZP,newFunctionEnv->ZQ,dictSetDefault->ZR,defaultsOf->ZS,wpAny_comprehension_free->ZT,seq_tuple_add->ZU,field->ZV,eqIsQuiet->ZW,bindL->ZX,bindC->ZY,wpAny_typeOf->ZZ,typeOf->Z0,tupleKeyHash->Z1,richCompare_meets_room->Z3,Result->Z6
open PyProof.Rows renaming seqObj->Qh,listUpdate_at->QQ,get?_update_seq->QU,envOfC->Q3,AllBare->Q9,subscriptTail->Zp,seqEpoch_at->ZF,subscriptTail_builtinR->Z2,listItems_at->Z4,keyLt'->Z5,IntsAre->Z7
open PySem.MeetsSeq3 renaming plain_eq_loop->Zq
open PySem.W renaming kla_obj->Zs
open List renaming length_map->Je,mem_singleton->Jf,mem_append_right->Jg,getD_eq_getElem?_getD->Jh,getElem?_eq_getElem->Ji,mem_append->Jj,mem_map->Jk,mem_append_left->Jl,mem_cons_self->Jm,mem_cons->Jo,mem_cons_of_mem->Jq,map_cons->Jr,getElem?_eq_some_iff->Js,nodup_append->Ju,size_toArray->Jw,map_append->Jy,length_append->Jz,mem_filter->JB,getElem?_map->JE,getElem_mem->JF,getElem_map->JG,map_map->JI,getElem?_set_ne->JJ,getElem?_set_self->JK,append_nil->JM,nodup_cons->JO,length_singleton->JP,length_filter_le->JQ,not_mem_nil->JR,mem_range->JS,getElem?_append_left->JV,length_cons->JX,find?_cons->JY,length_take->JZ,getElem?_eq_none->J0,lookup_cons->J1,eq_nil_or_concat->J3,concat_eq_append->J4,append_assoc->J5,take_add_one->J6,getElem_of_mem->J8,filter_cons_of_pos->Ka,filter_append->Kb,take_length->Ke,reverse_cons->Kf,length_reverse->Kg,length_range->Kh,nodup_nil->Ki,zip_cons_cons->Kk,all_eq_true->Kl,mem_of_getElem?->Km,replicate->Ko,drop_of_length_le->Kp,take_of_length_le->Kq,map_nil->Kv,filter_cons_of_neg->Kw,any_cons->Kx,mem_map_of_mem->Ky,length_drop->KA,length_zip->KD,getElem?_zip_eq_some->KI,forIn_nil->KJ,length_pos_iff->KL,getElem?_set_self'->KN,forIn_cons->KS,perm_append_comm->KW,mem_of_mem_drop->KZ,getElem_inj->K1,getElem?_append_right->K2,ext_getElem->K4,drop_eq_getElem_cons->K9,of_mem_zip->Lb,range_succ->Lc
open Nat renaming lt_of_lt_of_le->Jp,le_trans->Jt,le_refl->Jx,zero_le->JD,ne_of_lt->JH,ne_of_gt->J2,mul_assoc->J7,mul_le_mul_right->Kd,lt_of_le_of_lt->Kj,lt_irrefl->Kn,le_succ->Ku,lt_succ_self->KB,min_le_left->KC,not_lt_zero->KF,le_of_lt->KM,mul_comm->KO,pos_of_ne_zero->KQ,lt_succ_of_lt->KU,pow_le_pow_right->K0,le_add_right->K3,min_eq_right->K6,lt_of_not_le->K7
open Int renaming toNat_natCast->JN,emod_lt_of_pos->Kc,emod_nonneg->Kr,gcd->Ks,toNat_of_nonneg->Kz,natCast_add->KG,le_refl->KK,mul_le_mul_of_nonneg_left->KT
open Option renaming isSome_iff_exists->J9,isSome_map->Ld
open Bool renaming false_ne_true->JC,false_eq_true->JL,and_eq_true->JT,not_true->KH,false_and->KY,true_and->K8,eq_iff_iff->La
open PySem.Heap renaming get?_push_of_some->Jn,lt_size->Jv,get?_push_size->JA,get?_update_other->JU,get?_update_self->JW,size_push->Kt,size_update->K5
def ci{α:Type _}{a:α}{b:Prop}:a=a\/b:=.inl rfl
def Mz{c:Prop}{h:Decidable c}(hc:c){α}{t e:α}:ite c t e=t:=if_pos hc
def MA{c:Prop}{h:Decidable c}(hc:¬c){α}{t e:α}:ite c t e=e:=if_neg hc
namespace _L
open PySem PySem.Spec PyProof.Rows
abbrev Key:=Sum Int bt
def EJ:Key->av->Bool
 | .inl k,v=>Mu k v
 | .inr x,v=>Value.isStrOf x v
def IN(w:k3):Key->Int
 | .inl k=>Zt k
 | .inr x=>hashStr w x
def bL:∀{k:Key}{v:av},EJ k v=true->(∃i t,k=td i/\v=eC i t)\/(∃x t,k=sw x/\v=Value.str x t)
 | .inl i,v,h=>by
  obtain⟨t,e⟩:=Value.isInt_shape (k:=i) (v:=v) h;exact .inl ⟨i,t,rfl,e⟩
 | .inr x,v,h=>by
  obtain⟨t,e⟩:=Value.isStrOf_shape (x:=x) (v:=v) h;exact .inr ⟨x,t,rfl,e⟩
def EH(a b:Int):decide ((td a:Key)=td b)=(a==b):=by
 by_cases e:a=b
 .subst e;simp
 .have h:¬(td a:Key)=td b:=λq=>e (Sum.inl.inj q);rw[decide_eq_false h];exact(beq_eq_false_iff_ne.mpr e).symm
def EA(a b:bt):decide ((sw a:Key)=sw b)=decide (a=b):=by
 by_cases e:a=b
 .subst e;simp
 .have h:¬(sw a:Key)=sw b:=λq=>e (Sum.inr.inj q);rw[decide_eq_false h,decide_eq_false e]
def EG(a:Int)(b:bt):decide ((td a:Key)=sw b)=false:=decide_eq_false (λq=>nomatch q)
def EC(a:bt)(b:Int):decide ((sw a:Key)=td b)=false:=decide_eq_false (λq=>nomatch q)
def pb(prog:ky)(w:k3):PySem.KeyKind prog w Key where
 is := EJ
 hash:=IN w
 inj := λv a b d c=>by
  rcases bL d with⟨i,t,rfl,rfl⟩|⟨x,t,rfl,rfl⟩
  .rcases bL c with⟨j,u,rfl,e⟩|⟨y,u,rfl,e⟩
   .injection e with e1 _;rw[e1]
   .exact nomatch e
  .rcases bL c with⟨j,u,rfl,e⟩|⟨y,u,rfl,e⟩
   .exact nomatch e
   .injection e with e1 _;rw[e1]
 byValue:=λk v h=>by
  rcases bL h with⟨i,t,rfl,rfl⟩|⟨x,t,rfl,rfl⟩ <;> rfl
 pyHash:=λhv h=>by
  rcases bL hv with⟨i,t,rfl,rfl⟩|⟨x,t,rfl,rfl⟩
  .exact wpAny_pyHash_int h
  .exact wpAny_pyHash_str h
 eqBool:=λf hv h=>by
  rcases bL f with⟨i,t,rfl,rfl⟩|⟨x,t,rfl,rfl⟩
  .rcases bL hv with⟨j,u,rfl,rfl⟩|⟨y,u,rfl,rfl⟩
   .rw[EH] at h;exact QN h
   .rw[EG] at h;exact Li i t y u _ _ _ _ h
  .rcases bL hv with⟨j,u,rfl,rfl⟩|⟨y,u,rfl,rfl⟩
   .rw[EC] at h;exact Lh x t j u _ _ _ _ h
   .rw[EA] at h;exact wpAny_eqBool_str h
 «strs»:=λk x t v h=>by
  rcases bL h with⟨i,u,rfl,e⟩|⟨y,u,rfl,e⟩
  .exact nomatch e
  .injection e with e1 _;subst e1;cases v <;> rfl
inductive V where
 | non|bl (b:Bool)|int (i:Int)|str (x:bt)|byt (b:Array UInt8)|flt (b:UInt64)|ref (a:ao)|ty (n:String)
 deriving DecidableEq
def bD:V->av->Prop
 | .non,u=>u=dt
 | .bl b,u=>u=hI b
 | .int i,u=>∃t,u=eC i t
 | .str x,u=>∃t,u=Value.str x t
 | .byt b,u=>∃t,u=Value.bytes b t
 | .flt b,u=>∃t,u=Value.float b t
 | .ref a,u=>u=cn a
 | .ty n,u=>u=i4 n
abbrev aW:List V->List av->Prop:=Paired bD
theorem aW.length(r:aW xs us):xs.length=us.length:=Paired.length r
theorem aW.get:∀{xs:List V}{us:List av}{i:Nat}{x:V},aW xs us->xs[i]? = some x->∃u,us[i]? = some u/\bD x u
 | _,_,_,_,.nil,e=>by simp at e
 | _,_,0,_,.cons r _,e=>by simp at e;subst e;exact⟨_,rfl,r⟩
 | _,_,i+1,x,.cons _ t,e=>by
  obtain⟨u,h1,h2⟩:=aW.get (i:=i) (x:=x) t (by simpa using e);exact⟨u,by simpa using h1,h2⟩
theorem aW.set(r:bD x u):∀{xs:List V}{us:List av} (i:Nat),aW xs us->aW (xs.set i x) (us.set i u)
 | _,_,_,.nil=>.nil
 | _,_,0,.cons _ t=>.cons r t
 | _,_,i+1,.cons q t=>.cons q (aW.set r i t)
theorem aW.append:∀{xs ys:List V}{us ws:List av},aW xs us->aW ys ws->aW (xs++ys) (us++ws)
 | _,_,_,_,.nil,s=>s
 | _,_,_,_,.cons r t,s=>.cons r (aW.append t s)
theorem aW.take:∀{xs:List V}{us:List av} (n:Nat),aW xs us->aW (xs.take n) (us.take n)
 | _,_,0,_=>.nil
 | _,_,_+1,.nil=>.nil
 | _,_,n+1,.cons r t=>.cons r (aW.take n t)
theorem aW.drop:∀{xs:List V}{us:List av} (n:Nat),aW xs us->aW (xs.drop n) (us.drop n)
 | _,_,0,r=>r
 | _,_,_+1,.nil=>.nil
 | _,_,n+1,.cons _ t=>aW.drop n t
def HV:Option V->Option av->Prop
 | some v,some u=>bD v u
 | none,none=>True
 | _,_=>False
def KV{κ:Type}:List (κ×V)->List (κ×av)->Prop:=Paired λ(p:κ×V) (q:κ×av)=>p.1=q.1/\bD p.2 q.2
def kV:Key->V
 | .inl i=>.int i
 | .inr x=>.str x
inductive HO where
 | lst (xs:List V)
 | tup (xs:List V)
 | dK (kvs:List (Key×V))|dT (kvs:List (List Key×V))
 | set (S:Int->Bool) (n:Nat)
 | ins (C dx:ao) (fs:List (bt×V))
 | own (x:ao)
 | xd (fs:List (bt×V))
 | met (f x:ao)
 | rng (lo hi:Int)
 | frz (o:Obj) (u:HO)
 | tbl (q:bt)
 | ext (φ:bg->Prop)
abbrev Hp:=ao->Option HO
def Fix:HO->Prop
 | .tup _=>True
 | .frz _ _=>True
 | _=>False
def C1(H:Hp)(h:bg)(a:ao)(q:bt):Prop:=∃ps:Array av,h.get? a=some { cls:=.none,data:=.fields ps }/\TriplesOk ps.toList /\
 ∀pos cv,Zk pos ps.toList=some cv->∃c oc u vs t,cv=.ref c/\H c=some (.frz oc u)/\oc.data=.fields vs/\vs[1]? = some (.str q t)
def upd(H:Hp)(a:ao)(o:HO):Hp:=λb=>if b=a then some o else H b
def aB:upd H a o a=some o:=by unfold upd;rw[Mz rfl]
def au(h:b≠a):upd H a o b=H b:=by unfold upd;rw[MA h]
def aJ{H:Hp}{a b:ao}{o:HO}(h:H a=some o)(h':H b=none):a≠b:=by intro e;subst e;rw[h] at h';cases h'
def wU(h:bg)(a:ao)(its:Array av):Prop:=∃o,h.get? a=some o/\o.cls=.type "tuple" /\ (∃n,o.data=.seq its n)/\o.dict=none
def wU.is(p:wU h a its):IsTup h a its:=let ⟨o,e,c,n,_⟩:=p;⟨o,e,c,n⟩
theorem wU.lt(p:wU h a its):a<h.objs.size:=p.is.lt
def wU.new(h:bg)(items:Array av):wU (h.push { cls:=.type "tuple",data:=.seq items }) h.objs.size items:=⟨_,JA _ rfl,rfl,⟨_,rfl⟩,rfl⟩
section
variable (P:ky) (w:k3)
def ft(H:Hp)(h:bg)(a:ao):HO->Prop
 | .lst xs=>xs.length<=sizeLine/\∃(its:List av) (n:Nat),aW xs its/\h.get? a=some { cls:=.type "list",data:=.seq its.toArray n }
 | .tup xs=>xs.length<=sizeLine/\∃its:List av,aW xs its/\wU h a its.toArray
 | .dK kvs=>kvs.length<=sizeLine/\(a==Qb)=false/\∃vs,KV kvs vs/\h.DictOf (pb P w) a vs
 | .dT kvs=>kvs.length<=sizeLine/\(a==Qb)=false/\∃xs:List (List Key×ao×av),
   Paired (λ(p:List Key×V) (q:List Key×ao×av)=>p.1=q.1/\H q.2.1=some (.tup (p.1.map kV))/\bD p.2 q.2.2) kvs xs /\
   ∃o es ep,h.get? a=some o/\o.ExactDict/\o.data=.dict es ep/\es.toList=xs.map (entryOfKey (tupleKind (pb P w)))/\(xs.map (·.1)).Nodup
 | .set S n=>h.SetOf (Qc P w) a S n
 | .ins C dx fs=>H dx=some (.own a)/\fs.length<=1000/\dx≠a/\h.get? a=some (PySem.W.instObj C dx) /\
   ∃b,h.Ns1 dx b/\(∀f,HV (fs.lookup f) (b f))/\PySem.Within b (fs.map (·.1))
 | .own _=>∃o,h.get? a=some o
 | .xd fs=>∃b,h.Ns1 a b/\∀f,HV (fs.lookup f) (b f)
 | .rng lo hi=>∃t u v,h.get? a=some { cls:=.type "range",data:=.fields #[.int lo t,.int hi u,.int 1 v] }
 | .frz o u=>h.get? a=some o/\ft H h a u
 | .tbl q=>C1 H h a q
 | .met f x=>h.get? a=some (r3 (.ref f) (.ref x))
 | .ext φ=>φ h/\(∃o,h.get? a=some o)/\∀h1 h2:bg,φ h1->(∀o,h1.get? a=some o->h2.get? a=some o)->φ h2
def HOk(H:Hp)(h:bg):Prop:=∀a o,H a=some o->ft P w H h a o
end
section
variable {P:ky}{w:k3}{H H':Hp}{h h':bg}{a:ao}{o:HO}
theorem ft.lt(x:ft P w H h a o):a<h.objs.size:=by
 cases o with
 | lst xs=>obtain⟨_,_,_,_,e⟩:=x;exact Jv e
 | tup xs=>obtain⟨_,_,_,p⟩:=x;exact p.lt
 | dK kvs=>obtain⟨_,_,_,_,o,_,_,e,_⟩:=x;exact Jv e
 | dT kvs=>obtain⟨_,_,_,_,o,_,_,e,_⟩:=x;exact Jv e
 | set S n=>obtain⟨o,_,_,_,e,_⟩:=x;exact Jv e
 | ins C dx fs=>obtain⟨_,_,_,e,_⟩:=x;exact Jv e
 | own y=>obtain⟨_,e⟩:=x;exact Jv e
 | xd fs=>obtain⟨_,⟨_,_,_,e,_⟩,_⟩:=x;exact Jv e
 | rng lo hi=>obtain⟨_,_,_,e⟩:=x;exact Jv e
 | frz ob u=>obtain⟨e,_⟩:=x;exact Jv e
 | tbl q=>obtain⟨_,e,_⟩:=x;exact Jv e
 | met f y=>exact Jv (show h.get? a=some _ from x)
 | ext φ=>obtain⟨_,⟨_,e⟩,_⟩:=x;exact Jv e
theorem Paired.mapP:∀{c:List α}{l₂:List β},Paired F c l₂->(∀a b,F a b->G a b)->Paired G c l₂
 | _,_,.nil,_=>.nil
 | _,_,.cons r t,f=>.cons (f _ _ r) (Paired.mapP t f)
def ft.stay(x:ft P w H h a o)(k:∀b u,(b=a\/H b=some (.own a))->h.get? b=some u->h'.get? b=some u)
  (ho:∀b,H b=some (.own a)->H' b=some (.own a)) (j:∀b o,Fix o->H b=some o->H' b=some o):ft P w H' h' a o:=by
 induction o with
 | lst xs=>obtain⟨z,its,n,r,e⟩:=x;exact⟨z,its,n,r,k _ _ (.inl rfl) e⟩
 | tup xs=>obtain⟨z,its,r,ob,e,c⟩:=x;exact⟨z,its,r,ob,k _ _ (.inl rfl) e,c⟩
 | dK kvs=>obtain⟨z,y,vs,r,ob,es,ep,e,c⟩:=x;exact⟨z,y,vs,r,ob,es,ep,k _ _ (.inl rfl) e,c⟩
 | dT kvs =>
  obtain⟨z,y,xs,r,ob,es,ep,e,c⟩:=x;exact⟨z,y,xs,Paired.mapP r λp q z=>⟨z.1,j _ _ trivial z.2.1,z.2.2⟩,ob,es,ep,k _ _ (.inl rfl) e,c⟩
 | set S n=>obtain⟨ob,es,ep,t,e,c⟩:=x;exact⟨ob,es,ep,t,k _ _ (.inl rfl) e,c⟩
 | ins C dx fs =>
  obtain⟨d,z,ne,e,g,⟨od,es,ep,e2,c⟩,r⟩:=x;exact⟨ho _ d,z,ne,k _ _ (.inl rfl) e,g,⟨od,es,ep,k _ _ (.inr d) e2,c⟩,r⟩
 | own y=>obtain⟨ob,e⟩:=x;exact⟨ob,k _ _ (.inl rfl) e⟩
 | xd fs=>obtain⟨g,⟨od,es,ep,e,c⟩,r⟩:=x;exact⟨g,⟨od,es,ep,k _ _ (.inl rfl) e,c⟩,r⟩
 | rng lo hi=>obtain⟨t,u,v,e⟩:=x;exact⟨t,u,v,k _ _ (.inl rfl) e⟩
 | frz ob u l=>obtain⟨e,q⟩:=x;exact⟨k _ _ (.inl rfl) e,l q⟩
 | tbl q =>
  obtain⟨ps,e,t,c⟩:=x;exact⟨ps,k a _ (.inl rfl) e,t,λpos cv i=>let ⟨b,oc,u,vs,t,e1,e2,e3⟩:=c pos cv i;⟨b,oc,u,vs,t,e1,j _ _ trivial e2,e3⟩⟩
 | met f y =>
  have e:h.get? a=some (r3 (.ref f) (.ref y)):=x;show h'.get? a=some (r3 (.ref f) (.ref y));exact k a _ (.inl rfl) e
 | ext φ=>obtain⟨p,⟨o,e⟩,st⟩:=x;exact⟨st _ _ p λo q=>k _ _ (.inl rfl) q,⟨o,k _ _ (.inl rfl) e⟩,st⟩
theorem HOk.lt(x:HOk P w H h)(e:H a=some o):a<h.objs.size:=(x a o e).lt
def HOk.fresh(x:HOk P w H h)(e:h.objs.size<=a):H a=none:=by
 cases q:H a with
 | none=>rfl
 | some u=>exact absurd (Jp (x.lt q) e) (Kn _)
def HOk.kept(x:HOk P w H h)(k:∀b u,h.get? b=some u->h'.get? b=some u):HOk P w H h':=λa o e =>
 (x a o e).stay (λb u _ q=>k b u q) (λ_ q=>q) λ_ _ _ q=>q
def HOk.laid(x:HOk P w H h)(k:∀b u,h.get? b=some u->h'.get? b=some u)(f:h.objs.size<=a)(new:ft P w (upd H a o) h' a o):HOk P w (upd H a o) h':=λb u e=>by
 have hn:=x.fresh f;by_cases d:b=a
 .subst d;rw[aB] at e;cases e;exact new
 .rw[au d] at e;exact(x b u e).stay (λc v _ q=>k c v q) (λc q=>by rw[au (aJ q hn)];exact q) λc xs _ q=>by rw[au (aJ q hn)];exact q
end
def Rd(H:Hp)(a:ao)(u:HO):Prop:=H a=some u\/∃o,H a=some (.frz o u)
def Rd.ok(r:Rd H a u)(x:HOk P w H h):ft P w H h a u:=by
 rcases r with r|⟨o,r⟩
 .exact x a u r
 .obtain⟨_,q⟩:=x a _ r;exact q
def Mut:Option HO->Prop
 | some (.lst _)=>True
 | some (.dK _)=>True
 | some (.dT _)=>True
 | some (.set _ _)=>True
 | some (.ins _ _ _)=>True
 | some (.ext _)=>True
 | _=>False
section
def HOk.write(ok:HOk P w H h)(i:Mut (H x))(m:e=x\/H e=some (.own x))(k:∀b u,b≠e->h.get? b=some u->h'.get? b=some u)(l:∃u,h'.get? e=some u)
  (new:ft P w (upd H x o') h' x o'):HOk P w (upd H x o') h':=λb u q=>by
 have d:∀c y,H c=some (.own y)->c≠x:=λc y r z=>by subst z;rw[r] at i;exact i
 have g:∀c o,Fix o->H c=some o->c≠x:=λc o f r z=>by subst z;rw[r] at i;cases o <;> first|exact i|exact f
 by_cases j:b=x
 .subst j;rw[aB] at q;cases q;exact new
 .rw[au j] at q;by_cases a:b=e
  .have q':H b=some (.own x):=by
    rcases m with z|z
    .exact absurd (a.trans z) j
    .rw[a];exact z
   rw[q] at q';cases q';obtain⟨v,hv⟩:=l;exact⟨v,by rw[a];exact hv⟩
  .refine(ok b u q).stay (λc v hc r=>k c v ?_ r) (λc r=>by rw[au (d c b r)];exact r) λc xs f r=>by rw[au (g c xs f r)];exact r
   rcases hc with rfl|hc
   .exact a
   .rintro rfl;rcases m with z|z
    .exact d c b hc z
    .rw[hc] at z;cases z;exact j rfl
end
structure Un(fs ex:List ao)(H H':Hp)(h h':bg):Prop where
 keep:∀b o,h.get? b=some o->H b=none->b ∉ fs->b ∉ ex->h'.get? b=some o
 slot:∀b o,h.get? b=some o->H b=none->b∈fs->b ∉ ex->∃sl,h'.get? b=some { o with slots:=sl }
 free:∀b o,h.get? b=some o->H b=none->b ∉ ex->H' b=none
 there:∀b o,h.get? b=some o->b ∉ ex->∃o',h'.get? b=some o'
 tups:∀b xs,H b=some (.tup xs)->H' b=some (.tup xs)
 frzs:∀b o u,H b=some (.frz o u)->H' b=some (.frz o u)
 tbls:∀b q,H b=some (.tbl q)->H' b=some (.tbl q)
section
variable {fs ex:List ao}{H H1:Hp}{h h1 h':bg}{a x e:ao}{o:HO}
def Un.any(u:Un fs ex H H1 h h1)(q:h.get? b=some ob)(n:H b=none)(hx:b ∉ ex):∃sl,h1.get? b=some { ob with slots:=sl }:=by
 by_cases a:b∈fs
 .exact u.slot b ob q n a hx
 .exact⟨ob.slots,u.keep b ob q n a hx⟩
def Un.kept(k:∀b u,h.get? b=some u->h'.get? b=some u):Un fs ex H H h h' :=
 ⟨λb ob q _ _ _=>k b ob q,λb ob q _ _ _=>⟨ob.slots,k b ob q⟩,λ_ _ _ n _=>n,λb ob q _=>⟨ob,k b ob q⟩,λ_ _ q=>q,λ_ _ _ q=>q,λ_ _ q=>q⟩
def Un.refl:Un fs ex H H h h:=Un.kept λ_ _ q=>q
def Un.laid(k:∀b u,h.get? b=some u->h'.get? b=some u)(c:h.objs.size<=a)(hn:H a=none):Un fs ex H (upd H a o) h h' where
 keep:=λb u q _ _ _=>k b u q
 slot:=λb u q _ _ _=>⟨u.slots,k b u q⟩
 free:=λb u q n _=>by rw[au (JH (Jp (Jv q) c))];exact n
 there:=λb u q _=>⟨u,k b u q⟩
 tups:=λb xs q=>by rw[au (aJ q hn)];exact q
 frzs:=λb u xs q=>by rw[au (aJ q hn)];exact q
 tbls:=λb ps q=>by rw[au (aJ q hn)];exact q
def Un.write(c:Mut (H x))(i:e=x\/H e=some (.own x))(k:∀b u,b≠e->h.get? b=some u->h'.get? b=some u)(d:∃u,h'.get? e=some u):Un fs ex H (upd H x o) h h':=by
 have hx:∀b,H b=none->b≠x:=λb n z=>by subst z;rw[n] at c;exact c
 have g:∀b,H b=none->b≠e:=λb n z=>by
  subst z;rcases i with r|r
  .exact hx b n r
  .rw[n] at r;cases r
 have f:∀b u,H b=some u->¬Mut (some u)->b≠x:=λb u q j z=>by subst z;rw[q] at c;exact j c
 refine⟨λb u q n _ _=>k b u (g b n) q,λb u q n _ _=>⟨u.slots,k b u (g b n) q⟩,λb u q n _=>by rw[au (hx b n)];exact n,λb u q _=>?_,
  λb xs q=>by rw[au (f b _ q λz=>z)];exact q,λb u xs q=>by rw[au (f b _ q λz=>z)];exact q,λb ps q=>by rw[au (f b _ q λz=>z)];exact q⟩
 by_cases a:b=e
 .subst a;exact d
 .exact⟨u,k b u a q⟩
end
def trk(h:bg)(H:Hp):List ao:=(cu h.objs.size).filter λa=>(H a).isSome
def wT(h:bg)(H:Hp):bg:=PySem.W.hideAll h (trk h H)
def vG(h:bg)(H:Hp):(wT h H).objs.size=h.objs.size:=PySem.W.hideAll_size _ _
def yB(e:h.get? b=some o)(n:H b=none):(wT h H).get? b=some o :=
 PySem.W.hideAll_get _ e λa=>by
  have q:(H b).isSome=true:=(JB.mp a).2;rw[n] at q;simp at q
def BH(e:(wT h H).get? b=some o):h.get? b=some o/\H b=none:=by
 have a:h.get? b=some o:=PySem.W.of_hideAll (trk h H) e;refine⟨a,?_⟩;cases q:H b with
 | none=>rfl
 | some x =>
  have c:b∈trk h H:=JB.mpr ⟨JS.mpr (Jv a),by simp[q]⟩;have z:(wT h H).get? b=none:=PySem.W.hideAll_none (trk h H) c;rw[z] at e;cases e
def C0(g h:bg)(L:ao):List (ao×Obj):=(cu h.objs.size).filterMap λa=>if a=L\/(g.get? a).isSome=true then none else (h.get? a).map λo=>(a,o)
def rest(g h:bg)(L d:ao):List (ao×Obj):=(C0 g h L).filter λp=>decide (p.1≠d)
structure Mod(K:cb)(mg:bt->Option av)(base:bg):Prop where
 kin:K.In base
 glob:base.Ns kq mg
 blt:∃mb,base.Ns Qx mb/\∀x:bt,x ≠ "__name__" -> mb x=QJ x
 nolimit:base.NoLimit
 bmain:∃bm ob,mg "__builtins__" = some (.ref bm)/\bm≠Qx/\base.get? bm=some ob/\ob.cls=.type "module" /\ ob.dict=some Qx/\ob.data=.plain
def fG:List bt:=["choices", "full_rows", "chain_plan", "least_ranks"]
def jK(K:cb)(T:ao)(q:bt):Prop:=∃x∈fG,∃f o fd c oc vs,cc K kq x=some (some (.ref f))/\K.lookup f=some o/\o.data=.func fd/\fd.code=.ref c /\
 K.lookup c=some oc/\oc.data=.fields vs/\vs[11]? = some (.ref T)/\q=x ++ ".<locals>.<lambda>"
def Aw(K:cb)(H:Hp):Prop:=∀T q,jK K T q->H T=some (.tbl q)
structure Cx where
 prog:ky
 w : k3
 K : cb
 mg : bt->Option av
 base:bg
 A : Around
 N : List bt
 s₀ : az
 H₀ : Hp
 env:Env
 outer:List Env
 stack:List Env
 ex : List ao
 fn : bt->Bool
 calm:Bool
 pn : List (ao×Obj)
 xe : av->az->Prop
def frs(l:List Env):List ao:=l.filterMap (·.frame)
abbrev Cx.fs(X:Cx):List ao:=frs X.outer
def Vis(sc:Qn)(x:bt):Prop:=sc.names.lookup x=some .local\/sc.names.lookup x=some .cell\/sc.names.lookup x=some .free
def Loc(sc:Qn)(x:bt):Prop:=sc.names.lookup x=some .local\/sc.names.lookup x=some .cell
def Jc(env:Env)(h:bg)(m:bt->Option av)(x:bt)(u:av):Prop :=
 (env.kindOf x=some .local/\m x=some u)\/((env.kindOf x=some .cell\/env.kindOf x=some .free)/\∃c,env.cells.lookup x=some c/\h.IsCell c (some u))
structure Cx.Ok(X:Cx):Prop where
 mod:Mod X.K X.mg X.base
 kind:X.env.scope.kind=.function
 glob:X.env.globals=kq
 blt:X.env.builtins=Qx
 above:X.s₀.heap.objs.size<=X.env.locals
 inj:∀x y c,X.env.cells.lookup x=some c->X.env.cells.lookup y=some c->x=y
 has:∀x,(X.env.kindOf x=some .cell\/X.env.kindOf x=some .free)->∃c,X.env.cells.lookup x=some c
 cab:∀x c,X.fn x=true->X.env.cells.lookup x=some c->X.s₀.heap.objs.size<=c
 hd : X.calm=true->X.A.handled=none
 frames:X.A.frames=some X.stack
 stk:X.stack=X.outer\/(X.stack=X.env::X.outer/\X.env.frame=some X.env.locals)
 exf:∀b∈X.ex,b≠X.env.locals/\∀x c,X.env.cells.lookup x=some c->c≠b
 bs : ∀b o,X.base.get? b=some o->X.s₀.heap.get? b=some o/\X.H₀ b=none
 bsz:X.base.objs.size<=X.s₀.heap.objs.size
 noex:∀b o,X.base.get? b=some o->b ∉ X.ex
 exfs:∀b∈X.ex,b ∉ X.fs
 funs:X.s₀.heap.FunFrames X.base X.outer
 frf:∀b∈X.fs,X.H₀ b=none
 tab:Aw X.K X.H₀
structure Inv(X:Cx)(pins:List (ao×Obj))(σ:List (Option V))(H:Hp)(s:az):Prop where
 ok : X.Ok
 os : s.os=X.s₀.os
 bare:Q9 s.gens
 base:Un X.fs X.ex X.H₀ H X.s₀.heap s.heap
 loc:∃m,s.heap.Ns X.env.locals m/\∀(i:Nat) (x:bt) (v:V),X.N[i]? = some x->σ[i]? = some (some v)->Vis X.env.scope x->∃u,bD v u/\Jc X.env s.heap m x u
 cell:∀x c,X.env.cells.lookup x=some c->∃v,s.heap.IsCell c v
 free:H X.env.locals=none
 freeC:∀x c,X.env.cells.lookup x=some c->H c=none
 pin:∀p∈X.pn++pins,s.heap.get? p.1=some p.2/\H p.1=none/\p.1≠X.env.locals/\p.1 ∉ X.fs/\∀v,p.2.data≠.cell v
 hok:HOk X.prog X.w H s.heap
 len:σ.length=X.N.length
section
variable {X:Cx}
def Cx.Ok.nofr(ok:X.Ok)(e:X.base.get? b=some o):b ∉ X.fs:=λa=>by
 have:=(ok.funs.mem a).1;rw[e] at this;cases this
theorem Inv.bs(I:Inv X pins σ H s):∀b o,X.base.get? b=some o->s.heap.get? b=some o/\H b=none:=λb o e =>
 ⟨I.base.keep b o (I.ok.bs b o e).1 (I.ok.bs b o e).2 (I.ok.nofr e) (I.ok.noex b o e),I.base.free b o (I.ok.bs b o e).1 (I.ok.bs b o e).2 (I.ok.noex b o e)⟩
def Inv.bk(I:Inv X pins σ H s):∀b o,X.base.get? b=some o->s.heap.get? b=some o:=λb o e=>(I.bs b o e).1
theorem Inv.mod(I:Inv X pins σ H s):Mod X.K X.mg X.base:=I.ok.mod
def Inv.kIn(I:Inv X pins σ H s):X.K.In s.heap:=I.ok.mod.kin.keeps I.bk
theorem Inv.lt(I:Inv X pins σ H s):X.env.locals<s.heap.objs.size:=let ⟨_,hn,_⟩:=I.loc;hn.lt
def Inv.sz(I:Inv X pins σ H s):X.s₀.heap.objs.size<=s.heap.objs.size:=Jt I.ok.above (KM I.lt)
def Inv.nofs(I:Inv X pins σ H s){a:ao}(h:s.heap.objs.size<=a):a ∉ X.fs:=λb=>by
 obtain⟨_,o,ho,_⟩:=I.ok.funs.mem b;exact absurd (Jp (Jv ho) (Jt I.sz h)) (Kn _)
def Inv.cne(I:Inv X pins σ H s):∀x c,X.env.cells.lookup x=some c->c≠X.env.locals:=λx c e z=>by
 obtain⟨v,o,ho,hd⟩:=I.cell x c e;obtain⟨m,⟨o',es,ep,a,b,_⟩,_⟩:=I.loc;rw[z,a] at ho;cases ho;rw[b] at hd;cases hd
theorem Inv.funs(I:Inv X pins σ H s):s.heap.FunFrames X.base X.outer:=by
 have all:∀(l:List Env),(∀b∈frs l,b∈X.fs)->X.s₀.heap.FunFrames X.base l->s.heap.FunFrames X.base l:=by
  intro l
  induction l with
  | nil=>intro _ _;trivial
  | cons env r f =>
   intro d g;obtain⟨hk,⟨L,o,a,hn,ho,hd⟩,h⟩:=g;have hL:L∈X.fs:=d L (by unfold frs;rw[rE,a];exact Jm);obtain⟨sl,e⟩:=I.base.slot L o ho (I.ok.frf L hL) hL λz=>I.ok.exfs L z hL;exact⟨hk,⟨L,_,a,hn,e,hd⟩,f (λb c=>d b (by unfold frs;rw[rE,a];exact Jq _ c)) h⟩
 exact all X.outer (λ_ c=>c) I.ok.funs
theorem Inv.stack(I:Inv X pins σ H s):s.heap.FunFrames X.base X.stack:=by
 rcases I.ok.stk with e|⟨e,a⟩
 .rw[e];exact I.funs
 .rw[e];obtain⟨m,hn,_⟩:=I.loc;refine .cons (by rw[I.ok.kind];decide) a hn ?_ I.funs;exact Heap.get?_none_of_le (Jt I.ok.bsz I.ok.above)
def Inv.stkSub(I:Inv X pins σ H s):∀b∈frs X.stack,b∈X.env.locals::X.fs:=λb a=>by
 rcases I.ok.stk with e|⟨e,c⟩
 .rw[e] at a;exact Jq _ a
 .rw[e] at a;unfold frs at a;rw[rE,c] at a;exact a
def Inv.stkFree(I:Inv X pins σ H s):∀b∈frs X.stack,H b=none:=λb a=>by
 rcases Jo.mp (I.stkSub b a) with e|a
 .rw[e];exact I.free
 .obtain⟨_,o,ho,_⟩:=I.ok.funs.mem a;exact I.base.free b o ho (I.ok.frf b a) λz=>I.ok.exfs b z a
def Inv.step{g':Array GenState}{t':Nat}{d':Drawn}{ch:List ao}(I:Inv X pins σ H s)
  (a:∀b∈ch,(b∈X.ex\/X.s₀.heap.objs.size<=b)/\b≠X.env.locals/\(∀x c,X.env.cells.lookup x=some c->c≠b)/\∀p∈X.pn++pins,p.1≠b)
  (keep:∀b o,b≠X.env.locals->b ∉ X.fs->b ∉ ch->s.heap.get? b=some o->H b=none->h'.get? b=some o)
  (slot:∀b o,b≠X.env.locals->b∈X.fs->b ∉ ch->s.heap.get? b=some o->H b=none->∃sl,h'.get? b=some { o with slots:=sl }) (free:∀b o,b ∉ ch->s.heap.get? b=some o->H b=none->H' b=none)
  (there:∀b o,b ∉ ch->s.heap.get? b=some o->∃o',h'.get? b=some o')
  (tups:∀b xs,H b=some (.tup xs)->H' b=some (.tup xs)) (frzs:∀b o u,H b=some (.frz o u)->H' b=some (.frz o u)) (tbls:∀b ps,H b=some (.tbl ps)->H' b=some (.tbl ps))
  (C:∀m,s.heap.Ns X.env.locals m->h'.Ns X.env.locals m) (hok:HOk X.prog X.w H' h') (hg:Q9 g') :
  Inv X pins σ H' { s with heap:=h',gens:=g',drawn:=d',toks:=t' }:=by
 have t:∀b o,X.s₀.heap.get? b=some o->b≠X.env.locals:=λb o e=>JH (Jp (Jv e) I.ok.above);have h:∀b o,X.s₀.heap.get? b=some o->b ∉ X.ex->b ∉ ch:=λb o e hx j=>by
  rcases(a b j).1 with z|z
  .exact hx z
  .exact absurd (Jp (Jv e) z) (Kn _)
 have f:∀x c,X.env.cells.lookup x=some c->∀v,s.heap.IsCell c v->h'.IsCell c v:=λx c e v ⟨o,ho,hd⟩=>by
  have g:c ∉ ch:=λz=>(a c z).2.2.1 x c e rfl;by_cases hc:c∈X.fs
  .obtain⟨sl,q⟩:=slot c o (I.cne x c e) hc g ho (I.freeC x c e);exact⟨_,q,hd⟩
  .exact⟨o,keep c o (I.cne x c e) hc g ho (I.freeC x c e),hd⟩
 refine⟨I.ok,I.os,hg,⟨λb o e n j hx=>?_,λb o e n j hx=>?_,λb o e n hx=>?_,λb o e hx=>?_,λb xs e=>tups b xs (I.base.tups b xs e),λb o xs e=>frzs b o xs (I.base.frzs b o xs e),λb ps e=>?_⟩,?_,λx c e=>?_,?_,λx c e=>?_,λp A=>?_,hok,I.len⟩
 .exact keep b o (t b o e) j (h b o e hx) (I.base.keep b o e n j hx) (I.base.free b o e n hx)
 .obtain⟨sl,e1⟩:=I.base.slot b o e n j hx;obtain⟨y,e2⟩:=slot b _ (t b o e) j (h b o e hx) e1 (I.base.free b o e n hx);exact⟨y,e2⟩
 .obtain⟨o',e1⟩:=I.base.there b o e hx;exact free b o' (h b o e hx) e1 (I.base.free b o e n hx)
 .obtain⟨o',e1⟩:=I.base.there b o e hx;exact there b o' (h b o e hx) e1
 .exact tbls b ps (I.base.tbls b ps e)
 .obtain⟨m,hn,D⟩:=I.loc;refine⟨m,C m hn,λi x v e1 e2 e3=>?_⟩;obtain⟨u,r,l⟩:=D i x v e1 e2 e3;refine⟨u,r,?_⟩;rcases l with l|⟨k,c,e,z⟩
  .exact .inl l
  .exact .inr ⟨k,c,e,f x c e _ z⟩
 .obtain⟨v,z⟩:=I.cell x c e;exact⟨v,f x c e v z⟩
 .obtain⟨m,⟨o,_,_,ho,_⟩,_⟩:=I.loc;exact free _ o (λz=>(a _ z).2.1 rfl) ho I.free
 .obtain⟨v,o,ho,hd⟩:=I.cell x c e;exact free c o (λz=>(a c z).2.2.1 x c e rfl) ho (I.freeC x c e)
 .obtain⟨e,n,ne,B,d⟩:=I.pin p A;have g:p.1 ∉ ch:=λz=>(a p.1 z).2.2.2 p A rfl;exact⟨keep p.1 p.2 ne B g e n,free p.1 p.2 g e n,ne,B,d⟩
def Inv.un(I:Inv X pins σ H s)(u:Un X.fs [] H H' s.heap h')(hok:HOk X.prog X.w H' h'):Inv X pins σ H' { s with heap:=h',toks:=t' }:=by
 obtain⟨m,⟨o,es,ep,ho,r⟩,_⟩:=id I.loc;obtain⟨sl,hL⟩:=u.any ho I.free (!1);exact I.step (g':=s.gens) (d':=s.drawn) (ch:=[]) (λ_ z=>nomatch z) (λb o _ c _ e n=>u.keep b o e n c (!1)) (λb o _ c _ e n=>u.slot b o e n c (!1)) (λb o _ e n=>u.free b o e n (!1)) (λb o _ e=>u.there b o e (!1)) u.tups u.frzs u.tbls (λi g=>by
  obtain⟨o',d,f,a,h⟩:=g;rw[ho] at a;cases a;exact⟨_,d,f,hL,h⟩) hok I.bare
def Inv.call(I:Inv X pins σ H s)(u:Un (frs X.stack) ch H H' s.heap h')(hok:HOk X.prog X.w H' h')(hg:Q9 g')
  (a:∀b∈ch,(b∈X.ex\/X.s₀.heap.objs.size<=b)/\b≠X.env.locals/\(∀x c,X.env.cells.lookup x=some c->c≠b)/\∀p∈X.pn++pins,p.1≠b) :
  Inv X pins σ H' { s with heap:=h',gens:=g',drawn:=d',toks:=t' }:=by
 obtain⟨m,⟨o,es,ep,ho,r⟩,_⟩:=id I.loc;obtain⟨sl,hL⟩:=u.any ho I.free λz=>(a _ z).2.1 rfl;exact I.step (ch:=ch) a (λb o hL h hc e n=>u.keep b o e n (λz=>(Jo.mp (I.stkSub b z)).elim hL h) hc) (λb o _ _ hc e n=>u.any e n hc) (λb o hc e n=>u.free b o e n hc) (λb o hc e=>u.there b o e hc) u.tups u.frzs u.tbls (λk i=>by
  obtain⟨o',f,g,d,j⟩:=i;rw[ho] at d;cases d;exact⟨_,f,g,hL,j⟩) hok hg
def Inv.turned(I:Inv X pins σ H s)(k:∀b o,b≠it->s.heap.get? b=some o->h'.get? b=some o)(hn:H it=none)(hL:it≠X.env.locals)
  (h1:it∈X.ex\/X.s₀.heap.objs.size<=it) (h2:∀x c,X.env.cells.lookup x=some c->c≠it) (h3:∀p∈X.pn++pins,p.1≠it):Inv X pins σ H { s with heap:=h',toks:=t' }:=by
 have a:∀b u,H b=some u->b≠it:=λb u e z=>by rw[z,hn] at e;cases e
 refine I.step (g':=s.gens) (d':=s.drawn) (ch:=[it]) (λb d=>?_) (λb o _ _ hc e _=>k b o (λz=>hc (by simp[z])) e) (λb o _ _ hc e _=>⟨o.slots,k b o (λz=>hc (by simp[z])) e⟩) (λ_ _ _ _ n=>n)
  (λb o hc e=>⟨o,k b o (λz=>hc (by simp[z])) e⟩) (λ_ _ e=>e) (λ_ _ _ e=>e) (λ_ _ e=>e) (λm f=>?_) (λb u e=>?_) I.bare
 .have e:b=it:=by simpa using d
  subst e;exact⟨h1,hL,h2,h3⟩
 .obtain⟨o,es,ep,ho,r⟩:=f;exact⟨o,es,ep,k _ o (Ne.symm hL) ho,r⟩
 .refine(I.hok b u e).stay (λc v hc q=>k c v ?_ q) (λ_ q=>q) λ_ _ _ q=>q;rcases hc with z|z
  .rw[z];exact a b u e
  .exact a c _ z
def Inv.tok(I:Inv X pins σ H s)(t:Nat):Inv X pins σ H { s with toks:=t }:=I.un (h':=s.heap) (t':=t) Un.refl I.hok
theorem Inv.kept(I:Inv X pins σ H s)(k:∀b u,s.heap.get? b=some u->h'.get? b=some u):Inv X pins σ H { s with heap:=h',toks:=t' }:=I.un (Un.kept k) (I.hok.kept k)
theorem Inv.laid{a:ao}{o:HO}{t':Nat}(I:Inv X pins σ H s)(k:∀b u,s.heap.get? b=some u->h'.get? b=some u)(c:s.heap.objs.size<=a)(new:ft X.prog X.w (upd H a o) h' a o) :
  Inv X pins σ (upd H a o) { s with heap:=h',toks:=t' }:=I.un (Un.laid k c (I.hok.fresh c)) (I.hok.laid k c new)
theorem Inv.write(I:Inv X pins σ H s)(c:Mut (H x))(d:e=x\/H e=some (.own x))(k:∀b u,b≠e->s.heap.get? b=some u->h'.get? b=some u)(a:∃u,h'.get? e=some u)
  (new:ft X.prog X.w (upd H x o) h' x o):Inv X pins σ (upd H x o) { s with heap:=h',toks:=t' }:=I.un (Un.write c d k a) (I.hok.write c d k a new)
def Inv.pins_of(I:Inv X pins σ H s)(h:∀p∈pins',s.heap.get? p.1=some p.2/\H p.1=none/\p.1≠X.env.locals/\p.1 ∉ X.fs/\∀v,p.2.data≠.cell v):Inv X pins' σ H s :=
 ⟨I.ok,I.os,I.bare,I.base,I.loc,I.cell,I.free,I.freeC,λp a=>(Jj.mp a).elim (λz=>I.pin p (Jl _ z)) (h p),I.hok,I.len⟩
def qV{N:List bt}(hN:N.Nodup){i j:Nat}{x:bt}(a:N[i]? = some x)(b:N[j]? = some x):i=j:=by obtain⟨h1,e1⟩:=Js.mp a;obtain⟨h2,e2⟩:=Js.mp b;exact(K1 hN).mp (e1.trans e2.symm)
def lU(I:Inv X pins σ H s)(hN:X.N.Nodup)(hi:X.N[i]? = some x)(hx:Loc X.env.scope x)(r:bD v u)
  (h : ∀s',Inv X pins (σ.set i (some v)) H s'->(∃a,gw a s.heap s'.heap/\(a=X.env.locals\/X.env.cells.lookup x=some a))->Q () s') (W:X.fn x=true\/X.env.scope.names.lookup x=some .local:=by first|exact .inl rfl|exact .inr rfl|assumption):j4 M A (storeName X.env x u) Q E s:=by
 obtain⟨m,hn,U⟩:=id I.loc;have D:(X.env.scope.kind==.class || (X.env.scope.kind==.module&&X.env.locals != X.env.globals))=false:=by rw[I.ok.kind];rfl
 have t:i<σ.length:=by rw[I.len];exact(Js.mp hi).1
 have cne:=I.cne;have g:∀{a:ao}{h':bg},(∃o,s.heap.get? a=some o/\H a=none)->gw a s.heap h'->HOk X.prog X.w H h':=λ{a h'} Y f b ob e=>by
  obtain⟨_,_,l⟩:=Y;refine(I.hok b ob e).stay (λc w' hc q=>(f.2 c ?_).trans q) (λ_ q=>q) λ_ _ _ q=>q;rintro rfl;rcases hc with rfl|hc
  .rw[l] at e;cases e
  .rw[l] at hc;cases hc
 rcases hx with hk|hk
 .refine wpAny_storeName_local hk hn (λh' L f=>?_) D;obtain⟨Z,_,_,O,_⟩:=id hn;refine h _ ⟨I.ok,I.os,I.bare,⟨λb o e n B hx=>?_,λb o e n B hx=>?_,I.base.free,λb o e hx=>?_,I.base.tups,I.base.frzs,I.base.tbls⟩,⟨_,L,λj y v' e1 e2 e3=>?_⟩,λy c e=>?_,I.free,I.freeC,λp P=>?_,g ⟨Z,O,I.free⟩ f,by simpa using I.len⟩ ⟨_,f,.inl rfl⟩
  .exact(f.2 b (JH (Jp (Jv e) I.ok.above))).trans (I.base.keep b o e n B hx)
  .obtain⟨sl,e1⟩:=I.base.slot b o e n B hx;exact⟨sl,(f.2 b (JH (Jp (Jv e) I.ok.above))).trans e1⟩
  .obtain⟨o',e1⟩:=I.base.there b o e hx;exact⟨o',(f.2 b (JH (Jp (Jv e) I.ok.above))).trans e1⟩
  .by_cases hj:j=i
   .subst hj;rw[hi] at e1;cases e1;rw[JK t] at e2;cases e2;exact⟨u,r,.inl ⟨hk,!1⟩⟩
   .rw[JJ (Ne.symm hj)] at e2;obtain⟨R,S,q⟩:=U j y v' e1 e2 e3;refine⟨R,S,?_⟩;rcases q with⟨k,e⟩|⟨k,c,e,z⟩
    .refine .inl ⟨k,?_⟩;have:y≠x:=λe=>hj (qV hN e1 (e▸hi));simp[this,e]
    .exact .inr ⟨k,c,e,z.sameBut f (cne y c e)⟩
  .obtain⟨w',z⟩:=I.cell y c e;exact⟨w',z.sameBut f (cne y c e)⟩
  .obtain⟨e,n,ne,T,d⟩:=I.pin p P;exact⟨(f.2 p.1 ne).trans e,n,ne,T,d⟩
 .have C:X.fn x=true:=by
   rcases W with z|z
   .exact z
   .rw[z] at hk;cases hk
  obtain⟨c,hc⟩:=I.ok.has x (.inl hk);obtain⟨w',z⟩:=I.cell x c hc;refine wpAny_storeName_cell I.ok.kind hk hc z (λh' F f=>?_);obtain⟨oc,G,J⟩:=id z;refine h { s with heap:=h' } ⟨I.ok,I.os,I.bare,⟨λb o e n B hx=>?_,λb o e n B hx=>?_,I.base.free,λb o e hx=>?_,I.base.tups,I.base.frzs,I.base.tbls⟩,⟨m,hn.sameBut f (Ne.symm (cne x c hc)),λj y v' e1 e2 e3=>?_⟩,λy c' e=>?_,I.free,I.freeC,λp P=>?_,g ⟨oc,G,I.freeC x c hc⟩ f,by simpa using I.len⟩ ⟨c,f,.inr hc⟩
  .exact(f.2 b (JH (Jp (Jv e) (I.ok.cab x c C hc)))).trans (I.base.keep b o e n B hx)
  .obtain⟨sl,e1⟩:=I.base.slot b o e n B hx;exact⟨sl,(f.2 b (JH (Jp (Jv e) (I.ok.cab x c C hc)))).trans e1⟩
  .obtain⟨o',e1⟩:=I.base.there b o e hx;exact⟨o',(f.2 b (JH (Jp (Jv e) (I.ok.cab x c C hc)))).trans e1⟩
  .by_cases hj:j=i
   .subst hj;rw[hi] at e1;cases e1;rw[JK t] at e2;cases e2;exact⟨u,r,.inr ⟨.inl hk,c,hc,F⟩⟩
   .rw[JJ (Ne.symm hj)] at e2;obtain⟨R,S,q⟩:=U j y v' e1 e2 e3;refine⟨R,S,?_⟩;rcases q with q|⟨k,c',e,z'⟩
    .exact .inl q
    .refine .inr ⟨k,c',e,z'.sameBut f ?_⟩;rintro rfl;exact hj (qV hN e1 (I.ok.inj _ _ _ e hc▸hi))
  .by_cases K:c'=c
   .subst K;exact⟨_,F⟩
   .obtain⟨w2,z2⟩:=I.cell y c' e;exact⟨w2,z2.sameBut f K⟩
  .obtain⟨e,n,ne,T,d⟩:=I.pin p P;refine⟨(f.2 p.1 ?_).trans e,n,ne,T,d⟩;intro q;rw[q,G] at e;have q':oc=p.2:=dm e;exact d w' (by rw[<-q'];exact J)
def qg(I:Inv X pins σ H s)(hN:X.N.Nodup)(hi:X.N[i]? = some x)(hx:Loc X.env.scope x)(r:bD v u)
  (h : ∀s',Inv X pins (σ.set i (some v)) H s'->Q () s') (a:X.fn x=true\/X.env.scope.names.lookup x=some .local:=by first|exact .inl rfl|exact .inr rfl|assumption):j4 M A (storeName X.env x u) Q E s :=
 lU I hN hi hx r (λs' b _=>h s' b) a
def Inv.call'(I:Inv X pins σ H s)(ho:s'.os=s.os)(u:Un (frs X.stack) ch H H' s.heap s'.heap)(hok:HOk X.prog X.w H' s'.heap)(hg:Q9 s'.gens)
  (a:∀b∈ch,(b∈X.ex\/X.s₀.heap.objs.size<=b)/\b≠X.env.locals/\(∀x c,X.env.cells.lookup x=some c->c≠b)/\∀p∈X.pn++pins,p.1≠b):Inv X pins σ H' s':=by obtain⟨h',g',d',t',o'⟩:=s';have e:o'=s.os:=ho;subst e;exact I.call (g':=g') (t':=t') (d':=d') u hok hg a
end
abbrev XK:=av->Option ao->Hp->Prop
abbrev St:=List (Option V)
abbrev VK:=V->Hp->Prop
abbrev TE:=St->Hp->VK->Prop
abbrev TT:=St->Hp->(Bool->Hp->Prop)->Prop
abbrev TA:=St->Hp->(List V->Hp->Prop)->Prop
structure de where
 nx : St->Hp->Prop
 rt : VK
 bk : St->Hp->Prop:=λ_ _=>False
 ct : St->Hp->Prop:=λ_ _=>False
abbrev TS:=de->St->Hp->Prop
def EP(X:Cx)(pins:List (ao×Obj))(σ:St)(Q:VK)(u:av)(s':az):Prop:=∃v H',Inv X pins σ H' s'/\bD v u/\Q v H'
def TP(X:Cx)(pins:List (ao×Obj))(σ:St)(Q:Bool->Hp->Prop)(b:Bool)(s':az):Prop:=∃H',Inv X pins σ H' s'/\Q b H'
def AP(X:Cx)(pins:List (ao×Obj))(σ:St)(Q:List V->Hp->Prop)(us:List av)(s':az):Prop:=∃vs H',Inv X pins σ H' s'/\aW vs us/\Q vs H'
def SP(X:Cx)(pins:List (ao×Obj))(D:de)(f:Flow)(s':az):Prop :=
 match f with
 | .next=>∃σ' H',Inv X pins σ' H' s'/\D.nx σ' H'
 | .brk=>∃σ' H',Inv X pins σ' H' s'/\D.bk σ' H'
 | .cont=>∃σ' H',Inv X pins σ' H' s'/\D.ct σ' H'
 | .ret u=>∃v σ' H',Inv X pins σ' H' s'/\bD v u/\D.rt v H'
def PE(X:Cx)(e:bb)(t:TE):Prop :=
 ∀(pins:List (ao×Obj)) (s:az) (σ:St) (H:Hp) (Q:VK),Inv X pins σ H s->t σ H Q->j4 (kw X.prog X.w) X.A (eval e X.env) (EP X pins σ Q) X.xe s
def PT(X:Cx)(e:bb)(t:TT):Prop :=
 ∀(pins:List (ao×Obj)) (s:az) (σ:St) (H:Hp) (Q:Bool->Hp->Prop),Inv X pins σ H s->t σ H Q->j4 (kw X.prog X.w) X.A (Zg e X.env (eval e X.env)) (TP X pins σ Q) X.xe s
def PW(X:Cx)(e:bb)(t:TT):Prop :=
 ∀(a:Sem av) (pins:List (ao×Obj)) (s:az) (σ:St) (H:Hp) (Q:Bool->Hp->Prop),Inv X pins σ H s->t σ H Q->j4 (kw X.prog X.w) X.A (Zg e X.env a) (TP X pins σ Q) X.xe s
def PW.pt(h:PW X e t):PT X e t:=h _
def PA(X:Cx)(es:List bb)(t:TA):Prop :=
 ∀(pos:Pos) (pins:List (ao×Obj)) (s:az) (σ:St) (H:Hp) (Q:List V->Hp->Prop),Inv X pins σ H s->t σ H Q->j4 (kw X.prog X.w) X.A (spliced (k6 pos (j1 es X.env))) (AP X pins σ Q) X.xe s
def PS(X:Cx)(st:Stmt)(t:TS):Prop :=
 ∀(pins:List (ao×Obj)) (s:az) (σ:St) (H:Hp) (D:de),Inv X pins σ H s->t D σ H->j4 (kw X.prog X.w) X.A (exec st X.env) (SP X pins D) X.xe s
def PSs(X:Cx)(st:List Stmt)(t:TS):Prop :=
 ∀(pins:List (ao×Obj)) (s:az) (σ:St) (H:Hp) (D:de),Inv X pins σ H s->t D σ H->j4 (kw X.prog X.w) X.A (execs st X.env) (SP X pins D) X.xe s
def thn{α:Type}{t:Sem α}{Q b:α->az->Prop}{M:Model}{A:Around}{E:av->az->Prop}{s:az}(h:j4 M A t Q E s)(hQ:∀a s,Q a s->b a s):j4 M A t b E s:=z5 h hQ λ_ _ x=>x
section
variable {X:Cx}
def wR(i:Nat):TE:=λσ H Q=>∃v,σ[i]? = some (some v)/\Q v H
def tC(v:V):TE:=λ_ H Q=>Q v H
def bG{i:Nat}{x:bt}{pos:Pos}(hN:X.N[i]? = some x)(hv:Vis X.env.scope x)(hd:(x==("__debug__" : bt))=false:=by decide)(b:(x==("__classdict__" : bt))=false:=by decide):PE X (.Name x pos) (wR i):=by
 intro pins s σ H Q I h;obtain⟨v,e,h⟩:=h;obtain⟨m,hn,d⟩:=I.loc;obtain⟨u,r,l⟩:=d i x v hN e hv;have fin:EP X pins σ Q u s:=⟨v,H,I,r,h⟩
 rcases l with⟨hk,f⟩|⟨hk,c,hc,a⟩
 .exact wpAny_Name (wpAny_loadName_local I.ok.kind hk hn f fin) hd
 .rcases hk with hk|hk
  .exact wpAny_Name (wpAny_loadName_cell I.ok.kind hk hc a fin) hd
  .exact wpAny_Name (wpAny_loadName_free I.ok.kind hk hc a fin b) hd
def j9:PE X (.Constant (.int i) j pos) (tC (.int i)):=λ_ _ _ H _ I h=>wpAny_Constant_int ⟨.int i,H,I.tok _,⟨_,rfl⟩,h⟩
def Gs:PE X (.Constant (.bool b) j pos) (tC (.bl b)):=λ_ _ _ H _ I h=>Constant_bool ⟨.bl b,H,I,rfl,h⟩
def Ec:PE X (.Constant .none j pos) (tC .non):=λ_ _ _ H _ I h=>Constant_none ⟨.non,H,I,rfl,h⟩
def Gl(X:Cx)(x:bt):Prop:=X.env.kindOf x=some .globalImplicit
def BV{E:av->az->Prop}{pins:List (ao×Obj)}{s:az}{σ:St}{H:Hp}{x:bt}{u:av}{pos:Pos}{Q:av->az->Prop}(I:Inv X pins σ H s)(hg:Gl X x)(a:X.mg x=some u)(h:Q u s)
  (hd:(x==("__debug__" : bt))=false:=by decide):j4 (kw X.prog X.w) X.A (eval (.Name x pos) X.env) Q E s :=
 Calls.Name_function_global I.ok.kind hg (Calls.loadGlobal_global (by rw[I.ok.glob];exact I.mod.glob.keeps I.bk) a h) hd
def gA{E:av->az->Prop}{pins:List (ao×Obj)}{s:az}{σ:St}{H:Hp}{x:bt}{u:av}{pos:Pos}{Q:av->az->Prop}(I:Inv X pins σ H s)(hg:Gl X x)(a:X.mg x=none)(hv:QJ x=some u)(h:Q u s)
  (hn:x ≠ "__name__" := by decide) (hd:(x==("__debug__" : bt))=false:=by decide):j4 (kw X.prog X.w) X.A (eval (.Name x pos) X.env) Q E s:=by obtain⟨mb,h1,h2⟩:=I.mod.blt;exact Calls.Name_function_global I.ok.kind hg (Calls.loadGlobal_builtin (by rw[I.ok.glob];exact I.mod.glob.keeps I.bk) a (by rw[I.ok.blt];exact h1.keeps I.bk) ((h2 x hn).trans hv) h) hd
variable {a b:bb}{ta tb:TE}{pos:Pos}
def tB(t:TE):TT:=λσ H Q=>t σ H λx H1=>∃c,x=.bl c/\Q c H1
def D5(h:PE X e t)(c:∀a,Zg e X.env a=(do let v <-a;QV e.pos;Qk [v] (ZO v)):=by intro _;rfl):PT X e (tB t):=by intro pins s σ H Q I hw;refine isTrue_plain (thn (h pins s σ H _ I hw) λv s1 b=>?_) (c _);obtain⟨x,H1,f,g,q1⟩:=b;obtain⟨d,rfl,q⟩:=q1;cases g;exact Qf ⟨H1,f,q⟩
variable {tA tB':TT}{rest:List bb}
def IE(t u:TT):TT:=λσ H Q=>t σ H λc H1=>if c=true then u σ H1 Q else Q false H1
def tOr(t u:TT):TT:=λσ H Q=>t σ H λc H1=>if c=true then Q true H1 else u σ H1 Q
def IA(t:TT):TT:=λσ H Q=>t σ H λc H1=>Q (!c) H1
def Bc(b:PT X a tA):PW X (.BoolOp .And [a] pos) tA:=by
 intro wh pins s σ H Q I h;refine isTrue_and (thn (b pins s σ H Q I h) λc s1 e=>?_);cases c with
 | true=>exact isTrue_and_nil e
 | false=>exact e
def D3(b:PT X a tA):PW X (.BoolOp .Or [a] pos) tA:=by
 intro wh pins s σ H Q I h;refine isTrue_or (thn (b pins s σ H Q I h) λc s1 e=>?_);cases c with
 | false=>exact isTrue_or_nil e
 | true=>exact e
def D4(f:PT X a tA)(g:PW X (.BoolOp .And (b::rest) pos) tB'):PW X (.BoolOp .And (a::b::rest) pos) (IE tA tB'):=by
 intro wh pins s σ H Q I h;refine isTrue_and (thn (f pins s σ H _ I h) λc s1 d=>?_);obtain⟨H1,e,q1⟩:=d;cases c with
 | true=>exact g wh pins s1 σ H1 Q e q1
 | false=>exact⟨H1,e,q1⟩
def Gq(f:PT X a tA)(g:PW X (.BoolOp .Or (b::rest) pos) tB'):PW X (.BoolOp .Or (a::b::rest) pos) (tOr tA tB'):=by
 intro wh pins s σ H Q I h;refine isTrue_or (thn (f pins s σ H _ I h) λc s1 d=>?_);obtain⟨H1,e,q1⟩:=d;cases c with
 | true=>exact⟨H1,e,q1⟩
 | false=>exact g wh pins s1 σ H1 Q e q1
def D6(b:PT X a tA):PT X (.UnaryOp .Not a pos) (IA tA):=by intro pins s σ H Q I h;exact isTrue_not (b pins s σ H (λc H1=>Q (!c) H1) I h)
def F6(ta tb:TE):TE:=λσ H Q=>ta σ H λx H1=>∃c,x=.bl c/\if c=true then tb σ H1 Q else Q (.bl false) H1
def Eb(h:PE X a t):PE X (.BoolOp op [a] pos) t:=λpins s σ H Q I hw=>BoolOp_one (h pins s σ H Q I hw)
def Eg(f:PE X a ta)(g:PE X (.BoolOp .And (b::rest) pos) tb):PE X (.BoolOp .And (a::b::rest) pos) (F6 ta tb):=by
 intro pins s σ H Q I h;refine BoolOp_and (thn (f pins s σ H _ I h) λv s1 d=>?_);obtain⟨x,H1,e,i,q1⟩:=d;obtain⟨c,rfl,q1⟩:=q1;cases i;refine Qf ?_;cases c with
 | true=>exact g pins s1 σ H1 Q e q1
 | false=>exact⟨.bl false,H1,e,rfl,q1⟩
def tIf(t:TT)(ta tb:TE):TE:=λσ H Q=>t σ H λc H1=>if c=true then ta σ H1 Q else tb σ H1 Q
def xN(hc:PT X c tA)(g:PE X a ta)(i:PE X b tb):PE X (.IfExp c a b pos) (tIf tA ta tb):=by
 intro pins s σ H Q I h;refine wpAny_IfExp (thn (hc pins s σ H _ I h) λd s1 e=>?_);obtain⟨H1,f,q1⟩:=e;cases d with
 | true=>exact g pins s1 σ H1 Q f q1
 | false=>exact i pins s1 σ H1 Q f q1
end
def SqL(K:cb)(H:Hp)(a:ao)(xs:List V):Prop :=
 Rd H a (.lst xs) \/
  ∃(o:Obj) (its:Array av) (n:Nat),K.lookup a=some o/\o.cls=.type "list" /\ o.dict=none/\o.data=.seq its n/\its.size<=sizeLine/\aW xs its.toList
def SqT(K:cb)(H:Hp)(a:ao)(xs:List V):Prop :=
 Rd H a (.tup xs) \/
  ∃(o:Obj) (its:Array av) (n:Nat),K.lookup a=some o/\(o.cls=.type "tuple" /\ o.dict=none)/\o.data=.seq its n/\its.size<=sizeLine/\aW xs its.toList
def IZ:av->Option V
 | .none=>some .non
 | .bool b=>some (.bl b)
 | .int i _=>some (.int i)
 | .str x _=>some (.str x)
 | .bytes b _=>some (.byt b)
 | .float b _=>some (.flt b)
 | .ref a=>some (.ref a)
 | .type n=>some (.ty n)
 | _=>none
def bD.abs(r:bD x u):IZ u=some x:=by
 cases x with
 | non=>cases r;rfl
 | bl _=>cases r;rfl
 | int _=>obtain⟨t,rfl⟩:=r;rfl
 | str _=>obtain⟨t,rfl⟩:=r;rfl
 | byt _=>obtain⟨t,rfl⟩:=r;rfl
 | flt _=>obtain⟨t,rfl⟩:=r;rfl
 | ref _=>cases r;rfl
 | ty _=>cases r;rfl
def bD.inj(r:bD x u)(q:bD y u):x=y:=dm (r.abs.symm.trans q.abs)
theorem aW.inj(h:aW xs us):aW ys us->xs=ys:=by
 induction h generalizing ys with
 | nil =>
  intro q;cases q;rfl
 | cons r t a =>
  intro q;cases q with
  | cons b t'=>rw[r.inj b,a t']
section
variable {X:Cx}{pins:List (ao×Obj)}{σ:St}{H:Hp}{s:az}{a:ao}{xs ys:List V}
def SqL.of{K:cb}(h:H a=some (.lst xs)):SqL K H a xs:=.inl (.inl h)
def Inv.list(I:Inv X pins σ H s)(h:SqL X.K H a xs):∃its:List av,aW xs its/\PlainL s.heap a its.toArray/\xs.length<=sizeLine:=by
 rcases h with h|⟨o,its,n,hk,hc,hd,b,hz,r⟩
 .obtain⟨z,its,n,r,e⟩:=h.ok I.hok;exact⟨its,r,⟨_,n,e,rfl,rfl,rfl⟩,z⟩
 .refine⟨its.toList,r,⟨o,n,I.kIn a o hk,hc,hd,by simpa using b⟩,?_⟩;have e:=r.length;simp only[me] at e;omega
def Inv.tuple(I:Inv X pins σ H s)(h:SqT X.K H a xs):∃its:List av,aW xs its/\IsTup s.heap a its.toArray/\xs.length<=sizeLine:=by
 rcases h with h|⟨o,its,n,hk,hc,b,hz,r⟩
 .obtain⟨z,its,r,p⟩:=h.ok I.hok;exact⟨its,r,p.is,z⟩
 .refine⟨its.toList,r,⟨o,I.kIn a o hk,hc.1,n,by simpa using b⟩,?_⟩;have e:=r.length;simp only[me] at e;omega
def Inv.tupleN(I:Inv X pins σ H s)(h:SqT X.K H a xs):∃its:List av,aW xs its/\wU s.heap a its.toArray:=by
 rcases h with h|⟨o,its,n,hk,hc,b,hz,r⟩
 .obtain⟨z,its,r,p⟩:=h.ok I.hok;exact⟨its,r,p⟩
 .exact⟨its.toList,r,⟨o,I.kIn a o hk,hc.1,⟨n,by simpa using b⟩,hc.2⟩⟩
def Inv.list_inj(I:Inv X pins σ H s)(h:SqL X.K H a xs)(h':SqL X.K H a ys):xs=ys:=by
 obtain⟨its,r,⟨o,n,e,_,_,d⟩,_⟩:=I.list h;obtain⟨its',c,⟨o',f,b,_,_,d'⟩,_⟩:=I.list h';rw[e] at b;cases b;rw[d] at d';injection d' with d1 _;have:its=its':=by simpa using congrArg Mt d1
 subst this;exact r.inj c
def Inv.tuple_inj(I:Inv X pins σ H s)(h:SqT X.K H a xs)(h':SqT X.K H a ys):xs=ys:=by
 obtain⟨its,r,⟨o,e,_,n,d⟩,_⟩:=I.tuple h;obtain⟨its',c,⟨o',b,_,f,d'⟩,_⟩:=I.tuple h';rw[e] at b;cases b;rw[d] at d';injection d' with d1 _;have:its=its':=by simpa using congrArg Mt d1
 subst this;exact r.inj c
end
abbrev Cx.wish(X:Cx)(E:av->az->Prop):Cx:={ X with xe:=E }
abbrev Cx.nox(X:Cx):Cx:=X.wish λ_ _=>False
theorem Cx.Ok.wish{X:Cx}(ok:X.Ok)(E:av->az->Prop):(X.wish E).Ok :=
 ⟨ok.mod,ok.kind,ok.glob,ok.blt,ok.above,ok.inj,ok.has,ok.cab,ok.hd,ok.frames,ok.stk,ok.exf,ok.bs,ok.bsz,ok.noex,ok.exfs,ok.funs,ok.frf,ok.tab⟩
def Cx.Ok.unwish{X:Cx}(ok:(X.wish E).Ok):X.Ok :=
 ⟨ok.mod,ok.kind,ok.glob,ok.blt,ok.above,ok.inj,ok.has,ok.cab,ok.hd,ok.frames,ok.stk,ok.exf,ok.bs,ok.bsz,ok.noex,ok.exfs,ok.funs,ok.frf,ok.tab⟩
section
variable {X:Cx}{pins:List (ao×Obj)}{σ:St}{H:Hp}{s:az}{E:av->az->Prop}
theorem Inv.wish(I:Inv X pins σ H s)(E:av->az->Prop):Inv (X.wish E) pins σ H s:=⟨I.ok.wish E,I.os,I.bare,I.base,I.loc,I.cell,I.free,I.freeC,I.pin,I.hok,I.len⟩
theorem Inv.unwish(I:Inv (X.wish E) pins σ H s):Inv X pins σ H s:=⟨I.ok.unwish,I.os,I.bare,I.base,I.loc,I.cell,I.free,I.freeC,I.pin,I.hok,I.len⟩
theorem SP.unwish(h:SP (X.wish E) pins D f s'):SP X pins D f s':=by
 cases f with
 | next=>obtain⟨σ',H',I,q⟩:=h;exact⟨σ',H',I.unwish,q⟩
 | brk=>obtain⟨σ',H',I,q⟩:=h;exact⟨σ',H',I.unwish,q⟩
 | cont=>obtain⟨σ',H',I,q⟩:=h;exact⟨σ',H',I.unwish,q⟩
 | ret u=>obtain⟨v,σ',H',I,r,q⟩:=h;exact⟨v,σ',H',I.unwish,r,q⟩
theorem PSs.nox{st:List Stmt}{t:TS}(h:PSs X.nox st t):PSs X st t:=λpins s σ H D I hw =>
 z5 (h pins s σ H D (I.wish _) hw) (λ_ _ q=>q.unwish) λ_ _ z=>False.elim z
end
section
variable {X:Cx}{st:Stmt}{rest:List Stmt}{t u:TS}{e:bb}{te:TE}{pos:Pos}
def FZ:TS:=λD σ H=>D.nx σ H
def FX(t u:TS):TS:=λD σ H=>t { D with nx:=u D } σ H
def Be:PSs X [] FZ:=λ_ _ σ H _ I h=>QT ⟨σ,H,I,h⟩
def kH(h1:PS X st t)(h2:PSs X rest u):PSs X (st::rest) (FX t u):=by
 intro pins s σ H D I h;refine ZB (thn (h1 pins s σ H { D with nx:=u D } I h) λf s1 q=>?_);cases f with
 | next =>
  obtain⟨σ',H',a,q⟩:=q;exact h2 pins s1 σ' H' D a q
 | ret v=>exact q
 | brk=>exact q
 | cont=>exact q
def kG(h1:PS X st t):PSs X [st] t:=by
 intro pins s σ H D I h;refine ZB (thn (h1 pins s σ H D I h) λf s1 q=>?_);cases f with
 | next=>exact QT q
 | ret v=>exact q
 | brk=>exact q
 | cont=>exact q
def F4:TS:=λD σ H=>D.ct σ H
def oN:PS X (.Continue pos) F4:=λ_ _ σ H _ I h=>wpAny_Continue ⟨σ,H,I,h⟩
def Inv.quiet{pins:List (ao×Obj)}{σ:St}{H:Hp}{s:az}(I:Inv X pins σ H s):interactive X.env=false:=by simp[interactive,I.ok.kind]
def Dq(te:TE):TS:=λD σ H=>te σ H λ_ H1=>D.nx σ H1
def oM(a:PE X e te)(b:Q4 e none pos.line X.env=pure false:=by rfl):PS X (.Expr e pos) (Dq te):=by intro pins s σ H D I h;exact wpAny_Expr_any (thn (a pins s σ H _ I h) λv s1 ⟨x,H1,c,d,q1⟩=>⟨σ,H1,c,q1⟩) I.quiet b
def Hz(te:TE):TS:=λD σ H=>te σ H D.rt
def zP(a:PE X e te):PS X (.Return (some e) pos) (Hz te):=by intro pins s σ H D I h;exact wpAny_Return_some (thn (a pins s σ H _ I h) λv s1 ⟨x,H1,b,c,q1⟩=>⟨x,σ,H1,b,c,q1⟩)
def IB(c:TT)(t u:TS):TS:=λD σ H=>c σ H λb H1=>if b=true then t D σ H1 else u D σ H1
def Gr(hc:PT X c tc)(g:PSs X a t)(i:PSs X b u):PS X (.If c a b pos) (IB tc t u):=by
 intro pins s σ H D I h;refine wpAny_If (thn (hc pins s σ H _ I h) λd s1 e=>?_);obtain⟨H1,f,q1⟩:=e;cases d with
 | true=>exact g pins s1 σ H1 D f q1
 | false=>exact i pins s1 σ H1 D f q1
end
abbrev TG:=V->St->Hp->(St->Hp->Prop)->Prop
abbrev TGs:=List V->St->Hp->(St->Hp->Prop)->Prop
def PG(X:Cx)(a:bb)(t:TG):Prop :=
 ∀(pins:List (ao×Obj)) (s:az) (σ:St) (H:Hp) (v:V) (u:av) (Q:St->Hp->Prop),Inv X pins σ H s->bD v u->t v σ H Q ->
  j4 (kw X.prog X.w) X.A (QE a X.env u) (λ_ s'=>∃σ' H',Inv X pins σ' H' s'/\Q σ' H') X.xe s
def PGs(X:Cx)(ts:List bb)(t:TGs):Prop :=
 ∀(pins:List (ao×Obj)) (s:az) (σ:St) (H:Hp) (vs:List V) (us:List av) (Q:St->Hp->Prop),Inv X pins σ H s->aW vs us->t vs σ H Q ->
  j4 (kw X.prog X.w) X.A (assignInOrder ((Qg ts X.env).map (·.2)) us) (λ_ s'=>∃σ' H',Inv X pins σ' H' s'/\Q σ' H') X.xe s
abbrev C2:=V->V->V->Hp->(Hp->Prop)->Prop
def Fn(X:Cx)(t:C2):Prop :=
 ∀(pins:List (ao×Obj)) (s:az) (σ:St) (H:Hp) (o i v:V) (ov iv u:av) (Q:Hp->Prop),Inv X pins σ H s->bD o ov->bD i iv->bD v u->t o i v H Q ->
  j4 (kw X.prog X.w) X.A (Q7 ov iv u) (λ_ s'=>∃H',Inv X pins σ H' s'/\Q H') X.xe s
abbrev TIp:=V->V->Hp->VK->Prop
def PIp(X:Cx)(op:Zz)(t:TIp):Prop :=
 ∀(pins:List (ao×Obj)) (s:az) (σ:St) (H:Hp) (x y:V) (v u:av) (Q:VK),Inv X pins σ H s->bD x v->bD y u->t x y H Q ->
  j4 (kw X.prog X.w) X.A (inplaceOp op v u) (EP X pins σ Q) X.xe s
section
variable {X:Cx}{pos:Pos}
def pC(i:Nat):TG:=λv σ H Q=>Q (σ.set i (some v)) H
def oO(hN:X.N.Nodup)(hi:X.N[i]? = some x)(hx:Loc X.env.scope x)(a:X.fn x=true\/X.env.scope.names.lookup x=some .local:=by first|exact .inl rfl|exact .inr rfl|assumption):PG X (.Name x pos) (pC i):=by intro pins s σ H v u Q I r h;exact wpAny_assign_Name (qg I hN hi hx r (λs' b=>⟨_,H,b,h⟩) a)
def IU:TGs:=λvs σ H Q=>vs=[]/\Q σ H
def GV(t:TG)(u:TGs):TGs:=λvs σ H Q=>∃v r,vs=v::r/\t v σ H λσ' H'=>u r σ' H' Q
def Bs:PGs X [] IU:=by intro pins s σ H vs us Q I r h;obtain⟨e,h⟩:=h;subst e;cases r;exact assignInOrder_nil ⟨σ,H,I,h⟩
def xK(h1:PG X e t)(h2:PGs X es u)
  (c:(Qg (e::es) X.env).map (·.2)=QE e X.env::(Qg es X.env).map (·.2):=by rfl):PGs X (e::es) (GV t u):=by
 intro pins s σ H vs us Q I r h;obtain⟨v,g,e1,h⟩:=h;subst e1;cases r with
 | cons r d =>
  rw[c];refine assignInOrder_cons (thn (h1 pins s σ H _ _ _ I r h) λ_ s1 a=>?_);obtain⟨b,H1,f,q1⟩:=a;exact h2 pins s1 b H1 _ _ Q f d q1
def HQ(K:cb)(n:Nat)(t:TGs):TG:=λv σ H Q=>∃a xs,v=.ref a/\SqT K H a xs/\xs.length=n/\t xs σ H Q
def D8{es:List bb}{k:Nat}{t:TGs}{n:Nat}(hc:X.calm=true)(h:PGs X es t)
  (hn:(Qg es X.env).length=n:=by rfl) (c:(Qg es X.env).findIdx? (·.1)=none:=by rfl):PG X (.Tuple es k pos) (HQ X.K n t):=by intro pins s σ H v u Q I r hw;obtain⟨a,xs,e1,hq,d,hw⟩:=hw;subst e1;cases r;obtain⟨its,rv,f,hz⟩:=I.tuple hq;refine assign_Tuple_tuple (I.ok.hd hc) f (by simp[hn,<-d,rv.length]) c λh' hx=>?_;have g:Inv X pins σ H { s with heap:=h' }:=I.kept (t':=s.toks) λb o e=>hx b o (JH (Jv e)) e;exact h pins _ σ H xs _ Q g (by simpa using rv) hw
def IT(to a:TE)(t:C2):TG:=λv σ H Q=>to σ H λo H1=>a σ H1 λi H2=>t o i v H2 λb=>Q σ b
def uU(ho:PE X o to)(hi:PE X i d)(e:Fn X t)
  (f:∀v,QE (.Subscript o i pos) X.env v=(do
   let ov <-Qk [v] (eval o X.env)
   let iv <-Qk [v,ov] (eval i X.env)
   QV pos
   Qk [v,ov,iv] (Q7 ov iv v)
   ZK [v,ov,iv] []):=by intro _;rfl):PG X (.Subscript o i pos) (IT to d t):=by intro pins s σ H v u Q I r h;rw[f];refine jj (k5 (thn (ho pins s σ H _ I h) λov s1 a=>?_));obtain⟨x,H1,g,j,q1⟩:=a;refine jj (k5 (thn (hi pins s1 σ H1 _ g q1) λiv s2 b=>?_));obtain⟨y,H2,k,l,q2⟩:=b;refine jj (Zn (jj (k5 (thn (e pins s2 σ H2 x y v ov iv u _ k j l r q2) λ_ q c=>?_))));obtain⟨m,n,p⟩:=c;exact wpAny_release ⟨σ,m,n,p⟩
def Du(te:TE)(g:TG):TS:=λD σ H=>te σ H λx H1=>g x σ H1 D.nx
def qP(b:PE X e te)(hg:PG X tg g)(c:Q1 [tg] e pos.line X.env=pure false:=by rfl)(hw:Q2 [tg] e X.env=pure none:=by rfl)
  (h1:(Qg [tg] X.env).map (·.2)=[QE tg X.env]:=by rfl):PS X (.Assign [tg] e pos) (Du te g):=by intro pins s σ H D I h;refine wpAny_Assign_stores (thn (b pins s σ H _ I h) λv s1 a=>?_) c hw;obtain⟨x,H1,d,f,q1⟩:=a;rw[h1];exact thn (hg pins s1 σ H1 x v _ d f q1) λ_ s2 q=>q
def zO(hN:X.N.Nodup)(hi:X.N[i]? = some x)(hx:Loc X.env.scope x)(c:PE X e te)(d:Q4 e (some (.Name x a)) pos.line X.env=pure false:=by rfl)(f:X.fn x=true\/X.env.scope.names.lookup x=some .local:=by first|exact .inl rfl|exact .inr rfl|assumption) :
  PS X (.Assign [.Name x a] e pos) (Du te (pC i)):=by intro pins s σ H D I h;refine wpAny_Assign_Name (thn (c pins s σ H _ I h) λv s1 b=>?_) d;obtain⟨y,H1,g,j,q1⟩:=b;exact qg g hN hi hx j (λs2 k=>⟨_,H1,k,q1⟩) f
def F5(to d te:TE)(a:V->V->Hp->VK->Prop)(c:TIp)(b:C2):TS:=λD σ H=>to σ H λo H1=>d σ H1 λi H2=>a o i H2 λx e=>te σ e λy f=>c x y f λz g=>b o i z g λh=>D.nx σ h
def HW(X:Cx)(t:V->V->Hp->VK->Prop):Prop :=
 ∀(pins:List (ao×Obj)) (s:az) (σ:St) (H:Hp) (o i:V) (ov iv:av) (Q:VK),Inv X pins σ H s->bD o ov->bD i iv->t o i H Q ->
  j4 (kw X.prog X.w) X.A (getItem ov iv) (EP X pins σ Q) X.xe s
def Bh(ho:PE X o to)(hi:PE X i m)(hg:HW X a)(r:PE X e te)(t:PIp X op c)(u:Fn X b)
  (w:∀ov iv new,augStore i ov iv new=(do Qk [new,ov,iv] (Q7 ov iv new);ZK [new,ov,iv] [];pure .next):=by intros;rfl):PS X (.AugAssign (.Subscript o i d) op e pos) (F5 to m te a c b):=by intro pins s σ H D I h;refine wpAny_AugAssign_SubscriptAny (thn (ho pins s σ H _ I h) λov s1 f=>?_) w;obtain⟨x1,H1,x,n,q1⟩:=f;refine thn (hi pins s1 σ H1 _ x q1) λiv s2 g=>?_;obtain⟨p,H2,y,q,q2⟩:=g;refine thn (hg pins s2 σ H2 x1 p ov iv _ y n q q2) λold z j=>?_;obtain⟨A,B,C,E,F⟩:=j;refine thn (r pins z σ B _ C F) λv G k=>?_;obtain⟨J,K,L,M,N⟩:=k;refine thn (t pins G σ K A J old v _ L E M N) λnew O l=>?_;obtain⟨P,Q,R,S,T⟩:=l;exact thn (u pins O σ Q x1 p P ov iv new _ R n q S T) λ_ Z ⟨U,W,Y⟩=>⟨σ,U,W,Y⟩
def ipI(f:Int->Int->Int):TIp:=λx y H Q=>∃i j,x=.int i/\y=.int j/\Q (.int (f i j)) H
def ES:PIp X .Sub (ipI λi j=>i - j):=by intro pins s σ H x y v u Q I a b h;obtain⟨i,j,e1,e2,q⟩:=h;subst e1;subst e2;obtain⟨t,rfl⟩:=a;obtain⟨t',rfl⟩:=b;exact isub_int ⟨.int _,H,I.tok _,⟨_,rfl⟩,q⟩
end
section
def Do(c:TT)(tb:TS):TS:=λD σ H=>∃W:Nat->St->Hp->Prop,(∃m,W m σ H)/\∀m σ H,W m σ H ->
 c σ H λb H1=>if b=true then ∃N:St->Hp->Prop,(∀σ' H',N σ' H'->∃a,a<m/\W a σ' H')/\tb { D with nx:=N,ct:=N,bk:=D.nx } σ H1 else D.nx σ H1
def xJ(p:PassesOwn (kw X.prog X.w) X.A X.env X.xe)(hc:PT X c tc)(r:PSs X body tb):PS X (.While c body [] pos) (Do tc tb):=by
 intro pins s σ H D I h;obtain⟨W,⟨t,u⟩,turn⟩:=h;refine wpAny_While (codeAny_whileLoop (λn s'=>∃σ' H',Inv X pins σ' H' s'/\W n σ' H') ?_ t ⟨σ,H,I,u⟩);rintro n s1 ⟨d,H1,x,y⟩;refine Qs p (thn (hc pins s1 d H1 _ x (turn n d H1 y)) λb s2 i=>?_);obtain⟨H2,q,q2⟩:=i;cases b with
 | true =>
  obtain⟨N,hN,q2⟩:=q2;rw[Mz rfl];refine Qs p (thn (r pins s2 d H2 _ q q2) λf z g=>?_);cases f with
  | next =>
   obtain⟨a,e,j,k⟩:=g;obtain⟨l,m,o⟩:=hN a e k;exact⟨l,m,a,e,j,o⟩
  | cont =>
   obtain⟨a,e,j,k⟩:=g;obtain⟨l,m,o⟩:=hN a e k;exact⟨l,m,a,e,j,o⟩
  | brk=>exact g
  | ret v=>exact g
 | false =>
  rw[MA JC];exact QT ⟨d,H2,q,q2⟩
end
structure It where
 go : Nat->Hp->Prop
 yld:Nat->Hp->V->Hp->Prop
 stop:Nat->Hp->Prop
def iK(X:Cx)(pins:List (ao×Obj))(H:Hp)(b:ao):Prop :=
 H b=none/\b≠X.env.locals/\b ∉ X.fs/\(b∈X.ex\/X.s₀.heap.objs.size<=b)/\(∀x c,X.env.cells.lookup x=some c->c≠b)/\∀p∈X.pn++pins,p.1≠b
def Inv.fpOk{X:Cx}{pins:List (ao×Obj)}{σ:St}{H H':Hp}{s:az}{b:ao}(I:Inv X pins σ H s)(a:s.heap.objs.size<=b)(hn:H' b=none):iK X pins H' b:=by
 refine⟨hn,J2 (Jp I.lt a),I.nofs a,.inr (Jt I.sz a),λx c e z=>?_,λp d z=>?_⟩
 .obtain⟨v,q⟩:=I.cell x c e;exact absurd (Jp q.lt (by rw[z];exact a)) (Kn _)
 .exact absurd (Jp (Jv (I.pin p d).1) (by rw[z];exact a)) (Kn _)
structure Av(P:ky)(w:k3)(K:cb)(tg:bb)(J:It)(fp:List ao)(it:ao)(tn:Nat->bg->Prop):Prop where
 mem:it∈fp
 obj:∀i h,tn i h->∀b∈fp,∃o,h.get? b=some o/\∀v,o.data≠.cell v
 keep:∀i h h',tn i h->(∀b∈fp,∀o,h.get? b=some o->h'.get? b=some o)->tn i h'
 item:∀(X:Cx),X.prog=P->X.w=w->X.K=K->X.calm=true->∀(i:Nat) (pins:List (ao×Obj)) (s:az) (σ:St) (H:Hp) (E:av->az->Prop),Inv X pins σ H s->(∀b∈fp,iK X pins H b)->tn i s.heap->J.go i H ->
  j4 (kw P w) X.A (QY (.ref it)) (λr s1=>∃u,r=some u /\
   j4 (kw P w) X.A (Zb tg (.ref it) u) (λ_ s2=>∃x H',Inv X pins σ H' s2/\bD x u/\J.yld i H x H'/\tn (i+1) s2.heap/\∀b∈fp,H' b=none) E s1) E s
 done:∀(X:Cx),X.prog=P->X.w=w->X.K=K->X.calm=true->∀(i:Nat) (pins:List (ao×Obj)) (s:az) (σ:St) (H:Hp) (E:av->az->Prop),Inv X pins σ H s->(∀b∈fp,iK X pins H b)->tn i s.heap->J.stop i H ->
  j4 (kw P w) X.A (QY (.ref it)) (λr s1=>r=none/\Inv X pins σ H s1) E s
 self:∀(A:Around) (i:Nat) (s:az) (Q:av->az->Prop) (E:av->az->Prop),tn i s.heap->Q (.ref it) s->j4 (kw P w) A (pyIter (.ref it)) Q E s
abbrev TI:=St->Hp->(It->Hp->Prop)->Prop
def PIE(X:Cx)(pins:List (ao×Obj))(σ:St)(tg:bb)(R:It->Hp->Prop)(a:av)(s2:az):Prop :=
 ∃(it:ao) (fp:List ao) (tn:Nat->bg->Prop) (J:It) (H':Hp),a=.ref it/\Inv X pins σ H' s2/\Av X.prog X.w X.K tg J fp it tn/\tn 0 s2.heap/\(∀b∈fp,iK X pins H' b)/\R J H'
def PI(X:Cx)(tg iter:bb)(a:TI):Prop :=
 ∀(pins:List (ao×Obj)) (s:az) (σ:St) (H:Hp) (R:It->Hp->Prop),Inv X pins σ H s->a σ H R ->
  j4 (kw X.prog X.w) X.A (eval iter X.env) (λv s1=>j4 (kw X.prog X.w) X.A (pyIter v) (PIE X pins σ tg R) X.xe s1) X.xe s
def yD(ho:s.heap.get? it=some o)(hc:o.cls=.type n)(hd:o.data=.fields vs)
    (hn:["enumerate", "zip", "dict_itemiterator", "dict_reverseitemiterator", "odict_iterator", "itertools.zip_longest", "itertools.pairwise"].contains n=false) (hQ:Q () s):j4 M A (Zb tg (.ref it) u) Q E s:=by
  unfold Zb;cases tg <;> first
    | exact j0 hQ
    | (cases u <;> first
        | exact j0 hQ
        | (refine jj (wpAny_load ho ?_)
           rw[hc,hd];show j4 M A (if (["enumerate", "zip", "dict_itemiterator", "dict_reverseitemiterator", "odict_iterator", "itertools.zip_longest", "itertools.pairwise"].contains n&&vs[0]?==some (Qo _))=true then _ else _) Q E s;rw[MA (by intro h;rw[hn,KY] at h;cases h)];exact j0 hQ))
def Itl(K:cb)(a:ao):It :=
 ⟨λi H=>∃xs x,SqL K H a xs/\xs[i]? = some x,λi H x H'=>H'=H/\∀xs,SqL K H a xs->xs[i]? = some x,λi H=>∃xs,SqL K H a xs/\xs.length<=i⟩
def Itr(lo:Int)(n:Nat):It:=⟨λi _=>i<n,λi H x H'=>H'=H/\x=.int (lo+i),λi _=>n<=i⟩
def tO{P:ky}{w:k3}{K:cb}{tg:bb}(a it:ao):Av P w K tg (Itl K a) [it] it (λi h=>h.IsListIter it a i) where
 mem:=!1
 obj:=λi h st b f=>by
  have e:b=it:=by simpa using f
  subst e;obtain⟨o,e,c,d⟩:=st;exact⟨o,e,λv z=>by rw[d] at z;cases z⟩
 keep:=λi h h' st k=>st.at λo e=>k it (!1) o e
 item:=by intro X hP hw hK hc i pins s σ H E I j st hg;subst hP hw hK;obtain⟨xs,x,hq,hx⟩:=hg;obtain⟨its,rv,p,hz⟩:=I.list hq;obtain⟨u,t,y⟩:=rv.get hx;obtain⟨l,m,A,n,q,r⟩:=j it (!1);refine wpAny_pyNext_list_item st p.isList (x:=u) (by simpa using t) λh' g B=>?_;have C:Inv X pins σ H { s with heap:=h' }:=I.turned (t':=s.toks) (λb o f e=>(B.2 b f).trans e) l m n q r;obtain⟨o,e,c,d⟩:=id g;exact⟨u,rfl,yD (s:={ s with heap:=h' }) e c d (!2) ⟨x,H,C,y,⟨rfl,λys D=>by rw[I.list_inj D hq];exact hx⟩,g,λb f=>(j b f).1⟩⟩
 done:=by intro X hP hw hK hc i pins s σ H E I j st hg;subst hP hw hK;obtain⟨xs,hq,hx⟩:=hg;obtain⟨its,rv,p,hz⟩:=I.list hq;obtain⟨l,m,A,n,q,r⟩:=j it (!1);have G:=rv.length;exact wpAny_pyNext_list_end (I.ok.hd hc) st p.isList (by simp;omega) λh' F=>⟨rfl,I.turned (t':=s.toks) (λb o f e=>F b o f e) l m n q r⟩
 self:=λ_ _ _ _ _ st h=>wpAny_pyIter_listiter st h
def sv{P:ky}{w:k3}{K:cb}{tg:bb}(it:ao)(lo:Int)(n:Nat):Av P w K tg (Itr lo n) [it] it (λi h=>IsRangeIter h it (lo+(i:Nat)*1) ((n:Int) - (i:Nat)) 1) where
 mem:=!1
 obj := λi h st b a=>by
  have e:b=it:=by simpa using a
  subst e;exact⟨_,st,λv z=>by
   have p:Data.fields _=Data.cell v:=z;cases p⟩
 keep:=λi h h' st k=>k it (!1) _ st
 item:=by intro X hP hw hK hc i pins s σ H E I d st hg;subst hP hw hK;obtain⟨f,g,q,j,l,m⟩:=d it (!1);have W:=Walks.range (prog:=X.prog) (w:=X.w) (I.ok.hd hc) it lo 1 n;refine W.item i s _ _ hg st λv h' tk hv c r=>?_;obtain⟨t,rfl⟩:=hv;have u:Inv X pins σ H { s with heap:=h',toks:=tk }:=I.turned (λb o a e=>r b o (by simpa using a) e) f g j l m;refine⟨_,rfl,yD (s:={ s with heap:=h',toks:=tk }) (n := "range_iterator") c rfl rfl (!2) ⟨.int (lo+i),H,u,⟨t,?_⟩,⟨rfl,rfl⟩,c,λb a=>(d b a).1⟩⟩;rw[Int.mul_one]
 done:=by intro X hP hw hK hc i pins s σ H E I d st hg;subst hP hw hK;obtain⟨f,g,q,j,l,m⟩:=d it (!1);exact wpAny_pyNext_range_end (I.ok.hd hc) st (by have:n<=i:=hg;omega) λh' x=>⟨rfl,I.turned (t':=s.toks) (λb o a e=>x b o a e) f g j l m⟩
 self:=λ_ _ _ _ _ st h=>wpAny_pyIter_rangeiter st h
section
def Cb(K:cb)(tl:TE):TI:=λσ H R=>tl σ H λx H1=>∃a,x=.ref a/\(∃xs,SqL K H1 a xs)/\R (Itl K a) H1
def uT(f:PE X l tl):PI X tg l (Cb X.K tl):=by
 intro pins s σ H R I h;refine thn (f pins s σ H _ I h) λv s1 d=>?_;obtain⟨x,H1,c,g,q1⟩:=d;obtain⟨a,e,⟨xs,hq⟩,q⟩:=q1;subst e;cases g;obtain⟨its,rv,p,hz⟩:=c.list hq;refine Qu p.isList ?_;refine⟨s1.heap.objs.size,[s1.heap.objs.size],_,_,H1,rfl,c.kept (t':=s1.toks) λb o e=>Jn _ e,tO a _,⟨_,JA _ rfl,rfl,rfl⟩,λb i=>?_,q⟩;have e:b=s1.heap.objs.size:=by simpa using i
 subst e;exact c.fpOk (Jx _) (c.hok.fresh (Jx _))
def xC{pins:List (ao×Obj)}{σ:St}{H:Hp}{s:az}{R:It->Hp->Prop}{E:av->az->Prop}{lo hi:Int}{t u v:Tok}{tk:Nat}(I:Inv X pins σ H s)(h1:-(2 ^ 62)<=lo)(h2:lo<2 ^ 62)(h3:-(2 ^ 62)<=hi)(h4:hi<2 ^ 62)
  (q : R (Itr lo (hi - lo).toNat) H):j4 (kw X.prog X.w) X.A (pyIter (.ref s.heap.objs.size)) (PIE X pins σ tg R) E { s with heap:=s.heap.push { cls:=.type "range",data:=.fields #[.int lo t,.int hi u,.int 1 v] },toks:=tk }:=by
 refine wpAny_pyIter_range (IsRange.new ..) (small_one h1 h2 h3 h4) ?_;have a:Inv X pins σ H { s with heap:=s.heap.push { cls:=.type "range",data:=.fields #[.int lo t,.int hi u,.int 1 v] },toks:=tk }:=I.kept λb o e=>Jn _ e;refine⟨(s.heap.push { cls:=.type "range",data:=.fields #[.int lo t,.int hi u,.int 1 v] }).objs.size,[(s.heap.push { cls:=.type "range",data:=.fields #[.int lo t,.int hi u,.int 1 v] }).objs.size],_,_,H,rfl,
  a.kept (t':=tk) λb o e=>Jn _ e,sv _ lo (hi - lo).toNat,?_,λb c=>?_,q⟩
 .have e1:lo+((0:Nat):Int)*1=lo:=!1
  have e2:(((hi - lo).toNat:Nat):Int) - ((0:Nat):Int)=Builtin.Range.rangeSize lo hi 1:=by rw[rangeSize_one];split <;> omega
  show IsRangeIter _ _ (lo+((0:Nat):Int)*1) ((((hi - lo).toNat:Nat):Int) - ((0:Nat):Int)) 1;rw[e1,e2];exact JA _ rfl
 .have e:b=(s.heap.push { cls:=.type "range",data:=.fields #[.int lo t,.int hi u,.int 1 v] }).objs.size:=by simpa using c
  subst e;exact a.fpOk (Jx _) (a.hok.fresh (Jx _))
def GN(ta:TA):TI:=λσ H R=>ta σ H λvs H1=>∃j:Int,vs=[.int j]/\-(2 ^ 62)<=j/\j<2 ^ 62/\R (Itr 0 j.toNat) H1
def uS(hg:Gl X "range")(c:X.mg "range" = none)(d:PA X [a] ta)(f:j1 [a] X.env=[(false,eval a X.env)]:=by rfl):PI X tg (.Call (.Name "range" p) [a] [] pos) (GN ta):=by
 intro pins s σ H R I h;refine Call_ (gA I hg c boot_range (eE (thn (d pos pins s σ H _ I h) λus s1 b=>?_) f rfl));obtain⟨vs,H1,g,i,q1⟩:=b;obtain⟨j,e,q1,q2,q⟩:=q1;subst e;cases i with
 | cons r k =>
  cases k;obtain⟨t,rfl⟩:=r;exact call_range_1 (xC g (!0) (!0) q1 q2 (by simpa using q))
def F1(c:TI)(g:TG)(tb:TS):TS:=λD σ H=>c σ H λJ H1=>∃W:Nat->Nat->St->Hp->Prop,(∃m,W 0 m σ H1)/\∀i m σ H,W i m σ H ->
 (J.stop i H/\D.nx σ H)\/(J.go i H/\∃N:St->Hp->Prop,(∀σ' H',N σ' H'->∃b,b<m/\W (i+1) b σ' H')/\∀x H',J.yld i H x H'->g x σ H' λa H2=>tb { D with nx:=N,ct:=N,bk:=D.nx } a H2)
def iq(fp:List ao)(h:bg):List (ao×Obj):=fp.filterMap λb=>(h.get? b).map λo=>(b,o)
def fF(a:b∈fp)(e:h.get? b=some o):(b,o)∈iq fp h:=LS.mpr ⟨b,a,by rw[e];rfl⟩
def mG(a:p∈iq fp h):p.1∈fp/\h.get? p.1=some p.2:=by
 obtain⟨b,c,e⟩:=LS.mp a;cases q:h.get? b with
 | none=>rw[q] at e;cases e
 | some o =>
  rw[q] at e;have d:(b,o)=p:=dm e;subst d;exact⟨c,q⟩
def Inv.pinned{pins:List (ao×Obj)}{σ:St}{H:Hp}{s:az}{fp:List ao}(I:Inv X pins σ H s)(f:∀b∈fp,iK X pins H b)(ho:∀b∈fp,∃o,s.heap.get? b=some o/\∀v,o.data≠.cell v):Inv X (pins++iq fp s.heap) σ H s :=
 I.pins_of λp g=>(Jj.mp g).elim (λz=>I.pin p (Jg _ z)) λz=>by
  obtain⟨a,e⟩:=mG z;obtain⟨h,i,j,_⟩:=f p.1 a;obtain⟨o,c,d⟩:=ho p.1 a;rw[e] at c;cases c;exact⟨e,h,i,j,d⟩
def Inv.unpinned{pins pl:List (ao×Obj)}{σ:St}{H:Hp}{s:az}(I:Inv X (pins++pl) σ H s):Inv X pins σ H s:=I.pins_of λp a=>I.pin p (Jg _ (Jl _ a))
def uO(y:PassesOwn (kw X.prog X.w) X.A X.env X.xe)(hc:X.calm=true)(hi:PI X tg iter U)(hg:PG X tg g)(c:PSs X body tb)
  (hs:∀x,Qm iter X.env x=pure x:=by intro _;rfl):PS X (.For tg iter body [] pos) (F1 U g tb):=by
 intro pins s σ H D I h;refine wpAny_For (thn (hi pins s σ H _ I h) λv s1 h1=>thn h1 λa0 s2 h2=>?_) hs;obtain⟨it,fp,tn,J,H2,e,I2,T,F,V,W,⟨m0,w0⟩,turn⟩:=h2;subst e;have j:∀{H':Hp},(∀b∈fp,H' b=none)->∀b∈fp,iK X pins H' b:=λhn b c=>⟨hn b c,(V b c).2⟩
 refine codeAny_forLoop_any (λn s'=>∃i σ' H',Inv X pins σ' H' s'/\tn i s'.heap/\(∀b∈fp,H' b=none)/\W i n σ' H') ?_ m0 ⟨0,σ,H2,I2,F,λb c=>(V b c).1,w0⟩;rintro n Y ⟨i,k,E,Z,z,B,w3⟩;rcases turn i n k E w3 with⟨stop,qn⟩|⟨go,N,hN,step⟩
 .refine Qs y (thn (T.done X rfl rfl rfl hc i pins Y k E X.xe Z (j B) z stop) λr s4 G=>?_);obtain⟨K,I4⟩:=G;subst K;exact QT ⟨k,E,I4,qn⟩
 .refine Qs y (thn (T.item X rfl rfl rfl hc i pins Y k E X.xe Z (j B) z go) λr s4 L=>?_);obtain⟨u,K,h4⟩:=L;subst K;refine Qs y (thn h4 λ_ s5 M=>?_);obtain⟨x,H5,I5,r5,y5,t,O⟩:=M;have P:=I5.pinned (j O) (T.obj _ _ t);refine Qs y (thn (hg _ s5 k H5 x u _ P r5 (step x H5 y5)) λ_ s6 Q=>?_);obtain⟨R,H6,I6,q6⟩:=Q;refine Qs y (thn (c _ s6 R H6 _ I6 q6) λf S q=>?_);have again:∀{a:St}{l:Hp},Inv X (pins++iq fp s5.heap) a l S->N a l->∃m,m<n/\∃i σ' H',Inv X pins σ' H' S/\tn i S.heap/\(∀b∈fp,H' b=none)/\W i m σ' H':=λ{a l} p C=>by
   obtain⟨m',hm,w7⟩:=hN a l C;refine⟨m',hm,i+1,a,l,p.unpinned,T.keep _ _ _ t λb c o e=>(p.pin (b,o) (Jg _ (Jg _ (fF c e)))).1,λb c=>?_,w7⟩;obtain⟨o,e,d⟩:=T.obj _ _ t b c;exact(p.pin (b,o) (Jg _ (Jg _ (fF c e)))).2.1
  cases f with
  | next=>obtain⟨a,l,p,C⟩:=q;exact again p C
  | cont=>obtain⟨a,l,p,C⟩:=q;exact again p C
  | brk=>obtain⟨a,l,p,q⟩:=q;exact⟨a,l,p.unpinned,q⟩
  | ret v=>obtain⟨x7,a,l,p,r7,q⟩:=q;exact⟨x7,a,l,p.unpinned,r7,q⟩
end
abbrev R2:=V->V->Hp->VK->Prop
def OpR(X:Cx)(f:av->av->Sem av)(r:R2):Prop :=
 ∀(pins:List (ao×Obj)) (s:az) (σ:St) (H:Hp) (x y:V) (v u:av) (Q:VK),Inv X pins σ H s->bD x v->bD y u->r x y H Q ->
  j4 (kw X.prog X.w) X.A (f v u) (EP X pins σ Q) X.xe s
def UnR(X:Cx)(f:av->Sem av)(r:V->Hp->VK->Prop):Prop :=
 ∀(pins:List (ao×Obj)) (s:az) (σ:St) (H:Hp) (x:V) (v:av) (Q:VK),Inv X pins σ H s->bD x v->r x H Q ->
  j4 (kw X.prog X.w) X.A (f v) (EP X pins σ Q) X.xe s
def eJ(X:Cx)(f:av)(r:List V->Hp->VK->Prop):Prop :=
 ∀(pins:List (ao×Obj)) (s:az) (σ:St) (H:Hp) (xs:List V) (us:List av) (Q:VK),Inv X pins σ H s->aW xs us->r xs H Q ->
  j4 (kw X.prog X.w) X.A (call f us) (EP X pins σ Q) X.xe s
def Ja(X:Cx)(r:V->Hp->(Bool->Hp->Prop)->Prop):Prop :=
 ∀(pins:List (ao×Obj)) (s:az) (σ:St) (H:Hp) (x:V) (v:av) (Q:Bool->Hp->Prop),Inv X pins σ H s->bD x v->r x H Q ->
  j4 (kw X.prog X.w) X.A (ZO v) (TP X pins σ Q) X.xe s
def tOp(r:R2)(ta tb:TE):TE:=λσ H Q=>ta σ H λx H1=>tb σ H1 λy H2=>r x y H2 Q
def tUn(r:V->Hp->VK->Prop)(ta:TE):TE:=λσ H Q=>ta σ H λx H1=>r x H1 Q
def rI(C:Int->Int->Prop)(g:Int->Int->V):R2:=λx y H Q=>∃i j,x=.int i/\y=.int j/\C i j/\Q (g i j) H
def rI0(g:Int->Int->V):R2:=λx y H Q=>∃i j,x=.int i/\y=.int j/\Q (g i j) H
def rU(g:Int->V):V->Hp->VK->Prop:=λx H Q=>∃i,x=.int i/\Q (g i) H
section
def Hq(i:PE X a ta)(j:PE X b tb){pins:List (ao×Obj)}{s:az}{σ:St}{H:Hp}{R:V->V->Hp->Prop}(I:Inv X pins σ H s)
  (h : ta σ H λx H1=>tb σ H1 λy H2=>R x y H2) {Q:av->az->Prop}{f:av->av->Sem av}
  (k:∀v u s2 x y H2,Inv X pins σ H2 s2->bD x v->bD y u->R x y H2->j4 (kw X.prog X.w) X.A (f v u) Q X.xe s2) :
  j4 (kw X.prog X.w) X.A (eval a X.env) (λv c=>j4 (kw X.prog X.w) X.A (eval b X.env) (λu d=>j4 (kw X.prog X.w) X.A (f v u) Q X.xe d) X.xe c) X.xe s:=by refine thn (i pins s σ H _ I h) λv s1 e=>?_;obtain⟨x,H1,l,m,q1⟩:=e;refine thn (j pins s1 σ H1 _ l q1) λu s2 g=>?_;obtain⟨y,H2,n,o,q2⟩:=g;exact k v u s2 x y H2 n m o q2
def Bt(ho:OpR X (Qt op) r)(c:PE X a ta)(d:PE X b tb):PE X (.BinOp a op b pos) (tOp r ta tb):=by intro pins s σ H Q I h;exact wpAny_BinOp (Hq c d I h λv u s2 x y H2 e f g q=>ho pins s2 σ H2 x y v u Q e f g q)
def D9(ho:UnR X (unaryOp op) r)(b:PE X a ta):PE X (.UnaryOp op a pos) (tUn r ta):=by intro pins s σ H Q I h;exact UnaryOp_ (thn (b pins s σ H _ I h) λv s1 ⟨x,H1,c,d,q1⟩=>ho pins s1 σ H1 x v Q c d q1)
def opI{f:av->av->Sem av}{C:Int->Int->Prop}{g:Int->Int->Int}
  (rule:∀(i j:Int) (t u:Tok) (s:az) (Q:av->az->Prop) (E:av->az->Prop),C i j->Q (.int (g i j) s.toks) { s with toks:=s.toks+1 }->j4 (kw X.prog X.w) X.A (f (.int i t) (.int j u)) Q E s) :
  OpR X f (rI C λi j=>.int (g i j)):=by intro pins s σ H x y v u Q I a b h;obtain⟨i,j,rfl,rfl,hc,q⟩:=h;obtain⟨t,rfl⟩:=a;obtain⟨t',rfl⟩:=b;exact rule i j t t' s _ _ hc ⟨.int (g i j),H,I.tok _,⟨_,rfl⟩,q⟩
def HJ{f:av->av->Sem av}{g:Int->Int->Int}
  (rule:∀(i j:Int) (t u:Tok) (s:az) (Q:av->az->Prop) (E:av->az->Prop),Q (.int (g i j) s.toks) { s with toks:=s.toks+1 }->j4 (kw X.prog X.w) X.A (f (.int i t) (.int j u)) Q E s) :
  OpR X f (rI0 λi j=>.int (g i j)):=by intro pins s σ H x y v u Q I a b h;obtain⟨i,j,rfl,rfl,q⟩:=h;obtain⟨t,rfl⟩:=a;obtain⟨t',rfl⟩:=b;exact rule i j t t' s _ _ ⟨.int (g i j),H,I.tok _,⟨_,rfl⟩,q⟩
def Gv{f:av->av->Sem av}{g:Int->Int->Bool}
  (rule:∀(i j:Int) (t u:Tok) (s:az) (Q:av->az->Prop) (E:av->az->Prop),Q (.bool (g i j)) s->j4 (kw X.prog X.w) X.A (f (.int i t) (.int j u)) Q E s) :
  OpR X f (rI0 λi j=>.bl (g i j)):=by intro pins s σ H x y v u Q I a b h;obtain⟨i,j,rfl,rfl,q⟩:=h;obtain⟨t,rfl⟩:=a;obtain⟨t',rfl⟩:=b;exact rule i j t t' s _ _ ⟨.bl (g i j),H,I,rfl,q⟩
def Jd(i j:Int):Prop:=0<j/\j<1073741824
def wO(i j:Int):Prop:=(-(2 ^ 64)<i/\i<2 ^ 64)\/(-(2 ^ 64)<j/\j<2 ^ 64)
def wO.ok(h:wO i j):IntMulOk i j:=by
 rcases h with⟨h1,h2⟩|⟨h1,h2⟩
 .exact .of_left (intBits_le_64 h1 h2)
 .exact .of_right (intBits_le_64 h1 h2)
def cr:OpR X (Qt .Add) (rI0 λi j=>.int (i+j)):=HJ λ_ _ _ _ _ _ _ q=>add_int q
def u7:OpR X (Qt .Sub) (rI0 λi j=>.int (i - j)):=HJ λ_ _ _ _ _ _ _ q=>sub_int q
def ff:OpR X (Qt .Mult) (rI wO λi j=>.int (i*j)):=opI λ_ _ _ _ _ _ _ hc q=>mul_int q hc.ok
def dF:OpR X (Qt .FloorDiv) (rI Jd λi j=>.int (i / j)):=opI λi j _ _ _ _ _ hc q=>by
 have h1:(0:Int)<j:=hc.1;have h2:j<1073741824:=hc.2;exact floordiv_int (!0) (by rw[Lg i (!0)];exact q) (.inl (PyProof.noPylong_small (!0)))
def bO:OpR X (Qt .Mod) (rI (λ_ j=>0<j) λi j=>.int (i % j)):=opI λi j _ _ _ _ _ hc q=>by
 have h1:(0:Int)<j:=hc;exact mod_int' (!0) (by rw[Int.fmod_eq_emod_of_nonneg i (!0)];exact q)
def unI{f:av->Sem av}{g:Int->Int}
  (rule:∀(i:Int) (t:Tok) (s:az) (Q:av->az->Prop) (E:av->az->Prop),Q (.int (g i) s.toks) { s with toks:=s.toks+1 }->j4 (kw X.prog X.w) X.A (f (.int i t)) Q E s) :
  UnR X f (rU λi=>.int (g i)):=by intro pins s σ H x v Q I a h;obtain⟨i,rfl,q⟩:=h;obtain⟨t,rfl⟩:=a;exact rule i t s _ _ ⟨.int (g i),H,I.tok _,⟨_,rfl⟩,q⟩
def gc:UnR X (unaryOp .USub) (rU λi=>.int (-i)):=unI λ_ _ _ _ _ q=>neg_int q
end
def HD:V->V->Bool
 | .non,.non=>true|.non,.int _=>true|.int _,.non=>true|.non,.bl _=>true|.bl _,.non=>true|.non,.str _=>true|.str _,.non=>true
 | .int _,.int _=>true|.bl _,.bl _=>true|.str _,.str _=>true|.byt _,.byt _=>true
 | .int _,.str _=>true|.str _,.int _=>true|.bl _,.str _=>true|.str _,.bl _=>true
 | _,_=>false
def rEq:R2:=λx y H Q=>HD x y=true/\Q (.bl (decide (x=y))) H
def rNe:R2:=λx y H Q=>HD x y=true/\Q (.bl (!decide (x=y))) H
def vV:decide (V.int i=V.int j)=(i==j):=by rw[La];simp
def Ae:decide (V.bl i=V.bl j)=(i==j):=by rw[La];simp
def vU:decide (V.str i=V.str j)=(i==j):=by rw[La];simp
def vW:decide (V.byt i=V.byt j)=(i.toList==j.toList):=by rw[La];cases i;cases j;simp
section
variable {X:Cx}{a b c:bb}{ta tb tc:TE}{pos:Pos}
def bd{pins:List (ao×Obj)}{σ:St}{H:Hp}{s:az}{Q:VK}{k k':Bool}(I:Inv X pins σ H s)(q:Q (.bl k) H)(e:k=k'):EP X pins σ Q (.bool k') s:=by subst e;exact⟨.bl k,H,I,rfl,q⟩
def mr:OpR X (k0 .Eq) rEq:=by
 intro pins s σ H x y v u Q I c a h;obtain⟨b,q⟩:=h;cases x with
 | non =>
  cases c;cases y with
  | non=>cases a;exact PySem.EqNone.eq_none_none (bd I q (!1))
  | bl j=>cases a;exact PySem.EqNone.eq_none_bool (bd I q (!1))
  | int j=>obtain⟨t',rfl⟩:=a;exact PySem.EqNone.eq_none_int (bd I q (!1))
  | str j=>obtain⟨t',rfl⟩:=a;exact PySem.EqNone.eq_none_str (bd I q (!1))
  | _=>exact absurd (show false=true from b) JC
 | bl i =>
  cases c;cases y with
  | non=>cases a;exact PySem.EqNone.eq_bool_none (bd I q (!1))
  | bl j=>cases a;exact eq_bool (bd I q Ae)
  | str j=>obtain⟨t',rfl⟩:=a;exact PySem.EqMixed.eq_bool_str (bd I q (!1))
  | _=>exact absurd (show false=true from b) JC
 | int i =>
  obtain⟨t,rfl⟩:=c;cases y with
  | non=>cases a;exact PySem.EqNone.eq_int_none (bd I q (!1))
  | int j=>obtain⟨t',rfl⟩:=a;exact eq_int (bd I q vV)
  | str j=>obtain⟨t',rfl⟩:=a;exact PySem.EqMixed.eq_int_str (bd I q (!1))
  | _=>exact absurd (show false=true from b) JC
 | str i =>
  obtain⟨t,rfl⟩:=c;cases y with
  | non=>cases a;exact PySem.EqNone.eq_str_none (bd I q (!1))
  | bl j=>cases a;exact PySem.EqMixed.eq_str_bool (bd I q (!1))
  | int j=>obtain⟨t',rfl⟩:=a;exact PySem.EqMixed.eq_str_int (bd I q (!1))
  | str j=>obtain⟨t',rfl⟩:=a;exact eq_str (bd I q vU)
  | _=>exact absurd (show false=true from b) JC
 | byt i =>
  obtain⟨t,rfl⟩:=c;cases y with
  | byt j=>obtain⟨t',rfl⟩:=a;exact PySem.W.eq_bytes (bd I q vW)
  | _=>exact absurd (show false=true from b) JC
 | _=>cases y <;> exact absurd (show false=true from b) JC
def BC:OpR X (k0 .NotEq) rNe:=by
 intro pins s σ H x y v u Q I c a h;obtain⟨b,q⟩:=h;cases x with
 | non =>
  cases c;cases y with
  | non=>cases a;exact PySem.EqNone.ne_none_none (bd I q (!1))
  | bl j=>cases a;exact PySem.EqNone.ne_none_bool (bd I q (!1))
  | int j=>obtain⟨t',rfl⟩:=a;exact PySem.EqNone.ne_none_int (bd I q (!1))
  | str j=>obtain⟨t',rfl⟩:=a;exact PySem.EqNone.ne_none_str (bd I q (!1))
  | _=>exact absurd (show false=true from b) JC
 | bl i =>
  cases c;cases y with
  | non=>cases a;exact PySem.EqNone.ne_bool_none (bd I q (!1))
  | bl j=>cases a;exact ne_bool (bd I q (congrArg not Ae))
  | str j=>obtain⟨t',rfl⟩:=a;exact PySem.EqMixed.ne_bool_str (bd I q (!1))
  | _=>exact absurd (show false=true from b) JC
 | int i =>
  obtain⟨t,rfl⟩:=c;cases y with
  | non=>cases a;exact PySem.EqNone.ne_int_none (bd I q (!1))
  | int j=>obtain⟨t',rfl⟩:=a;exact ne_int (bd I q (congrArg not vV))
  | str j=>obtain⟨t',rfl⟩:=a;exact PySem.EqMixed.ne_int_str (bd I q (!1))
  | _=>exact absurd (show false=true from b) JC
 | str i =>
  obtain⟨t,rfl⟩:=c;cases y with
  | non=>cases a;exact PySem.EqNone.ne_str_none (bd I q (!1))
  | bl j=>cases a;exact PySem.EqMixed.ne_str_bool (bd I q (!1))
  | int j=>obtain⟨t',rfl⟩:=a;exact PySem.EqMixed.ne_str_int (bd I q (!1))
  | str j=>obtain⟨t',rfl⟩:=a;exact ne_str (bd I q (congrArg not vU))
  | _=>exact absurd (show false=true from b) JC
 | byt i =>
  obtain⟨t,rfl⟩:=c;cases y with
  | byt j=>obtain⟨t',rfl⟩:=a;exact PySem.W.ne_bytes (bd I q (congrArg not vW))
  | _=>exact absurd (show false=true from b) JC
 | _=>cases y <;> exact absurd (show false=true from b) JC
def oT:OpR X (k0 .Lt) (rI0 λi j=>.bl (decide (i<j))):=Gv λ_ _ _ _ _ _ _ q=>lt_int q
def Ei:OpR X (k0 .LtE) (rI0 λi j=>.bl (decide (i<=j))):=Gv λ_ _ _ _ _ _ _ q=>le_int q
def El:OpR X (k0 .Gt) (rI0 λi j=>.bl (decide (j<i))):=Gv λ_ _ _ _ _ _ _ q=>gt_int q
def vd:OpR X (k0 .Is) (λx y H Q=>y=.non/\Q (.bl (decide (x=.non))) H):=by
 intro pins s σ H x y v u Q I a b h;obtain⟨rfl,q⟩:=h;cases b;refine is_none_gen (bd I q ?_);cases x <;> first
  | (cases a;rfl)
  | (obtain⟨t,rfl⟩:=a;rfl)
def kK:OpR X (k0 .IsNot) (λx y H Q=>y=.non/\Q (.bl (!decide (x=.non))) H):=by
 intro pins s σ H x y v u Q I a b h;obtain⟨rfl,q⟩:=h;cases b;refine isnot_none_gen (bd I q ?_);cases x <;> first
  | (cases a;rfl)
  | (obtain⟨t,rfl⟩:=a;rfl)
def aU(b:bb)(h:op≠.In:=by decide)(h2:op≠.NotIn:=by decide):QR op b=false:=by
 have e1:(op==CmpOp.In)=false:=by cases op <;> first|rfl|exact absurd rfl h
 have e2:(op==CmpOp.NotIn)=false:=by cases op <;> first|rfl|exact absurd rfl h2
 cases b <;> simp[QR,e1,e2]
def Bx(ho:OpR X (k0 op) r)(c:PE X a ta)(d:PE X b tb)(e:QR op b=false):PE X (.Compare a [op] [b] pos) (tOp r ta tb):=by intro pins s σ H Q I h;exact wpAny_Compare1 (Hq c d I h λv u s2 x y H2 f g i q=>ho pins s2 σ H2 x y v u Q f g i q) e
def Dp(t:TE):TT:=λσ H Q=>t σ H λx H'=>∃k,x=.bl k/\Q k H'
def Bd(ho:OpR X (k0 op) r)(d:PE X a ta)(f:PE X b tb)(g:QR op b=false):PT X (.Compare a [op] [b] pos) (Dp (tOp r ta tb)):=by
 intro pins s σ H Q I h;refine wpAny_isTrue_Compare1 (thn (d pins s σ H _ I h) λv s1 ⟨x,H1,i,j,q1⟩=>thn (f pins s1 σ H1 _ i q1) λu s2 ⟨y,H2,l,m,q2⟩ =>
  thn (ho pins s2 σ H2 x y v u _ l j m q2) λc t ⟨z,n,o,p,k,e,q⟩=>?_) g
 subst e;cases p;exact Qf ⟨n,o,q⟩
def zq(r b:R2)(ta tb tc:TE):TE:=λσ H Q=>ta σ H λx H1=>tb σ H1 λy H2=>r x y H2 λz a=>∃k,z=.bl k /\
 (if k=true then tc σ a λw' c=>b y w' c Q else Q (.bl false) a)
def xP(ho:OpR X (k0 op) r)(g:OpR X (k0 f) i)(o:PE X a ta)(p:PE X b tb)(hc:PE X c tc)
  (q:lastMarks [op,f] [b,c]=false:=by with_unfolding_all rfl):PE X (.Compare a [op,f] [b,c] pos) (zq r i ta tb tc):=by
 intro pins s σ H Q I h;refine Compare_chain (thn (o pins s σ H _ I h) λv s1 ⟨x,H1,t,w,q1⟩=>chain_link (thn (p pins s1 σ H1 _ t q1) λu s2 ⟨y,H2,A,j,q2⟩ =>
  thn (ho pins s2 σ H2 x y v u _ A w j q2) λd B ⟨z,l,m,C,k,e,n⟩=>?_)) q
 subst e;cases C;refine Qf ?_;cases k with
 | false=>exact ite_ff ⟨.bl false,l,m,rfl,n⟩
 | true=>exact ite_tt (chain_last (thn (hc pins B σ l _ m n) λw' D ⟨E,F,G,J,K⟩=>g pins D σ F y E u w' Q G j J K))
def FQ(K:cb)(x:V)(H:Hp)(k:Bool):Prop :=
 match x with
 | .non=>k=false
 | .bl b=>k=b
 | .int i=>k=(i != 0)
 | .str y=>y.length<=sizeLine/\k=((y.length:Int) != 0)
 | .byt y=>y.size<=sizeLine/\k=((y.size:Int) != 0)
 | .ref p=>(∃xs,SqL K H p xs/\k=!xs.isEmpty)\/(∃xs,SqT K H p xs/\k=!xs.isEmpty)\/∃kvs,H p=some (.dK kvs)/\k=!kvs.isEmpty
 | _=>False
def sZ{kvs:List (κ×V)}{vs:List (κ×av)}(r:KV kvs vs):(!vs.isEmpty)=!kvs.isEmpty:=by cases r <;> rfl
def kg(r:aW xs its):(!its.toArray.isEmpty)=!xs.isEmpty:=by cases r <;> simp
def kc:(sizeLine:Nat)<2 ^ 63:=by rw[zg];decide
def Dn:Ja X (λx H Q=>∃k,FQ X.K x H k/\Q k H):=by
 intro pins s σ H x v Q I d h;obtain⟨k,e,q⟩:=h;have j:=kc;have l:sizeLine=16777216:=zg;cases x with
 | non =>
  cases d;have a:k=false:=e;subst a;exact truthy_none ⟨H,I,q⟩
 | bl b =>
  cases d;have a:k=b:=e;subst a;exact Qf ⟨H,I,q⟩
 | int i =>
  obtain⟨t,rfl⟩:=d;have a:k=(i != 0):=e;subst a;exact PySem.P.truthy_int ⟨H,I,q⟩
 | str y =>
  obtain⟨t,rfl⟩:=d;obtain⟨f,a⟩:y.length<=sizeLine/\k=((y.length:Int) != 0):=e;subst a;exact PySem.P.truthy_str (!0) ⟨H,I.tok _,q⟩
 | byt y =>
  obtain⟨t,rfl⟩:=d;obtain⟨f,a⟩:y.size<=sizeLine/\k=((y.size:Int) != 0):=e;subst a;exact PySem.W.truthy_bytes (!0) ⟨H,I.tok _,q⟩
 | ref p =>
  cases d;have a:(∃xs,SqL X.K H p xs/\k=!xs.isEmpty)\/(∃xs,SqT X.K H p xs/\k=!xs.isEmpty)\/∃kvs,H p=some (.dK kvs)/\k=!kvs.isEmpty:=e;rcases a with⟨xs,hx,a⟩|⟨xs,hx,a⟩|⟨kvs,hx,a⟩
  .subst a;obtain⟨its,r,pl,hz⟩:=I.list hx;have c:=r.length;exact wpAny_truthy_list pl.isList (by simp only[Jw];omega) ⟨H,I.tok _,by rw[kg r];exact q⟩
  .subst a;obtain⟨its,r,pl,hz⟩:=I.tuple hx;have c:=r.length;exact truthy_tuple pl (by simp only[Jw];omega) ⟨H,I.tok _,by rw[kg r];exact q⟩
  .subst a;obtain⟨hz,g,vs,r,m⟩:kvs.length<=sizeLine/\(p==Qb)=false/\∃vs,KV kvs vs/\s.heap.DictOf (pb X.prog X.w) p vs:=I.hok p _ hx;have c:kvs.length=vs.length:=Paired.length r;exact wpAny_truthy_dict g m (!0) ⟨H,I.tok _,by rw[sZ r];exact q⟩
 | _=>exact(show False from e).elim
def xI(c:PE X a ta)(d:∀b,Zg a X.env b=(do let v <-b;QV a.pos;Qk [v] (ZO v))) :
  PT X a (λσ H Q=>ta σ H λx H'=>∃k,FQ X.K x H' k/\Q k H'):=by intro pins s σ H Q I h;exact isTrue_plain (thn (c pins s σ H _ I h) λv s1 ⟨x,H1,e,f,q1⟩=>Dn pins s1 σ H1 x v Q e f q1) (d _)
def gK(r:aW [x] us):∃u,us=[u]/\bD x u:=by
 cases r with
 | cons a b=>cases b;exact⟨_,rfl,a⟩
def tM(r:aW [x,y] us):∃u w',us=[u,w']/\bD x u/\bD y w':=by
 cases r with
 | cons a b =>
  cases b with
  | cons c d=>cases d;exact⟨_,_,rfl,a,c⟩
def wo(hc:X.calm=true):eJ X (.builtin "min") (λxs H Q=>∃i j,xs=[.int i,.int j]/\Q (.int (if j<i then j else i)) H):=by
 intro pins s σ H xs us Q I r h;obtain⟨i,j,rfl,q⟩:=h;obtain⟨u,w',rfl,⟨t,rfl⟩,⟨t',rfl⟩⟩:=tM r;refine min_two_ints (I.ok.hd hc) λh' tk k=>⟨_,H,I.kept k,?_,q⟩
 by_cases hj:j<i
 .rw[Mz hj,Mz hj];exact⟨_,rfl⟩
 .rw[MA hj,MA hj];exact⟨_,rfl⟩
end
structure eM(k:Nat)(A:Around):Prop where
 hd : A.handled=none
 dp : A.depth+3*k+5<recursionLimit
 un : A.units+16*k+200<zs
def eM.mono(r:eM k A)(h:j<=k):eM j A:=⟨r.hd,by have:=r.dp;omega,by have:=r.un;omega⟩
theorem eM.deeper(r:eM (k+1) A)(env:Env):eM k (A.deeper env) :=
 ⟨r.hd,by have:=r.dp;show A.depth+1+3*k+5<_;omega,by have:=r.un;show A.units+3+16*k+200<_;omega⟩
theorem eM.in1(r:eM (k+1) A):eM k A.in1 :=
 ⟨r.hd,by have:=r.dp;show A.depth+3*k+5<_;omega,by have:=r.un;show A.units+1+16*k+200<_;omega⟩
theorem eM.depth(r:eM k A):A.depth<recursionLimit:=by have:=r.dp;omega
theorem eM.units(r:eM k A):A.units+64<zs:=by have:=r.un;omega
def Ft:TA:=λ_ H Q=>Q [] H
def xi(ta:TE)(tr:TA):TA:=λσ H Q=>ta σ H λx H1=>tr σ H1 λxs H2=>Q (x::xs) H2
section
def eK:PA X [] Ft:=λ_ _ _ _ H Q I h=>Calls.spliced_nil ⟨[],H,I,.nil,h⟩
def cj(b:PE X e te)(c:PA X es t)(d:j1 (e::es) X.env=(false,eval e X.env)::j1 es X.env:=by rfl):PA X (e::es) (xi te t):=by intro pos pins s σ H Q I h;rw[d];show j4 _ _ (spliced ((false,eval e X.env)::k6 pos (j1 es X.env))) _ _ s;refine Calls.spliced_cons (thn (b pins s σ H _ I h) λu s1 a=>?_);obtain⟨x,H1,f,g,q1⟩:=a;exact thn (c pos pins s1 σ H1 _ f q1) λus s2 ⟨xs,H2,i,j,q2⟩=>⟨x::xs,H2,i,.cons g j,q2⟩
def Iz(t:TA):TE:=λσ H Q=>t σ H λxs H1=>xs.length<=sizeLine/\∀p,H1 p=none->Q (.ref p) (upd H1 p (.tup xs))
def HA(t:TA):TE:=λσ H Q=>t σ H λxs H1=>xs.length<=sizeLine/\∀p,H1 p=none->Q (.ref p) (upd H1 p (.lst xs))
def Ea(h:PA X es t):PE X (.Tuple es x1 pos) (Iz t):=by intro pins s σ H Q I hq;refine wpAny_Tuple_spliced (thn (h pos pins s σ H _ I hq) λus s1 a=>?_);obtain⟨xs,H1,c,r,z,q⟩:=a;refine⟨by rw[<-r.length];exact z,?_⟩;have d:H1 s1.heap.objs.size=none:=c.hok.fresh (Jx _);refine⟨.ref s1.heap.objs.size,upd H1 s1.heap.objs.size (.tup xs),c.laid (t':=s1.toks) (λb u e=>Jn _ e) (Jx _) ?_,rfl,q _ d⟩;exact⟨z,us,r,⟨_,JA _ rfl,rfl,⟨_,rfl⟩,rfl⟩⟩
def uX(h:PA X es t):PE X (.List es pos) (HA t):=by intro pins s σ H Q I hq;refine wpAny_List_spliced (thn (h pos pins s σ H _ I hq) λus s1 a=>?_);obtain⟨xs,H1,c,r,z,q⟩:=a;refine⟨by rw[<-r.length];exact z,?_⟩;have d:H1 s1.heap.objs.size=none:=c.hok.fresh (Jx _);refine⟨.ref s1.heap.objs.size,upd H1 s1.heap.objs.size (.lst xs),c.laid (t':=s1.toks) (λb u e=>Jn _ e) (Jx _) ?_,rfl,q _ d⟩;exact⟨z,us,0,r,JA _ rfl⟩
end
abbrev Sp:=List V->Hp->VK->XK->Prop
abbrev CXT:=List Env->Hp->az->XK->av->az->Prop
structure wV(P:ky)(w:k3)(K:cb)(mg:bt->Option av)(base:bg)(A:Around)(outer:List Env)(s:az)(H:Hp):Prop where
 frames:A.frames=some outer
 mod:Mod K mg base
 bs : ∀b o,base.get? b=some o->s.heap.get? b=some o/\H b=none
 bsz:base.objs.size<=s.heap.objs.size
 funs:s.heap.FunFrames base outer
 frf:∀b∈frs outer,H b=none
 hok:HOk P w H s.heap
 bare:Q9 s.gens
 tab:Aw K H
def CE(outer:List Env)(P:ky)(w:k3)(H:Hp)(s:az)(Q:VK)(u:av)(s':az):Prop :=
 ∃v H',s'.os=s.os/\Q9 s'.gens/\Un (frs outer) [] H H' s.heap s'.heap/\HOk P w H' s'.heap/\bD v u/\Q v H'
def CR(CX:CXT)(outer:List Env)(P:ky)(w:k3)(H:Hp)(s:az)(Q:VK)(E:XK)(r:Z6)(s':az):Prop :=
 match r with
 | .ok (.ret u)=>CE outer P w H s Q u s'
 | .ok _=>False
 | .error e=>CX outer H s E e s'
structure ca(P:ky)(w:k3)(K:cb)(mg:bt->Option av)(base:bg)(CX:CXT)(k:Nat)(f:ao)(fd:ki)(ps:List bt)(sp:Sp):Prop where
 len:∀vs H Q E,sp vs H Q E->vs.length=ps.length
 run:∀(A:Around) (outer:List Env) (s:az) (H:Hp) (args:Args) (us:List av) (vs:List V) (Q:VK) (E:XK),eM k A->wV P w K mg base A outer s H->Zl s fd args (ps.zip us)->aW vs us->sp vs H Q E ->
  Qv (kw P w) A (.call (.ref f) args) (CR CX outer P w H s Q E) s
theorem ca.mono{P:ky}{w:k3}{K:cb}{mg:bt->Option av}{base:bg}{CX:CXT}{j k:Nat}{f:ao}{fd:ki}{ps:List bt}{sp:Sp}(F:ca P w K mg base CX j f fd ps sp)(h:j<=k) :
  ca P w K mg base CX k f fd ps sp:=⟨F.len,λA outer s H args us vs Q E a=>F.run A outer s H args us vs Q E (a.mono h)⟩
theorem wV.in1{P:ky}{w:k3}{K:cb}{mg:bt->Option av}{base:bg}{A:Around}{outer:List Env}{s:az}{H:Hp}(e:wV P w K mg base A outer s H) :
  wV P w K mg base A.in1 outer s H:=⟨e.frames,e.mod,e.bs,e.bsz,e.funs,e.frf,e.hok,e.bare,e.tab⟩
section
variable {X:Cx}{pins:List (ao×Obj)}{σ:St}{H:Hp}{s s':az}
def Inv.env0(I:Inv X pins σ H s):wV X.prog X.w X.K X.mg X.base X.A X.stack s H :=
 ⟨I.ok.frames,I.ok.mod,I.bs,Jt I.ok.bsz I.sz,I.stack,I.stkFree,I.hok,I.bare,λT q h=>I.base.tbls T q (I.ok.tab T q h)⟩
def Inv.after(I:Inv X pins σ H s)(h:CE X.stack X.prog X.w H s Q u s'):EP X pins σ Q u s':=by obtain⟨v,H',os,bare,un,hok,r,q⟩:=h;obtain⟨c,g,d,t,a⟩:=s';obtain rfl:a=s.os:=os;exact⟨v,H',I.call (h':=c) (g':=g) (d':=d) (t':=t) (ch:=[]) un hok bare (λb z=>absurd z (!1)),r,q⟩
end
def sy(sp:Sp)(dvs:List V)(E:XK)(t:TA):TE:=λσ H Q=>t σ H λvs H1=>sp (vs++dvs) H1 Q E
def gH(K:cb)(fd:ki)(ps:List bt)(ds:List av):Prop :=
 ∀(s:az) (us:List av),K.In s.heap->(us++ds).length=ps.length->Zl s fd ⟨us,[]⟩ (ps.zip (us++ds))
def gH.all{K:cb}{fd:ki}{ps:List bt}(h:∀us:List av,us.length=ps.length->QK fd ⟨us,[]⟩=pure (ps.zip us)):gH K fd ps []:=λs us _ a=>by
 rw[JM] at a ⊢;exact .of_eq (h us a)
def wJ(CX:CXT)(X:Cx)(E:XK):Prop:=∀(pins:List (ao×Obj)) (σ:St) (H:Hp) (s:az) (e:av) (s':az),Inv X pins σ H s->CX X.stack H s E e s'->X.xe e s'
section
variable {X:Cx}{CX:CXT}{k:Nat}{f:ao}{fd:ki}{ps:List bt}{sp:Sp}{dvs:List V}{ds:List av}{E:XK}{x:bt}{p pos:Pos}{e:bb}{es:List bb}{t:TA}
def Dz{pins:List (ao×Obj)}{σ:St}{H:Hp}{s:az}{Q:VK}{us:List av}{vs:List V}(F:ca X.prog X.w X.K X.mg X.base CX k f fd ps sp)(b:eM k X.A)(c:gH X.K fd ps ds)(hd:aW dvs ds)(hx:wJ CX X E)
  (I : Inv X pins σ H s) (r:aW vs us) (h:sp (vs++dvs) H Q E):j4 (kw X.prog X.w) X.A (call (.ref f) us) (EP X pins σ Q) X.xe s:=by
 have a:aW (vs++dvs) (us++ds):=r.append hd;have d:(us++ds).length=ps.length:=by rw[<-a.length];exact F.len _ _ _ _ h
 refine wpAny_call (Zv (F.run X.A X.stack s H ⟨us,[]⟩ (us++ds) (vs++dvs) Q E b I.env0 (c s us I.kIn d) a h) λr s' hq=>?_);cases r with
 | error e=>exact hx pins σ H s e s' I hq
 | ok fl =>
  cases fl with
  | ret u=>exact I.after hq
  | next=>exact False.elim hq
  | brk=>exact False.elim hq
  | cont=>exact False.elim hq
def By(F:ca X.prog X.w X.K X.mg X.base CX k f fd ps sp)(g:eM k X.A)(hg:Gl X x)(i:X.mg x=some (.ref f))(hk:mN X.K (.ref f)=true)(j:gH X.K fd ps ds)(hd:aW dvs ds)(hx:wJ CX X E)
  (l:PA X (e::es) t) (a:(x==("__debug__" : bt))=false:=by decide) (m:j1 (e::es) X.env=(false,eval e X.env)::j1 es X.env:=by rfl) (b:(k6 pos (j1 es X.env)).any (·.1)=false:=by rfl) :
  PE X (.Call (.Name x p) (e::es) [] pos) (sy sp dvs E t):=by intro pins s σ H Q I h;refine QX (BV I hg i ?_ a);refine PySem.W.callWith_K (h₀:=X.base) I.ok.mod.kin hk (thn (l pos pins s σ H _ I h) λus s1 c=>?_) m b;obtain⟨vs,H1,d,r,q⟩:=c;refine⟨d.kIn,?_⟩;exact Dz F g j hd hx d r q
end
structure ax(N P:List bt)(sc:Qn):Prop where
 kind:sc.kind=.function:=by rfl
 co : sc.isCoroutine=false:=by rfl
 gen:sc.isGenerator=false:=by rfl
 nd : N.Nodup:=by decide +kernel
 pre:N.take P.length=P:=by rfl
 par:∀x∈P,sc.names.lookup x=some .local\/sc.names.lookup x=some .cell:=by decide +kernel
 nofree:∀y∈sc.names,y.2≠.free:=by decide +kernel
theorem nI{kindOf:bt->Option NameKind}{x:bt}:∀{binds:List (bt×av)}{m:bt->Option av},(∀v,(x,v) ∉ binds)->ZX kindOf binds m x=m x
 | [],_,_=>rfl
 | (n,v)::r,m,h=>by
  unfold ZX;rw[nI λw hw=>h w (Jq _ hw)];split
  .have:x≠n:=by rintro rfl;exact h v Jm
   simp[this]
  .rfl
theorem nK{kindOf:bt->Option NameKind}{x:bt}:∀{binds:List (bt×av)}{m:bt->Option av},(∀v,(x,v) ∉ binds)->ZY kindOf binds m x=m x
 | [],_,_=>rfl
 | (n,v)::r,m,h=>by
  unfold ZY;rw[nK λw hw=>h w (Jq _ hw)];split
  .rfl
  .have:x≠n:=by rintro rfl;exact h v Jm
   simp[this]
theorem nJ{kindOf:bt->Option NameKind}{x:bt}{v:av}:∀{P:List bt}{vs:List av}{i:Nat}{m:bt->Option av},P.Nodup->P[i]? = some x->vs[i]? = some v->kindOf x=some .local ->
  ZX kindOf (P.zip vs) m x=some v
 | [],_,_,_,_,h,_,_=>by simp at h
 | _::_,[],_,_,_,_,h,_=>by simp at h
 | p::P,w::vs,0,m,nd,h1,h2,hk=>by
  simp at h1 h2;subst h1;subst h2;show ZX kindOf ((p,w)::P.zip vs) m p=_;unfold ZX;rw[nI λv hv=>(JO.mp nd).1 (Lb hv).1,Mz hk];simp
 | p::P,w::vs,i+1,m,nd,h1,h2,hk=>by
  show ZX kindOf ((p,w)::P.zip vs) m x=_;unfold ZX;exact nJ (i:=i) (JO.mp nd).2 (by simpa using h1) (by simpa using h2) hk
theorem nL{kindOf:bt->Option NameKind}{x:bt}{v:av}:∀{P:List bt}{vs:List av}{i:Nat}{m:bt->Option av},P.Nodup->P[i]? = some x->vs[i]? = some v->kindOf x≠some .local ->
  ZY kindOf (P.zip vs) m x=some v
 | [],_,_,_,_,h,_,_=>by simp at h
 | _::_,[],_,_,_,_,h,_=>by simp at h
 | p::P,w::vs,0,m,nd,h1,h2,hk=>by
  simp at h1 h2;subst h1;subst h2;show ZY kindOf ((p,w)::P.zip vs) m p=_;unfold ZY;rw[nK λv hv=>(JO.mp nd).1 (Lb hv).1,MA hk];simp
 | p::P,w::vs,i+1,m,nd,h1,h2,hk=>by
  show ZY kindOf ((p,w)::P.zip vs) m x=_;unfold ZY;exact nL (i:=i) (JO.mp nd).2 (by simpa using h1) (by simpa using h2) hk
def start(N:List bt)(vs:List V):St:=vs.map some++Ko (N.length - vs.length) none
def tD(CX:CXT)(P:ky)(w:k3)(K:cb)(mg:bt->Option av)(base:bg)(N:List bt)(qual:bt)(scope:Qn)(f:ao)(cd:av)(A:Around)(outer:List Env)(s:az)(H:Hp)(E:XK):Cx where
 prog:=P
 w := w
 K := K
 mg := mg
 base:=base
 A := A.deeper (Q3 qual scope s.heap.objs.size f cd)
 N := N
 s₀ := s
 H₀ := H
 env:=Q3 qual scope s.heap.objs.size f cd
 outer:=outer
 stack:=Q3 qual scope s.heap.objs.size f cd::outer
 ex := []
 calm:=true
 fn := λ_=>true
 pn := []
 xe := λe s'=>j4 (kw P w) (A.deeper (Q3 qual scope s.heap.objs.size f cd)) (leaving (Q3 qual scope s.heap.objs.size f cd) e) (λ_ a=>CX outer H s E e a) (λb a=>CX outer H s E b a) s'
def lC{sc:Qn}(h:sc.names.lookup x=some .cell):∃c,(Qa n sc.names []).lookup x=some c:=by have q:=oL sc.names n [] (.inl h);exact J9.mp q
def nc{CX:CXT}{P:ky}{w:k3}{K:cb}{mg:bt->Option av}{base:bg}{N ps:List bt}{qual:bt}{scope:Qn}{f:ao}{cd:av}{A:Around}{outer:List Env}{s s1:az}{H:Hp}{E:XK}{us:List av}{vs:List V}
  (S : ax N ps scope) (hd:A.handled=none) (d:wV P w K mg base A outer s H) (C:vs.length=ps.length) (r:aW vs us)
  (x : InCallC s s.heap.objs.size (ZX (Q3 qual scope s.heap.objs.size f cd).kindOf (ps.zip us) λ_=>none) (Qa (s.heap.objs.size+1) scope.names []) (ZY (Q3 qual scope s.heap.objs.size f cd).kindOf (ps.zip us) λ_=>none) s1) :
  Inv (tD CX P w K mg base N qual scope f cd A outer s H E) [] (start N vs) H s1:=by
 have t:ps.length<=N.length:=by have:=congrArg fI S.pre;rw[JZ] at this;omega
 obtain⟨h1,tk,rfl,hk⟩:=x.done;have g:∀b:ao,b ∉ (tD CX P w K mg base N qual scope f cd A outer s H E).ex:=λb z=>absurd (show b∈([]:List ao) from z) (!1);refine⟨⟨d.mod,S.kind,rfl,rfl,Jx _,λy z c h1 h2=>?_,λy j=>?_,λy c _ h=>?_,λ_=>hd,Around.frames_deeper d.frames,.inr ⟨rfl,rfl⟩,λb z=>absurd z (g b),d.bs,d.bsz,λb _ _=>g b,λb z=>absurd z (g b),d.funs,d.frf,d.tab⟩,
  rfl,d.bare,Un.kept hk,⟨_,x.toInCall.ns,λi y v h1 h2 h3=>?_⟩,λy c h=>⟨_,x.cell y c h⟩,d.hok.fresh (Jx _),λy c h=>?_,λp l=>absurd (show p∈([]:List (ao×Obj)) from l) (!1),d.hok.kept hk,?_⟩
 .exact name_of_addr x.apart (gf h1) (gf h2)
 .have j:scope.names.lookup y=some .cell\/scope.names.lookup y=some .free:=j;rcases j with j|j
  .exact lC j
  .exact absurd rfl (S.nofree _ (gf j))
 .exact KM (x.above y c (gf h))
 .have hi:i<vs.length:=by
   unfold start at h2;by_cases hi:i<vs.length
   .exact hi
   .rw[K2 (by simpa using hi)] at h2;rw[List.getElem?_replicate] at h2;split at h2 <;> cases h2
  have B:vs[i]? = some v:=by
   unfold start at h2;rw[JV (by simpa using hi),JE] at h2;cases e:vs[i]? with
   | none=>rw[e] at h2;cases h2
   | some a=>rw[e] at h2;cases h2;rfl
  obtain⟨u,o,rv⟩:=r.get B;have l:ps[i]? = some y:=by rw[<-S.pre,Lo (!0)];exact h1
  have m:ps.Nodup:=by rw[<-S.pre];exact S.nd.sublist (List.take_sublist _ _)
  refine⟨u,rv,?_⟩;rcases S.par y (Km l) with k|k
  .exact .inl ⟨k,nJ m l o k⟩
  .obtain⟨c,e⟩:=lC (n:=s.heap.objs.size+1) k;refine .inr ⟨.inl k,c,e,?_⟩;have q:=x.cell y c e;rw[nL m l o (by show scope.names.lookup y≠_;rw[k];decide)] at q;exact q
 .exact d.hok.fresh (KM (x.above y c (gf h)))
 .unfold start;show _=N.length;rw[Jz,Je,List.length_replicate];omega
def EV{CX:CXT}{P:ky}{w:k3}{K:cb}{mg:bt->Option av}{base:bg}{k:Nat}{f:ao}{name qual:bt}{params:Zm}{body:List Stmt}{scope:Qn}{m kV doc pm cdv ct oc:av}{an od:Option ao}
  {osl:Array (Option av)}{N ps:List bt}{sp:Sp} (z:K.lookup f=some ⟨oc,od,.func (gs name qual params body scope m kV doc pm an cdv ct),osl⟩) (i:m3 K cdv qual=true) (S:ax N ps scope)
  (len:∀vs H Q E,sp vs H Q E->vs.length=ps.length)
  (a:∀(A:Around) (outer:List Env) (s:az) (H:Hp) (vs:List V) (Q:VK) (E:XK),eM k (A.deeper (Q3 qual scope s.heap.objs.size f cdv))->sp vs H Q E ->
   ∃t,PSs (tD CX P w K mg base N qual scope f cdv A outer s H E) body t/\t { nx:=λ_ H'=>Q .non H',rt:=Q } (start N vs) H) :
  ca P w K mg base CX (k+1) f (gs name qual params body scope m kV doc pm an cdv ct) ps sp:=by
 refine⟨len,λA outer s H args us vs Q E j g B r h=>?_⟩;have C:=len _ _ _ _ h;have p:K.In s.heap:=g.mod.kin.keeps λb o e=>(g.bs b o e).1;have l:s.heap.NoLimit:=g.mod.nolimit.keeps λb o e=>(g.bs b o e).1;have c:∀y∈ps.zip us,scope.names.lookup y.1=some .local\/(scope.names.lookup y.1=some .cell/\((Qa (s.heap.objs.size+1) scope.names []).lookup y.1).isSome=true):=λ⟨n,v⟩ D=>by
  rcases S.par n (Lb D).1 with q|q
  .exact .inl q
  .exact .inr ⟨q,oL _ _ _ (.inl q)⟩
 refine codeAny_call_function j.depth (p _ _ z) rfl S.co S.gen rfl (PySem.W.codeRec_of p i) (B _ _ _ _ ?_);refine ZN S.kind c λenv F s1 x=>?_;subst F;refine⟨l.keeps x.toInCall.keep,codeAny_func ?_⟩;obtain⟨t,G,hq⟩:=a A outer s H vs Q E (j.deeper _) h;have I:Inv (tD CX P w K mg base N qual scope f cdv A outer s H E) [] (start N vs) H s1:=nc S j.hd g C r x;refine z5 (G [] s1 (start N vs) H _ I hq) (λfl s' d=>?_) λe s' d=>d;have fin:∀{σ':St}{H':Hp}{v:V}{u:av},Inv (tD CX P w K mg base N qual scope f cdv A outer s H E) [] σ' H' s'->bD v u->Q v H'->CE outer P w H s Q u s' :=
  λ{σ' H' v u} J rv q=>⟨v,H',J.os,J.bare,J.base,J.hok,rv,q⟩
 cases fl with
 | ret u =>
  obtain⟨v,σ',H',J,rv,q⟩:=d;exact fin J rv q
 | next =>
  obtain⟨σ',H',J,q⟩:=d;exact fin (v:=V.non) (u:=dt) J rfl q
 | brk =>
  obtain⟨_,_,_,q⟩:=d;exact False.elim q
 | cont =>
  obtain⟨_,_,_,q⟩:=d;exact False.elim q
section
variable {X:Cx}{x:bt}{p pos:Pos}{e:bb}{es:List bb}{t:TA}{id T:String}{r:List V->Hp->VK->Prop}
def tCB(r:List V->Hp->VK->Prop)(t:TA):TE:=λσ H Q=>t σ H λvs H1=>r vs H1 Q
def kJ(hc:eJ X (.builtin id) r)(hg:Gl X x)(c:X.mg x=none)(hv:QJ x=some (.builtin id))(d:PA X (e::es) t)(hn:x ≠ "__name__" := by decide)(a:(x==("__debug__" : bt))=false:=by decide)
  (f:j1 (e::es) X.env=(false,eval e X.env)::j1 es X.env:=by rfl) (b:(k6 pos (j1 es X.env)).any (·.1)=false:=by rfl):PE X (.Call (.Name x p) (e::es) [] pos) (tCB r t):=by intro pins s σ H Q I h;refine QX (gA I hg c hv ?_ hn a);exact PyProof.Rows.callWith_builtin1 (thn (d pos pins s σ H _ I h) λus s1 ⟨vs,H1,g,i,q1⟩=>hc pins s1 σ H1 vs us Q g i q1) f b
def mn(hc:eJ X (.type T) r)(hg:Gl X x)(c:X.mg x=none)(hv:QJ x=some (.type T))(d:PA X (e::es) t)(hn:x ≠ "__name__" := by decide)(a:(x==("__debug__" : bt))=false:=by decide)
  (f:j1 (e::es) X.env=(false,eval e X.env)::j1 es X.env:=by rfl) (b:(k6 pos (j1 es X.env)).any (·.1)=false:=by rfl):PE X (.Call (.Name x p) (e::es) [] pos) (tCB r t):=by intro pins s σ H Q I h;refine QX (gA I hg c hv ?_ hn a);exact eE (thn (d pos pins s σ H _ I h) λus s1 ⟨vs,H1,g,i,q1⟩=>hc pins s1 σ H1 vs us Q g i q1) f b
end
end _L
namespace HT
open PySem PyProof.Rows
section
open PySem.SeqAt
open PySem.AutoSeq1 (wpAny_loadPart')
open PySem.MeetsSeq PySem.MeetsSeq2 PySem.MeetsSeq3
end
section
def cat_tup(j:IsTup s.heap t vs.toArray)(k:IsTup s.heap b ws.toArray)(hv:vs≠[])
  (h1:ws=[]->Q (.ref t) s) (h2:ws≠[]->Q (.ref s.heap.objs.size) { s with heap:=s.heap.push { cls:=.type "tuple",data:=.seq (vs++ws).toArray } })
  (hsz:vs.length+ws.length<=sizeLine):j4 (kw prog w) A (Qt .Add (.ref t) (.ref b)) Q E s:=by
 obtain⟨⟨cls,dd,data,sl⟩,ho,hc,n,hd⟩:=id j;obtain⟨⟨h,c,data2,d⟩,a,f,i,g⟩:=id k;simp only at hc hd f g;subst hc hd f g;have e:vs.toArray++ws.toArray=(vs++ws).toArray:=!1
 by_cases hw:ws=[]
 .exact Zu ⟨_,ho,rfl⟩ ⟨_,a,rfl⟩ ZD ZU oS oj (n0 _ _)
   (tuple_addW1 t b vs.toArray ws.toArray n i dd c sl d (by simpa using hv) (by simp[hw])) ⟨ho,a,h1 hw⟩
 .refine Zu ⟨_,ho,rfl⟩ ⟨_,a,rfl⟩ ZD ZU oS oj (n0 _ _)
   (tuple_addW2 t b vs.toArray ws.toArray n i dd c sl d (by simpa using hv) (by simpa using hw) (by rw[Jw,Jw];exact hsz)) ⟨ho,a,?_⟩
  rw[e];exact h2 hw
def sIx(n d:Nat):Option Int->Nat
 | none=>d
 | some v=>if v<0 then (v+(n:Int)).toNat else min v.toNat n
def sIx_none(n d:Nat):sIx n d none=d:=rfl
def sIx_nat(n d k:Nat):sIx n d (some (k:Int))=min k n:=by show(if (k:Int)<0 then ((k:Int)+(n:Int)).toNat else min (k:Int).toNat n)=min k n;rw[MA (!0),JN]
end
end HT
namespace _L
open PySem PySem.Spec PyProof.Rows
abbrev TO:=St->Hp->(Option Int->Hp->Prop)->Prop
def PO(X:Cx)(e:Option bb)(t:TO):Prop :=
 ∀(pins:List (ao×Obj)) (s:az) (σ:St) (H:Hp) (Q:Option Int->Hp->Prop),Inv X pins σ H s->t σ H Q ->
  j4 (kw X.prog X.w) X.A (evalPart e X.env) (λu s'=>∃o H',Inv X pins σ H' s'/\IsPart u o/\Q o H') X.xe s
def AJ:TO:=λ_ H Q=>Q none H
def FY(t:TE):TO:=λσ H Q=>t σ H λx H1=>∃i,x=.int i/\Q (some i) H1
section
variable {X:Cx}{e:bb}{te:TE}{lo hi:Option bb}{tl th:TO}{pos p2:Pos}
def Bj:PO X none AJ:=by intro pins s σ H Q I h;rw[evalPart_none];exact j0 ⟨none,H,I,.none,h⟩
def Bi(h:PE X e te):PO X (some e) (FY te):=by intro pins s σ H Q I hw;rw[evalPart_some];refine thn (h pins s σ H _ I hw) λu s1 a=>?_;obtain⟨x,H1,b,c,q1⟩:=a;obtain⟨i,rfl,q⟩:=q1;obtain⟨t,rfl⟩:=c;exact⟨some i,H1,b,.int i t,q⟩
def SlR(X:Cx)(r:V->Option Int->Option Int->Hp->VK->Prop):Prop :=
 ∀(pins:List (ao×Obj)) (s:az) (σ:St) (H:Hp) (x:V) (v a b:av) (lo hi:Option Int) (sl:ao) (Q:VK),Inv X pins σ H s->bD x v->s.heap.IsSliceOf sl a b .none->IsPart a lo->IsPart b hi->r x lo hi H Q ->
  ∃T id,typeLookup (.type T) "__getitem__" = pure (some (.builtin id))/\s.TypeIs v T/\j4 (kw X.prog X.w) X.A (getItem v (.ref sl)) (EP X pins σ Q) X.xe s
def tSl(r:V->Option Int->Option Int->Hp->VK->Prop)(te:TE)(tl th:TO):TE:=λσ H Q=>te σ H λx H1=>tl σ H1 λl H2=>th σ H2 λu a=>r x l u a Q
def xL(k:SlR X r)(m:PE X e te)(n:PO X lo tl)(o:PO X hi th):PE X (.Subscript e (.Slice lo hi none p2) pos) (tSl r te tl th):=by intro pins s σ H Q I h;refine Subscript_ (thn (m pins s σ H _ I h) λv s1 f=>?_);obtain⟨x,H1,p,t,q1⟩:=f;refine wpAny_Slice (thn (n pins s1 σ H1 _ p q1) λc s2 g=>?_);obtain⟨l,H2,y,pl,q2⟩:=g;refine thn (o pins s2 σ H2 _ y q2) λd a i=>?_;obtain⟨u,j,z,B,C⟩:=i;rw[evalPart_none];refine j0 ?_;have D:Inv X pins σ j { a with heap:=a.heap.push { cls:=.type "slice",data:=.fields #[c,d,.none] } }:=z.kept (t':=a.toks) λb ob q=>Jn _ q;obtain⟨T,id,hT,E,hg⟩:=k pins { a with heap:=a.heap.push { cls:=.type "slice",data:=.fields #[c,d,.none] } } σ j x v c d l u a.heap.objs.size Q D t (My ..) pl B C;show j4 (kw X.prog X.w) X.A (Zp e (.Slice lo hi none p2) v (.ref a.heap.objs.size)) (EP X pins σ Q) X.xe { a with heap:=a.heap.push { cls:=.type "slice",data:=.fields #[c,d,.none] } };exact tail_any (ops:=[.ref a.heap.objs.size,v]) E hT hg (by with_unfolding_all rfl)
def C8(xs:List V)(lo hi:Option Int):List V:=(xs.drop (HT.sIx xs.length 0 lo)).take (HT.sIx xs.length xs.length hi - HT.sIx xs.length 0 lo)
def pK(xs:List V)(lo hi:Option Int):(C8 xs lo hi).length<=xs.length:=by unfold C8;rw[JZ,KA];omega
def Gi(K:cb):R2:=λx y H Q=>∃a b xs ys,x=.ref a/\y=.ref b/\SqT K H a xs/\SqT K H b ys/\xs≠[]/\xs.length+ys.length<=sizeLine /\
 (ys=[]->Q (.ref a) H)/\(ys≠[]->∀p,H p=none->Q (.ref p) (upd H p (.tup (xs++ys))))
def aW.nil_iff(r:aW xs us):us=[]↔xs=[]:=by
 cases r with
 | nil=>simp
 | cons _ _=>simp
def BD:OpR X (Qt .Add) (Gi X.K):=by intro pins s σ H x y v u Q I f g h;obtain⟨a,b,xs,ys,rfl,rfl,i,j,hx,hz,q1,q2⟩:=h;cases f;cases g;obtain⟨its,d,k,_⟩:=I.tuple i;obtain⟨e,c,p2,_⟩:=I.tuple j;refine HT.cat_tup k p2 (λz=>hx (d.nil_iff.mp z)) (λz=>⟨.ref a,H,I,rfl,q1 (c.nil_iff.mp z)⟩) (λz=>?_) (by rw[<-d.length,<-c.length];exact hz);refine⟨.ref s.heap.objs.size,_,I.laid (t':=s.toks) (o:=.tup (xs++ys)) (λb ob q=>Jn _ q) (Jx _) ?_,rfl,q2 (λw=>z (c.nil_iff.mpr w)) _ (I.hok.fresh (Jx _))⟩;exact⟨by rw[Jz];exact hz,_,d.append c,wU.new _ _⟩
end
def ixN(n:Nat)(i:Int):Option Nat:=if 0<=i then (if i<n then some i.toNat else none) else if -(n:Int)<=i then some (i+n).toNat else none
def atI{α:Type}(xs:List α)(i:Int):Option α:=(ixN xs.length i).bind λj=>xs[j]?
def vA(h:ixN n i=some j):ZC i n=some j/\j<n/\-(n:Int)<=i/\i<n:=by
 unfold ixN at h;by_cases a:0<=i
 .rw[Mz a] at h;by_cases h1:i<n
  .rw[Mz h1] at h;have e:i.toNat=j:=dm h;exact⟨by rw[seqIndex_of a h1,e],!0,!0,h1⟩
  .rw[MA h1] at h;cases h
 .rw[MA a] at h;by_cases h1:-(n:Int)<=i
  .rw[Mz h1] at h;have e:(i+n).toNat=j:=dm h;exact⟨by rw[seqIndex_neg (!0) h1,e],!0,h1,!0⟩
  .rw[MA h1] at h;cases h
def wA{xs:List α}(h:atI xs i=some v):∃j,ZC i xs.length=some j/\xs[j]? = some v/\j<xs.length/\-(xs.length:Int)<=i/\i<xs.length:=by
 unfold atI at h;cases e:ixN xs.length i with
 | none=>rw[e] at h;cases h
 | some j =>
  rw[e] at h;obtain⟨h1,h2,h3,h4⟩:=vA e;exact⟨j,h1,h,h2,h3,h4⟩
def cp{α:Type}{xs:List α}{j:Nat}{v:α}(h:xs[j]? = some v):atI xs (j:Int)=some v:=by
 have hj:j<xs.length:=(Js.mp h).1;have e:ixN xs.length (j:Int)=some j:=by unfold ixN;rw[Mz (!0),Mz (!0)];simp
 unfold atI;rw[e];exact h
def lG(xs:List α)(v:α):atI (xs++[v]) (-1)=some v:=by
 have a:(xs++[v]).length=xs.length+1:=!1
 have e:ixN (xs++[v]).length (-1)=some xs.length:=by
  unfold ixN;rw[a,MA (!2),Mz (!0)]
  congr 1
  omega
 unfold atI;rw[e];show(xs++[v])[xs.length]? = some v;simp
def ie(b:bb):Prop:=∀o i,ZE b false o i=operate [o,i] (getItem o i)
def IxR(X:Cx)(r:R2):Prop :=
 ∀(a slice:bb) (pins:List (ao×Obj)) (s:az) (σ:St) (H:Hp) (x y:V) (v u:av) (Q:VK),Inv X pins σ H s->bD x v->bD y u->r x y H Q ->
  ZE slice false v u=operate [v,u] (getItem v u)->j4 (kw X.prog X.w) X.A (Zp a slice v u) (EP X pins σ Q) X.xe s
def MtR(X:Cx)(id:String)(r:V->List V->Hp->VK->Prop):Prop :=
 ∀(pins:List (ao×Obj)) (s:az) (σ:St) (H:Hp) (x:V) (xs:List V) (v:av) (us:List av) (Q:VK),Inv X pins σ H s->bD x v->aW xs us->r x xs H Q ->
  j4 (kw X.prog X.w) X.A (call (.builtin id) (v::us)) (EP X pins σ Q) X.xe s
section
variable {X:Cx}{a b:bb}{ta tb:TE}{pos:Pos}
def IxR.or{r b:R2}(h:IxR X r)(h':IxR X b):IxR X (λx y H Q=>r x y H Q\/b x y H Q):=by
 intro a slice pins s σ H x y v u Q I c d q e;rcases q with q|q
 .exact h a slice pins s σ H x y v u Q I c d q e
 .exact h' a slice pins s σ H x y v u Q I c d q e
def oR(c:IxR X r)(d:PE X a ta)(e:PE X b tb)(f:ie b):PE X (.Subscript a b pos) (tOp r ta tb):=by intro pins s σ H Q I h;exact Subscript_ (Hq d e I h λv u s2 x y H2 g i j q=>c a b pins s2 σ H2 x y v u Q g i j q (f _ _))
def HG(K:cb):R2:=λx y H Q=>∃p xs i v,x=.ref p/\y=.int i/\SqL K H p xs/\atI xs i=some v/\Q v H
def HF(K:cb):R2:=λx y H Q=>∃p xs i v,x=.ref p/\y=.int i/\SqT K H p xs/\atI xs i=some v/\Q v H
def B6:IxR X (HG X.K):=by
 intro a slice pins s σ H x y v u Q I f g h c;obtain⟨p,xs,i,z,rfl,rfl,hq,k,q⟩:=h;cases f;obtain⟨t,rfl⟩:=g;obtain⟨its,r,pl,hz⟩:=I.list hq;obtain⟨j,h1,h2,h3,h4,h5⟩:=wA k;obtain⟨w,d,b⟩:=r.get h2;have l:=r.length;have hn:=kc;have fin:EP X pins σ Q w s:=⟨z,H,I,b,q⟩
 by_cases e:0<=i
 .have hj:i.toNat=j:=by
   rw[seqIndex_of e h5] at h1;exact dm h1
  exact item_listR pl.isList e (!0) (by rw[hj];simpa using d) fin c
 .have hj:(i+(its.toArray.size:Int)).toNat=j:=by
   rw[seqIndex_neg (!0) h4] at h1;rw[Jw,<-l];exact dm h1
  exact Z2 (x:=w) pl.isList.typeIs slot_list_getitem.lookup
   (wpAny_getItem_list_neg (Q:=λr s'=>r=w/\EP X pins σ Q r s') pl.isList (!0) (by rw[Jw] <;> omega) (!0) (by rw[hj];simpa using d) ⟨rfl,fin⟩) c
def EO:IxR X (HF X.K):=by
 intro a slice pins s σ H x y v u Q I c d h e;obtain⟨p,xs,i,z,rfl,rfl,hq,f,q⟩:=h;cases c;obtain⟨t,rfl⟩:=d;obtain⟨its,r,pl,hz⟩:=I.tuple hq;obtain⟨j,h1,h2,h3,h4,h5⟩:=wA f;obtain⟨w,g,b⟩:=r.get h2;have k:=r.length;have hn:=kc;have fin:EP X pins σ Q w s:=⟨z,H,I,b,q⟩
 exact Z2 (x:=w) pl.typeIs slot_tuple_getitem.lookup
  (getItem_tuple (j:=j) (Q:=λr s'=>r=w/\EP X pins σ Q r s') pl (!0) (!0) (by rw[Jw,<-k];exact h1) (by simpa using g) ⟨rfl,fin⟩) e
def sU(its:List av)(n j:Nat)(u:av):ef (·.setIfInBounds j u) { cls:=.type "list",data:=.seq its.toArray n }={ cls:=.type "list",data:=.seq (its.set j u).toArray n }:=by simp[ef]
theorem Inv.lst{pins:List (ao×Obj)}{σ:St}{H:Hp}{s:az}{p:ao}{xs:List V}(I:Inv X pins σ H s)(h:H p=some (.lst xs)) :
  ∃(its:List av) (n:Nat),aW xs its/\s.heap.get? p=some { cls:=.type "list",data:=.seq its.toArray n }/\xs.length<=sizeLine:=by obtain⟨z,its,n,r,e⟩:=I.hok p _ h;exact⟨its,n,r,e,z⟩
def Inv.lstUpd{pins:List (ao×Obj)}{σ:St}{H:Hp}{s:az}{p:ao}{xs ys:List V}{its its':List av}{n a:Nat}{f:Obj->Obj}(I:Inv X pins σ H s)(h:H p=some (.lst xs))
  (ho:s.heap.get? p=some { cls:=.type "list",data:=.seq its.toArray n }) (c:f { cls:=.type "list",data:=.seq its.toArray n }={ cls:=.type "list",data:=.seq its'.toArray a }) (r:aW ys its') (hz:ys.length<=sizeLine) (t:Nat) :
  Inv X pins σ (upd H p (.lst ys)) { s with heap:=s.heap.update p f,toks:=t }:=by
 have e:(s.heap.update p f).get? p=some { cls:=.type "list",data:=.seq its'.toArray a }:=by rw[JW f ho (by rw[c] <;> rfl),c]
 refine I.write (x:=p) (e:=p) (by rw[h];trivial) (.inl rfl) (λb u d q=>(JU _ _ (Ne.symm d)).trans q) ⟨_,e⟩ ?_;exact⟨hz,its',a,r,e⟩
def Gc:V->V->V->Hp->(Hp->Prop)->Prop:=λo i v H Q=>∃p xs k j,o=.ref p/\i=.int k/\H p=some (.lst xs)/\ixN xs.length k=some j/\Q (upd H p (.lst (xs.set j v)))
def xy:Fn X Gc:=by
 intro pins s σ H o i v ov iv u Q I e f rv h;obtain⟨p,xs,k,j,rfl,rfl,b,hj,q⟩:=h;cases e;obtain⟨t,rfl⟩:=f;obtain⟨its,n,r,ho,hz⟩:=I.lst b;obtain⟨h1,h2,h3,h4⟩:=vA hj;have a:=r.length;have hn:=kc;have c:Inv X pins σ (upd H p (.lst (xs.set j v))) { s with heap:=s.heap.update p (ef (·.setIfInBounds j u)) } :=
  I.lstUpd b ho (sU its n j u) (r.set rv j) (by rw[yn];exact hz) s.toks
 by_cases d:0<=k
 .have hk:k.toNat=j:=by
   rw[seqIndex_of d h4] at h1;exact dm h1
  exact PySem.W.ki_setAt ho d (!0) (by rw[Jw,<-a];exact h4) (by rw[hk];exact⟨_,c,q⟩)
 .have hk:(k+(its.toArray.size:Int)).toNat=j:=by
   rw[seqIndex_neg (!0) h3] at h1;rw[Jw,<-a];exact dm h1
  exact PySem.W.ki_setBack ho (!0) (by rw[Jw,<-a];exact h3) (!0) (by rw[hk];exact⟨_,c,q⟩)
def lY(lo hi:Option Int)(n:Nat):(QS lo hi none n).1=((HT.sIx n 0 lo:Nat):Int)/\(QS lo hi none n).2.1=((HT.sIx n n hi:Nat):Int)/\(QS lo hi none n).2.2=1:=by
 refine⟨?_,?_,rfl⟩
 .cases lo with
  | none=>simp[QS,HT.sIx]
  | some i =>
   simp only[QS,HT.sIx,LP,show(1:Int)>0 by decide,if_true];by_cases h:i<0
   .simp only[h,if_true] <;> omega
   .simp only[h,if_false] <;> omega
 .cases hi with
  | none=>simp[QS,HT.sIx]
  | some i =>
   simp only[QS,HT.sIx,LP,show(1:Int)>0 by decide,if_true];by_cases h:i<0
   .simp only[h,if_true] <;> omega
   .simp only[h,if_false] <;> omega
def kA(its:List av)(lo hi:Option Int):slicePick its.toArray lo hi none=((its.drop (HT.sIx its.length 0 lo)).take (HT.sIx its.length its.length hi - HT.sIx its.length 0 lo)).toArray:=by obtain⟨h1,h2,h3⟩:=lY lo hi its.toArray.size;unfold slicePick;rw[h1,h2,h3];simp only[sliceRange_one,pick_run,Jw] <;> rfl
def HE(K:cb):V->Option Int->Option Int->Hp->VK->Prop:=λx lo hi H Q=>∃a xs,x=.ref a/\SqL K H a xs/\∀p,H p=none->Q (.ref p) (upd H p (.lst (C8 xs lo hi)))
def AN:SlR X (HE X.K):=by intro pins s σ H x v i j lo hi sl Q I e f pl g h;obtain⟨a,xs,rfl,hx,q⟩:=h;cases e;obtain⟨its,r,d,hz⟩:=I.list hx;have c:=r.length;refine⟨"list",_,slot_list_getitem.lookup,d.isList.typeIs,?_⟩;refine wpAny_getItem_list_slice d.isList f pl g .none (!1) ?_ (by rw[Jw] <;> omega);rw[kA,<-c];refine⟨.ref s.heap.objs.size,_,I.laid (t':=s.toks) (o:=.lst (C8 xs lo hi)) (λb ob q=>Jn _ q) (Jx _) ?_,rfl,q _ (I.hok.fresh (Jx _))⟩;exact⟨Jt (pK xs lo hi) hz,_,0,(r.drop (HT.sIx xs.length 0 lo)).take (HT.sIx xs.length xs.length hi - HT.sIx xs.length 0 lo),JA _ rfl⟩
def k8:V->Bool
 | .non=>true
 | .bl _=>true
 | .int _=>true
 | .str _=>true
 | _=>false
def eqV:V->V->Bool
 | .non,.non=>true
 | .bl a,.bl b=>a==b
 | .bl a,.int b=>(if a then 1 else 0)==b
 | .int a,.bl b=>a==(if b then 1 else 0)
 | .int a,.int b=>a==b
 | .str a,.str b=>a==b
 | _,_=>false
def E8(d:bD y u)(c:bD x v)(f:k8 y=true)(e:k8 x=true):r2 A s u v (eqV y x):=by
 cases y with
 | non =>
  cases d;cases x with
  | non=>cases c;exact SeqAt.EqAt.same _
  | bl b=>cases c;exact SeqAt.EqAt.none_bool b
  | int b=>obtain⟨t,rfl⟩:=c;exact SeqAt.EqAt.none_int b t
  | str b=>obtain⟨t,rfl⟩:=c;exact SeqAt.EqAt.none_str b t
  | _=>exact absurd (show false=true from e) JC
 | bl a =>
  cases d;cases x with
  | non=>cases c;exact SeqAt.EqAt.bool_none a
  | bl b=>cases c;exact SeqAt.EqAt.bool_bool a b
  | int b=>obtain⟨t,rfl⟩:=c;exact SeqAt.EqAt.bool_int a b t
  | str b=>obtain⟨t,rfl⟩:=c;exact SeqAt.EqAt.bool_str a b t
  | _=>exact absurd (show false=true from e) JC
 | int a =>
  obtain⟨t',rfl⟩:=d;cases x with
  | non=>cases c;exact SeqAt.EqAt.int_none a t'
  | bl b=>cases c;exact SeqAt.EqAt.int_bool a t' b
  | int b=>obtain⟨t,rfl⟩:=c;exact Lj a t' b t
  | str b=>obtain⟨t,rfl⟩:=c;exact Li a t' b t
  | _=>exact absurd (show false=true from e) JC
 | str a =>
  obtain⟨t',rfl⟩:=d;cases x with
  | non=>cases c;exact SeqAt.EqAt.str_none a t'
  | bl b=>cases c;exact SeqAt.EqAt.str_bool a t' b
  | int b=>obtain⟨t,rfl⟩:=c;exact Lh a t' b t
  | str b=>obtain⟨t,rfl⟩:=c;exact SeqAt.EqAt.str_str a t' b t
  | _=>exact absurd (show false=true from e) JC
 | _=>exact absurd (show false=true from f) JC
def eqU(x:V)(u:av):Bool:=match u with
 | .none=>eqV .non x
 | .bool b=>eqV (.bl b) x
 | .int i _=>eqV (.int i) x
 | .str z _=>eqV (.str z) x
 | _=>false
def Ac(r:bD y u)(f:k8 y=true):eqU x u=eqV y x:=by
 cases y with
 | non=>cases r;rfl
 | bl b=>cases r;rfl
 | int i=>obtain⟨t,rfl⟩:=r;rfl
 | str z=>obtain⟨t,rfl⟩:=r;rfl
 | _=>exact absurd (show false=true from f) JC
theorem jJ:∀{xs:List V}{us:List av},aW xs us->xs.all k8=true->us.any (eqU x)=xs.any λy=>eqV y x
 | _,_,.nil,_=>rfl
 | y::xs,u::us,.cons r t,f=>by
  rw[Mq,JT] at f;rw[Kx,Kx,Ac r f.1,jJ t f.2]
theorem gy(b:bD x v)(c:k8 x=true):∀{xs:List V}{us:List av},aW xs us->xs.all k8=true->∀u∈us,r2 A s u v (eqU x u)
 | _,_,.nil,_=>λu a=>by cases a
 | y::xs,u::us,.cons r t,f=>λd a=>by
  rw[Mq,JT] at f;rcases Jo.mp a with rfl|a
  .rw[Ac r f.1];exact E8 r b f.1 c
  .exact gy b c t f.2 d a
def inV(x:V)(xs:List V):Bool:=xs.any λy=>eqV y x
def rIn(K:cb)(neg:Bool):R2:=λx y H Q=>∃p xs,y=.ref p/\(SqL K H p xs\/SqT K H p xs)/\k8 x=true/\xs.all k8=true/\Q (.bl (if neg then !inV x xs else inV x xs)) H
def ve:OpR X (k0 .In) (rIn X.K false):=by
 intro pins s σ H x y v u Q I a c h;obtain⟨p,xs,rfl,hq,b,fs,q⟩:=h;cases c;rcases hq with hq|hq
 .obtain⟨its,r,pl,hz⟩:=I.list hq;refine SeqAt.in_listAt (eqU x) pl.isList (λw hw=>gy a b r fs w (by simpa using hw)) ⟨.bl _,H,I,rfl,?_⟩;rw[show its.toArray.any (eqU x)=its.any (eqU x) by simp,jJ r fs];exact q
 .obtain⟨its,r,pl,hz⟩:=I.tuple hq;refine SeqAt.in_tupleAt (eqU x) pl (λw hw=>gy a b r fs w (by simpa using hw)) ⟨.bl _,H,I,rfl,?_⟩;rw[show its.toArray.any (eqU x)=its.any (eqU x) by simp,jJ r fs];exact q
def mq:OpR X (k0 .NotIn) (rIn X.K true):=by
 intro pins s σ H x y v u Q I a c h;obtain⟨p,xs,rfl,hq,b,fs,q⟩:=h;cases c;rcases hq with hq|hq
 .obtain⟨its,r,pl,hz⟩:=I.list hq;refine SeqAt.notIn_listAt (eqU x) pl.isList (λw hw=>gy a b r fs w (by simpa using hw)) ⟨.bl _,H,I,rfl,?_⟩;rw[show its.toArray.any (eqU x)=its.any (eqU x) by simp,jJ r fs];exact q
 .obtain⟨its,r,pl,hz⟩:=I.tuple hq;refine SeqAt.notIn_tupleAt (eqU x) pl (λw hw=>gy a b r fs w (by simpa using hw)) ⟨.bl _,H,I,rfl,?_⟩;rw[show its.toArray.any (eqU x)=its.any (eqU x) by simp,jJ r fs];exact q
def nH:eJ X (.builtin "len") (λxs H Q=>∃p ys,xs=[.ref p]/\(SqL X.K H p ys\/SqT X.K H p ys)/\Q (.int ys.length) H):=by
 intro pins s σ H xs us Q I r h;obtain⟨p,ys,rfl,hq,q⟩:=h;obtain⟨u,rfl,c⟩:=gK r;cases c;have hn:=kc;rcases hq with hq|hq
 .obtain⟨its,b,pl,hz⟩:=I.list hq;have a:=b.length;exact Calls.call_len_list pl.isList (by simp only[Jw] <;> omega) ⟨.int ys.length,H,I.tok _,⟨s.toks+1,by rw[Jw,a]⟩,q⟩
 .obtain⟨its,b,pl,hz⟩:=I.tuple hq;have a:=b.length;exact len_tuple pl (by simp only[Jw] <;> omega) ⟨.int ys.length,H,I.tok _,⟨s.toks+1,by rw[Jw,a]⟩,q⟩
def nG:eJ X (.type "list") (λxs H Q=>∃p ys,xs=[.ref p]/\(SqL X.K H p ys\/SqT X.K H p ys)/\∀l,H l=none->Q (.ref l) (upd H l (.lst ys))):=by
 intro pins s σ H xs us Q I r h;obtain⟨p,ys,rfl,hq,q⟩:=h;obtain⟨u,rfl,d⟩:=gK r;cases d;have fin:∀(its:List av),aW ys its->ys.length<=sizeLine->∀(h':bg) (c':Nat),(∀b o',s.heap.get? b=some o'->h'.get? b=some o') ->
   h'.get? s.heap.objs.size=some { cls:=.type "list",dict:=none,data:=.seq its.toArray c',slots:=#[] }->EP X pins σ Q (.ref s.heap.objs.size) { s with heap:=h' }:=λits a hz h' c' kp e =>
  ⟨.ref s.heap.objs.size,_,I.laid (t':=s.toks) kp (Jx _) (show ft X.prog X.w _ h' _ (.lst ys) from⟨hz,its,c',a,e⟩),rfl,q _ (I.hok.fresh (Jx _))⟩
 rcases hq with hq|hq
 .obtain⟨its,a,pl,hz⟩:=I.list hq;have c:=a.length;obtain⟨o,ho,hc,n,hd⟩:=pl.isList;exact call_list_seq p (.inl rfl) ho hc hd (λh' c' kp e=>fin its a hz h' c' kp e) (by simp only[Jw] <;> omega)
 .obtain⟨its,a,pl,hz⟩:=I.tuple hq;have c:=a.length;obtain⟨o,ho,hc,n,hd⟩:=pl;exact call_list_seq p (.inr rfl) ho hc hd (λh' c' kp e=>fin its a hz h' c' kp e) (by simp only[Jw] <;> omega)
def lD:eJ X (.type "tuple") (λxs H Q=>∃p ys,xs=[.ref p]/\((SqL X.K H p ys/\∀l,H l=none->Q (.ref l) (upd H l (.tup ys)))\/(SqT X.K H p ys/\Q (.ref p) H))):=by
 intro pins s σ H xs us Q I r h;obtain⟨p,ys,rfl,h⟩:=h;obtain⟨u,rfl,f⟩:=gK r;cases f;rcases h with⟨hq,q⟩|⟨hq,q⟩
 .obtain⟨its,a,pl,hz⟩:=I.list hq;have c:=a.length;refine call_tuple_list pl.isList (λh' kp=>?_) (by simp only[Jw] <;> omega);have d:Inv X pins σ H { s with heap:=h' }:=I.kept (t':=s.toks) kp;have g:Inv X pins σ (upd H h'.objs.size (.tup ys)) { s with heap:=h'.push { cls:=.type "tuple",data:=.seq its.toArray } } :=
   d.laid (t':=s.toks) (λb o e=>Jn _ e) (Jx _) (show ft X.prog X.w _ _ _ (.tup ys) from⟨hz,its,a,wU.new _ _⟩)
  exact⟨.ref h'.objs.size,_,g,rfl,q _ (d.hok.fresh (Jx _))⟩
 .obtain⟨its,a,pl,hz⟩:=I.tuple hq;exact call_tuple_same pl ⟨.ref p,H,I,rfl,q⟩
def tyV(K:cb)(T:String)(x:V)(H:Hp):Prop:=match x with
 | .str _=>T = "str"
 | .int _=>T = "int"
 | .ref p=>(T = "list" /\ ∃xs,SqL K H p xs)\/(T = "tuple" /\ ∃xs,SqT K H p xs) \/
   (T = "dict" /\ ((∃kvs,H p=some (.dK kvs))\/∃kvs,H p=some (.dT kvs)))\/(T = "set" /\ ∃S n,H p=some (.set S n))
 | _=>False
def zm{pins:List (ao×Obj)}{σ:St}{H:Hp}{s:az}{T:String}{x:V}{v:av}(I:Inv X pins σ H s)(r:bD x v)(ty:tyV X.K T x H) :
  s.TypeIs v T/\∀a,v=.ref a->∃ob,s.heap.get? a=some ob/\ob.dict=none:=by
 cases x with
 | str z =>
  obtain⟨t,rfl⟩:=r;cases (show T = "str" from ty);exact⟨typeIs_str s z t,λ_ e=>nomatch e⟩
 | int i =>
  obtain⟨t,rfl⟩:=r;cases (show T = "int" from ty);exact⟨typeIs_int s i t,λ_ e=>nomatch e⟩
 | ref p =>
  cases r;rcases ty with⟨rfl,xs,hq⟩|⟨rfl,xs,hq⟩|⟨rfl,hk⟩|⟨rfl,S,n,hk⟩
  .obtain⟨its,_,pl,_⟩:=I.list hq;refine⟨pl.isList.typeIs,λa e=>?_⟩;cases e;obtain⟨o,n,e,c,hd,_⟩:=pl;exact⟨o,e,hd⟩
  .obtain⟨its,_,o,e,hc,_,hd⟩:=I.tupleN hq;refine⟨⟨o,e,hc⟩,λa b=>?_⟩;cases b;exact⟨o,e,hd⟩
  .have z:∃o,s.heap.get? p=some o/\o.ExactDict:=by
    rcases hk with⟨kvs,hk⟩|⟨kvs,hk⟩
    .obtain⟨_,_,_,_,o,_,_,e,ex,_⟩:=I.hok p _ hk;exact⟨o,e,ex⟩
    .obtain⟨_,_,_,_,o,_,_,e,ex,_⟩:=I.hok p _ hk;exact⟨o,e,ex⟩
   obtain⟨o,e,ex⟩:=z;refine⟨⟨o,e,ex.1⟩,λa e2=>?_⟩;cases e2;exact⟨o,e,ex.2.1⟩
  .obtain⟨o,_,_,_,e,ex,_⟩:=I.hok p _ hk;refine⟨⟨o,e,ex.1⟩,λa e2=>?_⟩;cases e2;exact⟨o,e,ex.2.1⟩
 | _=>exact False.elim ty
def HC(K:cb)(T:String)(r:V->List V->Hp->VK->Prop)(to:TE):TE:=λσ H Q=>to σ H λx H1=>tyV K T x H1/\r x [] H1 Q
def tBM(K:cb)(T:String)(r:V->List V->Hp->VK->Prop)(to:TE)(t:TA):TE:=λσ H Q=>to σ H λx H1=>tyV K T x H1/\t σ H1 λxs H2=>r x xs H2 Q
variable {o e:bb}{es:List bb}{to:TE}{t:TA}{name:bt}{apos cpos:Pos}{T id:String}{r:V->List V->Hp->VK->Prop}
def Ee(g:Q8 T)(slot:Slot T name id)(c:Z0 (.builtin id)=pure (.type "method_descriptor"))(i:MtR X id r)(ho:PE X o to)
  (a:qb o name X.env (eval o X.env)=eval o X.env:=by rfl) (b:(apos.endLine==cpos.line)=true:=by rfl):PE X (.Call (.Attribute o name apos) [] [] cpos) (HC X.K T r to):=by intro pins s σ H Q I h;refine wpAny_Call_method0_late a b (thn (ho pins s σ H _ I h) λv s1 d=>?_);obtain⟨x,H1,e,f,ty,q1⟩:=d;obtain⟨h1,h2⟩:=zm e f ty;exact⟨T,id,g,slot,c,h1,h2,Calls.callWith_builtin rfl (PySem.evalArgs_none (i pins s1 σ H1 x [] v [] Q e f .nil q1))⟩
def Ef(k:Q8 T)(slot:Slot T name id)(f:Z0 (.builtin id)=pure (.type "method_descriptor"))(l:MtR X id r)(ho:PE X o to)(m:PA X (e::es) t)
  (b:qb o name X.env (eval o X.env)=eval o X.env:=by rfl)
  (d:((k6 cpos (j1 (e::es) X.env)).all (λx=>!x.1)&&(Qy cpos (Qi [] X.env)).all (λx=>x.1.isSome)
   && decide ((e::es).length+([]:List Qd).length+(if ([]:List Qd).isEmpty then 0 else 1)<30))=true:=by rfl)
  (c:(apos.endLine==cpos.line)=true:=by rfl) (n:j1 (e::es) X.env=(false,eval e X.env)::j1 es X.env:=by rfl) (a:(k6 cpos (j1 es X.env)).any (·.1)=false:=by rfl) :
  PE X (.Call (.Attribute o name apos) (e::es) [] cpos) (tBM X.K T r to t):=by intro pins s σ H Q I h;refine Q6 b d c rfl (thn (ho pins s σ H _ I h) λv s1 g=>?_);obtain⟨x,H1,i,j,ty,q1⟩:=g;obtain⟨h1,h2⟩:=zm i j ty;refine⟨T,id,k,slot,f,h1,h2,?_⟩;have hA:=m cpos pins s1 σ H1 _ i q1;rw[n] at hA ⊢;refine Calls.callWith_builtin (by show(false || (k6 cpos (j1 es X.env)).any (·.1))=false;rw[a] <;> rfl) (Calls.evalArgs_plain ?_);exact thn hA λus s2 ⟨vs,H2,p,q,q2⟩=>l pins s2 σ H2 x vs v us Q p j q q2
end
def MtM(X:Cx)(id:String)(r:V->List V->Hp->VK->Prop):Prop :=
 ∀(pins:List (ao×Obj)) (s:az) (σ:St) (H:Hp) (x:V) (xs:List V) (v:av) (us:List av) (Q:VK),Inv X pins σ H s->bD x v->aW xs us->r x xs H Q ->
  j4 (kw X.prog X.w) X.A (call (.builtin id) (v::us)) (EP X pins σ Q) X.xe s
def aW.consI(h:aW (x::xs) us):∃u vs,us=u::vs/\bD x u/\aW xs vs:=by
 cases h with
 | cons r q=>exact⟨_,_,rfl,r,q⟩
def aW.zero(h:aW [] us):us=[]:=by cases h;rfl
def aW.one(h:aW [x] us):∃u,us=[u]/\bD x u:=by obtain⟨u,vs,rfl,r,q⟩:=h.consI;rw[aW.zero q];exact⟨u,rfl,r⟩
theorem aW.dropLast(h:aW xs us):aW xs.dropLast us.dropLast:=by
 induction h with
 | nil=>exact .nil
 | cons r t a =>
  cases t with
  | nil=>exact .nil
  | cons q t'=>exact .cons r a
theorem aW.eraseIdx:∀{xs:List V}{us:List av} (i:Nat),aW xs us->aW (xs.eraseIdx i) (us.eraseIdx i)
 | _,_,_,.nil=>.nil
 | _,_,0,.cons _ t=>t
 | _,_,i+1,.cons r t=>.cons r (aW.eraseIdx i t)
theorem aW.reverse(h:aW xs us):aW xs.reverse us.reverse:=by
 induction h with
 | nil=>exact .nil
 | cons r t a=>rw[Kf,Kf];exact aW.append a (.cons r .nil)
def tm{α:Type}(l:List α):l.eraseIdx (l.length - 1)=l.dropLast:=by
 induction l with
 | nil=>rfl
 | cons a r c =>
  cases r with
  | nil=>rfl
  | cons b r =>
   have e:(a::b::r).length - 1=((b::r).length - 1)+1:=by have h1:(a::b::r).length=r.length+2:=rfl;have h2:(b::r).length=r.length+1:=rfl;omega
   rw[e,List.eraseIdx_cons_succ,c]
   all_goals rfl
theorem mO{α:Type}:∀(l:List α) (i:Nat),(l.eraseIdx i).length<=l.length
 | [],_=>Jx _
 | _::_,0=>Ku _
 | _::r,i+1=>Nat.succ_le_succ (mO r i)
section
variable {X:Cx}{pins:List (ao×Obj)}{σ:St}{H:Hp}{s:az}{l:ao}{xs ys:List V}
def Inv.lset{its its':List av}(I:Inv X pins σ H s)(a:H l=some (.lst xs))
  (e : s.heap.get? l=some { cls:=.type "list",data:=.seq its.toArray n }) (b:f its.toArray=its'.toArray) (hv:aW ys its') (hz:ys.length<=sizeLine) :
  Inv X pins σ (upd H l (.lst ys)) { s with heap:=s.heap.update l (ef f),toks:=t' }:=by have q:=PySem.IsL.update e f;rw[b] at q;refine I.write (x:=l) (e:=l) (by rw[a];exact trivial) (.inl rfl) (λg u c d=>(JU s.heap (ef f) (Ne.symm c)).trans d) ⟨_,q⟩ ?_;exact⟨hz,its',_,hv,q⟩
def Inv.lnew(I:Inv X pins σ H s)(hv:aW ys its)(hz:ys.length<=sizeLine) :
  Inv X pins σ (upd H s.heap.objs.size (.lst ys)) { s with heap:=s.heap.push { cls:=.type "list",data:=.seq its.toArray },toks:=t' } :=
 I.laid (λ_ _ q=>Jn _ q) (Jx _) ⟨hz,its,0,hv,JA _ rfl⟩
theorem Inv.fresh(I:Inv X pins σ H s):H s.heap.objs.size=none:=I.hok.fresh (Jx _)
def Inv.lstM(I:Inv X pins σ H s)(a:H l=some (.lst xs)):xs.length<=sizeLine/\∃(its:List av) (n:Nat),aW xs its/\xs.length=its.length/\s.heap.get? l=some { cls:=.type "list",data:=.seq its.toArray n }:=by obtain⟨z,its,n,r,e⟩:=I.hok l _ a;exact⟨z,its,n,r,r.length,e⟩
def xV(h:n<=sizeLine):no n=false:=by unfold no;exact decide_eq_false (!0)
end
section
def uE:V->List V->Hp->VK->Prop:=λx vs H Q=>∃l xs y,x=.ref l/\vs=[y]/\H l=some (.lst xs)/\xs.length<sizeLine/\Q .non (upd H l (.lst (xs++[y])))
def jy:MtM X "list.append" uE:=by intro pins s σ H x vs v us Q I b rv h;obtain⟨l,xs,y,rfl,rfl,a,hz,q⟩:=h;cases b;obtain⟨u,rfl,c⟩:=rv.one;obtain⟨z,its,n,r,d,e⟩:=I.lstM a;refine QP F.slot_list_append ⟨_,e,rfl⟩ F.entry_list_append (F.args_list_append_2 _ _) (PySem.list_append l its.toArray n u (by rw[Jw];omega)) ⟨e,?_⟩;refine⟨.non,_,I.lset (its':=its++[u]) a e (!1) (r.append (.cons c .nil)) ?_,rfl,q⟩;rw[Jz,JP];omega
def AY:V->List V->Hp->VK->Prop:=λx vs H Q=>∃l b xs a,x=.ref l/\vs=[.ref b]/\H l=some (.lst xs)/\H b=some (.lst a)/\xs.length+a.length<=sizeLine/\Q .non (upd H l (.lst (xs++a)))
def vn:MtM X "list.extend" AY:=by
 intro pins s σ H x vs v us Q I f rv h;obtain⟨l,b,xs,m,rfl,rfl,d,hB,hz,q⟩:=h;cases f;obtain⟨u,rfl,g⟩:=rv.one;cases g;obtain⟨z,its,n,r,o,e⟩:=I.lstM d;obtain⟨z2,a,i,j,k,e2⟩:=I.lstM hB;have hsz:its.toArray.size+a.toArray.size<=sizeLine:=by rw[Jw,Jw];omega
 have c:¬(!its.toArray.isEmpty&&no (its.toArray.size+a.toArray.size))=true:=by rw[xV hsz,Bool.and_false];exact JC
 refine QP F.slot_list_extend ⟨_,e,rfl⟩ F.entry_list_extend (F.args_list_extend_2 _ _)
  (AutoSeq1.list_extend_list_list_0 l its.toArray n b a.toArray i c (by rw[Jw];omega) (!0)) ⟨e,e2,?_⟩
 refine⟨.non,_,I.lset (its':=its++a) d e (!1) (r.append j) ?_,rfl,q⟩;rw[Jz];omega
def IF:V->List V->Hp->VK->Prop:=λx vs H Q=>∃l xs y,x=.ref l/\vs=[]/\H l=some (.lst xs)/\xs[xs.length - 1]? = some y/\Q y (upd H l (.lst xs.dropLast))
def zU:MtM X "list.pop" IF:=by
 intro pins s σ H x vs v us Q I d rv h;obtain⟨l,xs,y,rfl,rfl,c,f,q⟩:=h;cases d;have a:=rv.zero;subst a;obtain⟨z,its,n,r,g,e⟩:=I.lstM c;obtain⟨u,i,j⟩:=r.get f;have b:its.toArray[its.toArray.size - 1]? = some u:=by show its.toArray[its.length - 1]? = some u;rw[<-Lx,<-g];exact i
 refine QP F.slot_list_pop ⟨_,e,rfl⟩ F.entry_list_pop (F.args_list_pop_1 _) (MeetsSeq.list_pop_last l its.toArray n u b (by rw[Jw];omega)) ⟨e,?_⟩;refine⟨y,_,I.lset (its':=its.dropLast) c e ?_ r.dropLast ?_,j,q⟩
 .show its.toArray.eraseIdxIfInBounds (its.toArray.size - 1)=its.dropLast.toArray;rw[Jw,t7,tm]
 .rw[List.length_dropLast];omega
def DB:V->List V->Hp->VK->Prop:=λx vs H Q=>∃l xs i k y,x=.ref l/\vs=[.int i]/\H l=some (.lst xs)/\-(2 ^ 63)<=i/\i<2 ^ 63/\ZC i xs.length=some k/\xs[k]? = some y/\Q y (upd H l (.lst (xs.eraseIdx k)))
def qY:MtM X "list.pop" DB:=by
 intro pins s σ H x vs v us Q I c rv h;obtain⟨l,xs,i,k,y,rfl,rfl,b,h1,h2,hk,d,q⟩:=h;cases c;obtain⟨u,rfl,f⟩:=rv.one;obtain⟨t,rfl⟩:=f;obtain⟨z,its,n,r,g,e⟩:=I.lstM b;obtain⟨w,hw,a⟩:=r.get d;refine QP F.slot_list_pop ⟨_,e,rfl⟩ F.entry_list_pop (F.args_list_pop_2 _ _)
  (MeetsSeq.list_pop_at l its.toArray n i t k w (fitsIndex_both h1 h2) (by rw[Jw,<-g];exact hk) (by rw[<-Lx];exact hw) (by rw[Jw];omega)) ⟨e,?_⟩
 refine⟨y,_,I.lset (its':=its.eraseIdx k) b e ?_ (r.eraseIdx k) ?_,a,q⟩
 .show its.toArray.eraseIdxIfInBounds k=(its.eraseIdx k).toArray;rw[t7]
 .have:=mO xs k;omega
def xE:V->List V->Hp->VK->Prop:=λx vs H Q=>∃l xs,x=.ref l/\vs=[]/\H l=some (.lst xs)/\Q .non (upd H l (.lst xs.reverse))
def sS:MtM X "list.reverse" xE:=by intro pins s σ H x vs v us Q I c rv h;obtain⟨l,xs,rfl,rfl,b,q⟩:=h;cases c;have a:=rv.zero;subst a;obtain⟨z,its,n,r,d,e⟩:=I.lstM b;refine QP F.slot_list_reverse ⟨_,e,rfl⟩ F.entry_list_reverse (F.args_list_reverse_1 _) (AutoSeq1.list_reverse_list_0 l its.toArray n (by rw[Jw];omega)) ⟨e,?_⟩;refine⟨.non,_,I.lset (its':=its.reverse) b e (!1) r.reverse ?_,rfl,q⟩;rw[Kg];omega
end
end _L
namespace Att
open PySem PySem.W PySem.Calls PyProof.Rows
def jB:∀(c:List Int) (vs:List av),WellAll P h vs (c.map WData.int)->Z7 vs c:=by
 intro c
 induction c with
 | nil =>
  intro vs w;rw[Kv] at w;cases w;exact .nil
 | cons n c d =>
  intro vs w;rw[Jr] at w;cases w with
  | cons a b =>
   cases a;exact .cons _ _ (d _ b)
def uu{l:OpenLaw}(hn:l.most=some n){h:bg}
  (c:l.row.toRowW.claim.pre args=true) (g:WellAll P h vals args) :
  ∃a vs b,vals=[cn a]/\args=[WData.list (b.map WData.int)]/\h.get? a=some { cls:=.type "list",data:=.seq vs.toArray }/\Z7 vs b/\b.length<=n:=by
 have i:WShape.hasAll [] args [.list .int]=true:=(pre_splitW c).1;have hc:l.pre.holds [] { args:=args }=true:=(pre_splitW c).2;obtain⟨d,r,rfl,h1,h2⟩:=hasAllW_cons i;obtain rfl:=hasAllW_nil h2;obtain⟨xs,rfl,h3⟩:=hasW_list h1;obtain⟨b,rfl⟩:=items_int h3;have e:b.length<=n:=by
  unfold OpenLaw.pre at hc;have h4:(WTm.not (.lt (.lit (.int (n:Int))) (.len (.arg 0)))).holds [] { args:=[.list (b.map .int)] }=true:=by have h4:=(holds_andW hc).1;rw[hn] at h4;exact h4
  have h5:=condW_of h4 (w_not (w_lt w_lit (w_len_list (w_arg rfl))));rw[Je] at h5;refine Md λq=>?_;have q':(n:Int)<((b.length:Nat):Int):=!0
  first
   | (rw[decide_eq_true q'] at h5;exact absurd h5 (!2))
   | (simp at h5;omega)
 cases g with
 | cons j k =>
  cases k;cases j with
  | list ho f=>exact⟨_,_,b,rfl,rfl,ho,jB b _ f,e⟩
def uQ(l:OpenLaw)(args:List WData):l.row.toRowW.claim.post args (.bool true) args=true :=
 postW_of (r:=l.row.toRowW) (X:=(true==true))
  (show WShape.has [] (.bool true) .bool=true by first|rfl|decide|simp[WShape.has,WShape.arms,WShape.armsAll])
  (show(WTm.eq .res (.lit (.bool true))).value [] { args:=args,res:=some (.bool true),after:=args }=some (.bool (true==true)) from w_eq_bool (w_res rfl) w_lit) rfl
def attach_call{l:OpenLaw}{d:DefRec}
  (hn:l.most=some n) (k:d.params.defaults=[])
  (call:∀(w:k3) (s₀ b:az) (mg mb:bt->Option av) (fa:ao) (o:Obj) (pm cd doc:av) (a:ao) (vs:List av) (j:List Int),
   Ground q c [] t w s₀ mg mb b.heap->u w b.heap ->
   b.heap.get? fa=some o->o.data=.func (docDef d.name d.params d.body d.scope pm cd doc)->b.heap.CodeRec cd d.name->mg d.name=some (.ref fa) ->
   b.heap.get? a=some { cls:=.type "list",data:=.seq vs.toArray }->Z7 vs j->j.length<=n->b.gens=#[] ->
   Qv (kw l.prog w) Zw (.call (.ref fa) ⟨[.ref a],[]⟩) (λr s'=>r=.ok (.ret (.bool true))/\OldK b.heap s'.heap/\s'.os=b.os/\Q9 s'.gens) b) :
  WalkO q c t u l.row.toRowW d [] (λf vs=>B2 f vs):=by intro w s₀ b mg mb G Y fa o pm cd doc x kV ho hd m hD p hg args vals as g v y s z;obtain rfl:x=.none:=Dflts.none hD k;obtain rfl:kV=.none:=Dflts.noKw hD;obtain⟨a,vs,j,rfl,rfl,h,e,i⟩:=uu hn g s;refine enter_call (Zv (call w s₀ b mg mb fa o pm cd doc a vs j G Y ho (fd_plain hd) m p h e i hg) λr s' hq=>?_);obtain⟨rfl,h2,h3,h4⟩:=hq;exact⟨.inl ⟨.bool true,.bool true,[],rfl,λ_=>rfl,.bool true,uQ l _,λ_=>⟨I7,λ_ A=>(nomatch A)⟩⟩,h2,h3,h4⟩
end Att
namespace _L
open PySem PySem.Spec PyProof.Rows
theorem lP:∀{vs:List av}{a:List Int},Z7 vs a->aW (a.map V.int) vs
 | _,_,.nil=>.nil
 | _,_,.cons n t h=>.cons ⟨t,rfl⟩ (lP h)
def Hr(H:Hp):Prop:=∀b,H b=none\/(∃o xs,H b=some (.frz o (.lst xs)))\/∃q,H b=some (.tbl q)
def yo{K:cb}{f:az}{vs:List av}{C:List Int}{tb:List (ao×bt)}
  (hT:∀b q,tb.lookup b=some q->f.heap.get? b=some { cls:=.none,data:=.fields #[] }/\K.lookup b=none/\∃c,f.heap.TableAt c b #[]) (N:∀T q,jK K T q->tb.lookup T=some q)
  (Z:K.In f.heap) (D:f.heap.Ns kq mg) (i:f.heap.Ns Qx mb) (O:∀x:bt,x ≠ "__name__" -> mb x=QJ x) (E:f.heap.NoLimit) (Q:∃bm ob,mg "__builtins__" = some (.ref bm)/\bm≠Qx/\f.heap.get? bm=some ob/\ob.cls=.type "module" /\ ob.dict=some Qx/\ob.data=.plain) (hg:f.gens=#[])
  (A:f.heap.get? a=some { cls:=.type "list",data:=.seq vs.toArray }) (hi:Z7 vs C) (hl:C.length<=sizeLine) (hr:eM k Zw)
  (F : ∀base:bg,K.In base->base.Ns kq mg->ca P w K mg base CX k fa fd [x] sp) (B:∀(s:az) (u:av),Zl s fd ⟨[u],[]⟩ [(x,u)])
  (R:∀H:Hp,Hr H->SqL K H a (C.map V.int)->sp [.ref a] H (λv _=>v=.bl true) λ_ _ _=>False)
  (S:∀H e s',CX [] H f (λ_ _ _=>False) e s'->False) :
  Qv (kw P w) Zw (.call (.ref fa) ⟨[.ref a],[]⟩) (λr s'=>r=.ok (.ret (.bool true))/\OldK f.heap s'.heap/\s'.os=f.os/\Q9 s'.gens) f:=by
 have rv:=lP hi;have G:=hi.length;have t:∀H:Hp,Hr H->SqL K H a (C.map V.int)->HOk P w H f.heap->(∀b u,H b=some u->(b=a/\K.lookup a=none)\/∃q,tb.lookup b=some q/\u=.tbl q)->(∀b q,tb.lookup b=some q->H b=some (.tbl q)) ->
   Qv (kw P w) Zw (.call (.ref fa) ⟨[.ref a],[]⟩) (λr s'=>r=.ok (.ret (.bool true))/\OldK f.heap s'.heap/\s'.os=f.os/\Q9 s'.gens) f:=by
  intro H hO hS hok hA hB;have g:∀{b:ao}{o:Obj},f.heap.get? b=some o->H b=none->(wT f.heap H).get? b=some o:=λe n=>yB e n;have U:∀{b:ao}{o:Obj}{es:Array QW}{ep:Nat},f.heap.get? b=some o->o.data=.dict es ep->H b=none:=λ{b o es ep} e d=>by
   cases q:H b with
   | none=>rfl
   | some u =>
    rcases hA b u q with⟨j,_⟩|⟨q',j,_⟩
    .subst j;rw[A] at e;cases e;have d':Data.seq vs.toArray _=Data.dict es ep:=d;cases d'
    .rw[(hT b q' j).1] at e;cases e;have d':Data.fields _=Data.dict es ep:=d;cases d'
  have l:∀{b:ao}{m:bt->Option av},f.heap.Ns b m->(wT f.heap H).Ns b m:=λ{b m} ⟨o,es,ep,e,d,r⟩=>⟨o,es,ep,g e (U e d),d,r⟩
  have I:K.In (wT f.heap H):=λb o e=>g (Z b o e) (by
   cases q:H b with
   | none=>rfl
   | some u =>
    rcases hA b u q with⟨j,hk⟩|⟨q',j,_⟩
    .subst j;rw[hk] at e;cases e
    .rw[(hT b q' j).2.1] at e;cases e)
  have J:∃bm ob,mg "__builtins__" = some (.ref bm)/\bm≠Qx/\(wT f.heap H).get? bm=some ob/\ob.cls=.type "module" /\ ob.dict=some Qx/\ob.data=.plain:=by
   obtain⟨bm,ob,b1,b2,L,b4,b5,X⟩:=Q;refine⟨bm,ob,b1,b2,g L ?_,b4,b5,X⟩;cases q:H bm with
   | none=>rfl
   | some u =>
    rcases hA bm u q with⟨j,_⟩|⟨q',j,_⟩
    .subst j;rw[A] at L;cases L;cases X
    .rw[(hT bm q' j).1] at L;cases L;cases X
  have hM:Mod K mg (wT f.heap H):=⟨I,l D,⟨mb,l i,O⟩,let ⟨mc,h1,h2⟩:=E;⟨mc,l h1,h2⟩,J⟩
  have M:wV P w K mg (wT f.heap H) Zw [] f H:=⟨rfl,hM,λb o e=>BH e,Nat.le_of_eq (vG _ _),trivial,λb i=>absurd (show b∈([]:List ao) from i) (!1),hok,.of_eq hg,λT q h=>hB T q (N T q h)⟩
  refine Zv ((F _ I (l D)).run Zw [] f H ⟨[.ref a],[]⟩ [.ref a] [.ref a] _ _ hr M (B f (.ref a)) (.cons rfl .nil) (R H hO hS)) λr s' h=>?_;cases r with
  | error e=>exact(S H e s' h).elim
  | ok fl =>
   cases fl with
   | next=>exact False.elim h
   | brk=>exact False.elim h
   | cont=>exact False.elim h
   | ret u =>
    obtain⟨v,H',os,bare,un,y,r',q⟩:=h;have q':v=.bl true:=q;subst q';obtain rfl:u=hI true:=r';refine⟨rfl,⟨λb o e=>?_,λb o e=>un.there b o e (!1)⟩,os,bare⟩;cases q:H b with
    | none=>exact .inl (un.keep b o e q (by intro z;exact absurd (show b∈([]:List ao) from z) (!1)) (!1))
    | some u =>
     rcases hO b with z|⟨ob,xs,z⟩|⟨q',z⟩
     .rw[q] at z;cases z
     .have z2:=un.frzs b ob _ z;obtain⟨e1,_⟩:=hok b _ z;obtain⟨e2,_⟩:=y b _ z2;rw[e] at e1;cases e1;exact .inl e2
     .obtain⟨ps,e2,_⟩:=y b _ (un.tbls b q' z);rcases hA b _ z with⟨j,_⟩|⟨q2,j,_⟩
      .obtain⟨a0,M,_⟩:=hok b _ z;subst j;rw[A] at M;cases M
      .obtain⟨t1,_,c,t2⟩:=hT b q2 j;rw[e] at t1;cases t1;exact .inr (.inl ⟨t2.isCodeTable,rfl,#[],ps,rfl,by simpa using e2⟩)
 cases hk:K.lookup a with
 | some o =>
  have e:=Z a o hk;rw[A] at e;cases e;refine t (λb=>(tb.lookup b).map .tbl) (λb=>?_) (.inr ⟨_,vs.toArray,_,hk,rfl,rfl,rfl,by rw[Jw,G];exact hl,by simpa using rv⟩) (λb u z=>?_) (λb u z=>?_) λb q z=>by show(tb.lookup b).map HO.tbl=_;rw[z];rfl
  .cases z:tb.lookup b with
   | none=>exact .inl (by show(tb.lookup b).map HO.tbl=_;rw[z];rfl)
   | some q=>exact .inr (.inr ⟨q,by show(tb.lookup b).map HO.tbl=_;rw[z];rfl⟩)
  .have z:(tb.lookup b).map HO.tbl=some u:=z;cases q:tb.lookup b with
   | none=>rw[q] at z;cases z
   | some q' =>
    rw[q] at z;cases z;exact⟨#[],(hT b q' q).1,trivial,λpos cv h=>by cases (show(none:Option av)=some cv from h)⟩
  .have z:(tb.lookup b).map HO.tbl=some u:=z;cases q:tb.lookup b with
   | none=>rw[q] at z;cases z
   | some q'=>rw[q] at z;cases z;exact .inr ⟨q',rfl,rfl⟩
 | none =>
  have Y:tb.lookup a=none:=by
   cases z:tb.lookup a with
   | none=>rfl
   | some q =>
    have e:=(hT a q z).1;rw[A] at e;cases e
  have p:∀b,b≠a->(if b=a then some (HO.frz { cls:=.type "list",data:=.seq vs.toArray } (.lst (C.map V.int))) else (tb.lookup b).map .tbl)=(tb.lookup b).map .tbl:=λb i=>MA i;refine t (λb=>if b=a then some (.frz { cls:=.type "list",data:=.seq vs.toArray } (.lst (C.map V.int))) else (tb.lookup b).map .tbl) (λb=>?_) (.inl (.inr ⟨{ cls:=.type "list",data:=.seq vs.toArray },Mz rfl⟩)) (λb u z=>?_) (λb u z=>?_) λb q z=>?_
  .by_cases i:b=a
   .exact .inr (.inl ⟨_,_,Mz i⟩)
   .dsimp only;rw[p b i];cases z:tb.lookup b with
    | none=>exact .inl rfl
    | some q=>exact .inr (.inr ⟨q,rfl⟩)
  .by_cases i:b=a
   .have z':=(Mz i).symm.trans z;cases z';subst i;exact⟨A,by rw[Je];exact hl,vs,_,rv,A⟩
   .have z:(tb.lookup b).map HO.tbl=some u:=(p b i).symm.trans z;cases q:tb.lookup b with
    | none=>rw[q] at z;cases z
    | some q' =>
     rw[q] at z;cases z;exact⟨#[],(hT b q' q).1,trivial,λpos cv h=>by cases (show(none:Option av)=some cv from h)⟩
  .by_cases i:b=a
   .exact .inl ⟨i,hk⟩
   .have z:(tb.lookup b).map HO.tbl=some u:=(p b i).symm.trans z;cases q:tb.lookup b with
    | none=>rw[q] at z;cases z
    | some q'=>rw[q] at z;cases z;exact .inr ⟨q',rfl,rfl⟩
  .have i:b≠a:=λe=>by subst e;rw[Y] at z;cases z
   exact(p b i).trans (by rw[z];rfl)
def AD{l:o0}{n k:Nat}{q:ky}{i:List bt}{I:(bt->Option av)->bg->Prop}{J:k3->bg->Prop}{d:DefRec}{K:Params->cb}{CX:k3->CXT}{sp:k3->Sp}{x:bt}
  (hn:l.most=some n) (hn2:n<=sizeLine) (y:d.params.defaults=[]) (L:eM k Zw)
  (z:∀(w:k3) (s₀:az) (mg mb:bt->Option av) (h:bg),v2 q i [] I w s₀ mg mb h->(K w.params).In h->∃tb:List (ao×bt),(∀b q,tb.lookup b=some q->h.get? b=some { cls:=.none,data:=.fields #[] }/\(K w.params).lookup b=none/\∃c,h.TableAt c b #[])/\∀T q,jK (K w.params) T q->tb.lookup T=some q)
  (hY:∀(w:k3) (h:bg),J w h->(K w.params).In h)
  (F : ∀(w:k3) (mg:bt->Option av) (fa:ao) (h:bg),(K w.params).In h->h.Ns kq mg->mg d.name=some (.ref fa) ->
   ∃fd:ki,(∀(s:az) (u:av),Zl s fd ⟨[u],[]⟩ [(x,u)]) /\
    ∀base:bg,(K w.params).In base->base.Ns kq mg->ca l.prog w (K w.params) mg base (CX w) k fa fd [x] (sp w))
  (A:∀(w:k3) (H:Hp) (a:ao) (t:List Int),t.length<=n->Hr H->SqL (K w.params) H a (t.map V.int)->sp w [.ref a] H (λv _=>v=.bl true) λ_ _ _=>False)
  (B:∀(w:k3) (H:Hp) (s:az) (e:av) (s':az),CX w [] H s (λ_ _ _=>False) e s'->False) :
  LZ q i I J l.row.toRowW d [] (λf vs=>B2 f vs):=by refine Att.attach_call hn y λw s₀ p mg mb fa o pm cd doc a vs t G Y ho hd M C r m j hg=>?_;have D:=hY w _ Y;obtain⟨fd,N,hF⟩:=F w mg fa _ D G.T.g C;obtain⟨tb,hT,E⟩:=z w s₀ mg mb _ G D;exact yo hT E D G.T.g G.T.b G.T.builtins G.T.nolimit G.T.bmain hg r m (Jt j hn2) L hF N (λH hO O=>A w H a t j hO O) λH e s'=>B w H p e s'
def eG(s:Stmt):Zm:=match s with
 | .FunctionDef _ a _ _ _ _ _ _ _ _=>a
 | _=>{ posonlyargs:=[],args:=[],vararg:=none,kwonlyargs:=[],kw_defaults:=[],kwarg:=none,defaults:=[] }
def cE(s:Stmt):List Stmt:=match s with
 | .FunctionDef _ _ b _ _ _ _ _ _ _=>b
 | _=>[]
def ad(s:Stmt):Qn:=match s with
 | .FunctionDef _ _ _ _ _ _ sc _ _ _=>sc
 | _=>{ kind:=.function,names:=[],isGenerator:=false,isCoroutine:=false }
abbrev CX0:CXT:=λ_ _ _ _ _ _=>False
abbrev E0:XK:=λ_ _ _=>False
def Gu:wJ CX0 X E0:=λ_ _ _ _ _ _ _ h=>h.elim
structure Fun(K:cb)(x qual:bt)(st:Stmt)(f:ao)(fd:ki):Prop where
 ex : ∃(oc:av) (od:Option ao) (kV doc pm:av) (an:Option ao) (cdv ct:av) (osl:Array (Option av)),
  fd = gs x qual (eG st) (cE st) (ad st) .none kV doc pm an cdv ct/\K.lookup f=some ⟨oc,od,.func fd,osl⟩/\m3 K cdv qual=true
 kp : mN K (.ref f)=true
section
variable {P:ky}{w:k3}{K:cb}{mg:bt->Option av}{base:bg}
def Fun.ok{x qual:bt}{st:Stmt}{f:ao}{fd:ki}{N ps:List bt}{k:Nat}{sp:Sp}(F:Fun K x qual st f fd)(S:ax N ps (ad st))(len:∀vs H Q E,sp vs H Q E->vs.length=ps.length)
  (a:∀(cdv:av) (A:Around) (outer:List Env) (s:az) (H:Hp) (vs:List V) (Q:VK) (E:XK),eM k (A.deeper (Q3 qual (ad st) s.heap.objs.size f cdv))->sp vs H Q E ->
   ∃t,PSs (tD CX0 P w K mg base N qual (ad st) f cdv A outer s H E).nox (cE st) t/\t { nx:=λ_ H'=>Q .non H',rt:=Q } (start N vs) H):ca P w K mg base CX0 (k+1) f fd ps sp:=by obtain⟨oc,od,kV,doc,pm,an,cdv,ct,osl,rfl,d,b⟩:=F.ex;refine EV d b S len λA outer s H vs Q E e c=>?_;obtain⟨t,h,q⟩:=a cdv A outer s H vs Q E e c;exact⟨t,h.nox,q⟩
def Fun.binds{x qual:bt}{st:Stmt}{f:ao}{fd:ki}{ps:List bt}(F:Fun K x qual st f fd)
  (h : ∀(kV doc pm:av) (an:Option ao) (cdv ct:av) (us:List av),us.length=ps.length->QK (gs x qual (eG st) (cE st) (ad st) .none kV doc pm an cdv ct) ⟨us,[]⟩=pure (ps.zip us)):gH K fd ps []:=by obtain⟨oc,od,kV,doc,pm,an,cdv,ct,osl,rfl,b,a⟩:=F.ex;exact .all (h kV doc pm an cdv ct)
def z7{x qual:bt}{st:Stmt}{f:ao}{oc:av}{od an:Option ao}{osl:Array (Option av)}{kV doc pm cdv ct:av}(l:K.lookup f=some ⟨oc,od,.func (gs x qual (eG st) (cE st) (ad st) .none kV doc pm an cdv ct),osl⟩)
  (c : m3 K cdv qual=true) (k:mN K (.ref f)=true):Fun K x qual st f (gs x qual (eG st) (cE st) (ad st) .none kV doc pm an cdv ct):=⟨⟨oc,od,kV,doc,pm,an,cdv,ct,osl,rfl,l,c⟩,k⟩
end
section
variable {X:Cx}
def pv(i:Nat){x:bt}{pos:Pos}(hN:X.N[i]? = some x:=by rfl)(hv:Vis X.env.scope x:=by first|exact lA rfl|exact di ci|exact di (di rfl))(hd:(x==("__debug__" : bt))=false:=by decide)
  (a:(x==("__classdict__" : bt))=false:=by decide):PE X (.Name x pos) (wR i):=bG hN hv hd a
end
def cw{c A B:Prop} [Decidable c](h1:c->A)(h2:¬c->B):if c then A else B:=by
 by_cases h:c
 .rw[Mz h];exact h1 h
 .rw[MA h];exact h2 h
def be(H H':Hp):Prop:=∀b o,H b=some o->H' b=some o
def be.refl(H:Hp):be H H:=λ_ _ h=>h
def be.trans(a:be H H1)(b:be H1 H2):be H H2:=λc o h=>b c o (a c o h)
def be.seq{K:cb}{H H':Hp}{a:ao}{xs:List V}(e:be H H')(h:SqL K H a xs):SqL K H' a xs:=by
 rcases h with (h|⟨o,h⟩)|h
 .exact .inl (.inl (e _ _ h))
 .exact .inl (.inr ⟨o,e _ _ h⟩)
 .exact .inr h
end _L
set_option maxHeartbeats 4000000
namespace _L
open PySem PySem.Spec PyProof.Rows
def cM(env:Env):List (bt×NameKind)->List (bt×ao)->List (bt×ao)
 | [],a=>a
 | (n,k)::r,a=>if (k==.free)=true then cM env r ((n,(env.cells.lookup n).getD 0)::a) else cM env r a
theorem ib(f:bt×NameKind->List (bt×ao)->Sem (ForInStep (List (bt×ao))))
  (b:∀name kind cs,f (name,kind) cs=if (kind==.free)=true then (do let c <-cellOf env name;pure (.yield ((name,c)::cs))) else pure (.yield cs)) :
  ∀(names:List (bt×NameKind)) (a:List (bt×ao)),(∀y∈names,y.2=.free->(env.cells.lookup y.1).isSome=true)->forIn names a f=(pure (cM env names a):Sem _)
 | [],a,_=>by rw[KJ];rfl
 | (n,k)::r,a,h=>by
  rw[KS,b];unfold cM;by_cases hk:(k==ee)=true
  .rw[Mz hk,Mz hk];obtain⟨c,hc⟩:=J9.mp (h (n,k) Jm (by simpa using hk));have e:cellOf env n=pure c:=by unfold cellOf;rw[hc]
   rw[e,hc];simp only[pure_bind];exact ib f b r _ λy d=>h y (Jq _ d)
  .rw[MA hk,MA hk];simp only[pure_bind];exact ib f b r _ λy d=>h y (Jq _ d)
def lz(h:∀y∈scope.names,y.2=.free->(env.cells.lookup y.1).isSome=true):QO scope env=pure (cM env scope.names []):=by simp only[QO];rw[ib (env:=env) _ (λname kind cs=>by cases hk:kind==ee <;> simp[hk]) scope.names [] h];rfl
theorem cS(env:Env)(x:bt):∀(names:List (bt×NameKind)) (a:List (bt×ao)),(cM env names a).lookup x=if (x,ee)∈names then some ((env.cells.lookup x).getD 0) else a.lookup x
 | [],a=>by simp[cM]
 | (n, k)::r,a=>by
  unfold cM;by_cases hk:(k==ee)=true
  .have c:k=ee:=by simpa using hk
   subst c;rw[Mz hk,cS env x r];by_cases b:(x,ee)∈r
   .rw[Mz b,Mz (Jq _ b)]
   .rw[MA b,J1];by_cases hx:x=n
    .subst hx;simp
    .have e1:(x==n)=false:=beq_eq_false_iff_ne.mpr hx;rw[e1];have e2:¬(x,ee)∈(n,ee)::r:=by
      intro z;rcases Jo.mp z with z|z
      .exact hx (ml z).1
      .exact b z
     rw[MA e2]
  .rw[MA hk,cS env x r];have e2:(x,ee)∈(n,k)::r↔(x,ee)∈r:=by
    constructor
    .intro z;rcases Jo.mp z with z|z
     .exact absurd (by rw[(ml z).2.symm];rfl) hk
     .exact z
    .exact Jq _
   by_cases b:(x,ee)∈r
   .rw[Mz b,Mz (e2.mpr b)]
   .rw[MA b,MA (λz=>b (e2.mp z))]
theorem bM:∀(names:List (bt×NameKind)) (n:Nat) (a:List (bt×ao)),Qa n names a=Qa n names []++a
 | [],n,a=>by simp[Qa]
 | (x,k)::r,n,a=>by
  unfold Qa;split
  .rw[bM r (n+1) ((x,n)::a),bM r (n+1) [(x,n)]];simp
  .exact bM r n a
theorem ck:∀(names:List (bt×NameKind)) (n:Nat) (x:bt) (c:ao),(x,c)∈Qa n names []->(x,ip)∈names/\n<=c
 | [],n,x,c,h=>by simp[Qa] at h
 | (y,k)::r,n,x,c,h=>by
  unfold Qa at h;split at h
  .rename_i hk;rw[bM] at h;rcases Jj.mp h with h|h
   .have q:=ck r (n+1) x c h;exact⟨Jq _ q.1,!0⟩
   .have e:(x,c)=(y,n):=by simpa using h
    cases e;have a:k=ip:=by simpa using hk
    subst a;exact⟨Jm,Jx _⟩
  .have q:=ck r n x c h;exact⟨Jq _ q.1,q.2⟩
theorem aR{α:Type}:∀{l:List (bt×α)}{x:bt}{k:α},(l.map (·.1)).Nodup->(x,k)∈l->l.lookup x=some k
 | (y,j)::r,x,k,nd,h=>by
  rw[J1];rcases Jo.mp h with e|h
  .cases e;simp
  .have a:=JO.mp nd;have this:x≠y:=λz=>a.1 (by
    rw[<-z];exact Jk.mpr ⟨(x,k),h,rfl⟩)
   rw[beq_eq_false_iff_ne.mpr this];exact aR a.2 h
def o9
  (h : Q (newEnv scope s.heap.objs.size globals (Qa (s.heap.objs.size+1) scope.names cl) qual none .none (some env) Qx) { s with heap:=Q5 (s.heap.push { cls:=.type "dict",data:=.dict #[] }) scope.names }) :
  j4 M A (ZQ scope globals cl [] qual none .none (some env)) Q E s:=by simp only[ZQ,Option.isSome_some,if_true];refine jj (wpAny_alloc ?_);refine jj (wpAny_layCells _ (λname kind cells=>by cases hkc:kind==ip <;> simp[hkc]) _ _ _ _ ?_);rw[show({ s with heap:=s.heap.push { cls:=.type "dict",data:=.dict #[] } }:az).heap.objs.size=s.heap.objs.size+1 from Kt ..];rw[KJ];exact jj (j0 (j0 h))
structure cI(N:List bt)(env:Env)(N':List bt)(ix:List (Option Nat))(sc:Qn):Prop where
 kind:sc.kind=.function
 ndn:(sc.names.map (·.1)).Nodup
 free:∀y∈sc.names,y.2=.free->env.kindOf y.1=some .cell\/env.kindOf y.1=some .free
 len:ix.length=N'.length
 cap:∀(i j:Nat),ix[i]? = some (some j)->∃x,N'[i]? = some x/\N[j]? = some x/\sc.names.lookup x=some .free
theorem cI.names(S:cI N env N' ix sc):∀y∈sc.names,y.2=.local->sc.names.lookup y.1=some .local:=λy a e=>by
 obtain⟨x,k⟩:=y;cases e;exact aR S.ndn a
def eN(σ:St)(ix:List (Option Nat)):St:=ix.map λo=>o.bind λj=>(σ[j]?).join
def tE(sc:Qn)(C:ao)(env:Env):Env:=compEnvC sc (Qa (C+1) sc.names (cM env sc.names [])) C env
def bCx(X:Cx)(N':List bt)(sc:Qn)(s:az)(H:Hp)(C:ao)(fp:List ao):Cx where
 prog:=X.prog
 w := X.w
 K := X.K
 mg := X.mg
 base:=X.base
 A := X.A
 N := N'
 s₀ := s
 H₀ := H
 env:=tE sc C X.env
 outer:=X.stack
 stack:=X.stack
 ex := fp
 fn := λx=>decide (sc.names.lookup x=some .cell)
 calm:=X.calm
 pn := []
 xe := λ_ _=>False
theorem fO{env:Env}:∀{names:List (bt×NameKind)}{x:bt}{k:NameKind},names.lookup x=some k ->
  (names.map λ(n,k)=>if (k==ee&&env.scope.kind==.function&&env.kindOf n==some .cell) then (n,ip) else (n,k)).lookup x=some (if (k==ee&&env.scope.kind==.function&&env.kindOf x==some .cell)=true then .cell else k)
 | [],_,_,h=>by simp at h
 | (n,j)::r,x,k,h=>by
  have a:=@fO env r x k;show xb x ((if (j==ee&&env.scope.kind==.function&&env.kindOf n==some .cell)=true then (n,ip) else (n,j))::_)=_;cases hx:x==n with
  | true =>
   have e:x=n:=by simpa using hx
   subst e;simp only[J1,hx] at h;have b:j=k:=dm h;subst b;by_cases hc:(j==ee&&env.scope.kind==.function&&env.kindOf x==some .cell)=true
   .rw[Mz hc,Mz hc];simp[J1]
   .rw[MA hc,MA hc];simp[J1]
  | false =>
   simp only[J1,hx] at h;by_cases hc:(j==ee&&env.scope.kind==.function&&env.kindOf n==some .cell)=true
   .rw[Mz hc];simp only[J1,hx];exact a h
   .rw[MA hc];simp only[J1,hx];exact a h
theorem cZ{env:Env}:∀{names:List (bt×NameKind)}{x:bt},names.lookup x=none ->
  (names.map λ(n,k)=>if (k==ee&&env.scope.kind==.function&&env.kindOf n==some .cell) then (n,ip) else (n,k)).lookup x=none
 | [],_,_=>rfl
 | (n,j)::r,x,h=>by
  have a:=@cZ env r x;show xb x ((if (j==ee&&env.scope.kind==.function&&env.kindOf n==some .cell)=true then (n,ip) else (n,j))::_)=_;cases hx:x==n with
  | true=>simp only[J1,hx] at h;cases h
  | false =>
   simp only[J1,hx] at h;by_cases hc:(j==ee&&env.scope.kind==.function&&env.kindOf n==some .cell)=true
   .rw[Mz hc];simp only[J1,hx];exact a h
   .rw[MA hc];simp only[J1,hx];exact a h
def fq(h:sc.names.lookup x=some k):(tE sc C env).kindOf x=some (if (k==ee&&env.scope.kind==.function&&env.kindOf x==some .cell)=true then .cell else k):=fO h
def ww(h:sc.names.lookup x=none):(tE sc C env).kindOf x=none:=cZ h
section
variable {X:Cx}{N':List bt}{ix:List (Option Nat)}{sc:Qn}
def jI(S:cI X.N X.env N' ix sc)(h:(tE sc C X.env).cells.lookup x=some c) :
  (sc.names.lookup x=some .cell/\C+1<=c/\(x,c)∈Qa (C+1) sc.names [])\/(sc.names.lookup x=some .free/\c=(X.env.cells.lookup x).getD 0):=by
 have e:(tE sc C X.env).cells=Qa (C+1) sc.names []++cM X.env sc.names []:=bM _ _ _;rw[e] at h;rcases Jj.mp (mem_of_lookup h) with q|q
 .obtain⟨a,b⟩:=ck _ _ _ _ q;exact .inl ⟨aR S.ndn a,b,q⟩
 .have fr:(x,ee)∈sc.names:=by
   have z:∀(names:List (bt×NameKind)) (f:List (bt×ao)),(x,c)∈cM X.env names f->(x,c)∈f\/(x,ee)∈names:=by
    intro names
    induction names with
    | nil=>intro f h;exact .inl h
    | cons y r g =>
     obtain⟨n,k⟩:=y;intro f h;unfold cM at h;split at h
     .rename_i hk;have j:k=ee:=by simpa using hk
      subst j;rcases g _ h with h|h
      .rcases Jo.mp h with h|h
       .cases h;exact .inr Jm
       .exact .inl h
      .exact .inr (Jq _ h)
     .rcases g _ h with h|h
      .exact .inl h
      .exact .inr (Jq _ h)
   rcases z _ _ q with q|q
   .simp at q
   .exact q
  have i:=aR S.ndn fr;have hn:(Qa (C+1) sc.names []).lookup x=none:=by
   cases z:(Qa (C+1) sc.names []).lookup x with
   | none=>rfl
   | some d =>
    have q':=ck _ _ _ _ (mem_of_lookup z);have:=aR S.ndn q'.1;rw[i] at this;cases this
  rw[sj,hn,cS,Mz fr] at h;exact .inr ⟨i,(dm (by simpa using h)).symm⟩
def f8(S:cI X.N X.env N' ix sc)(h:sc.names.lookup x=some .free):(tE sc C X.env).cells.lookup x=some ((X.env.cells.lookup x).getD 0):=by
 have e:(tE sc C X.env).cells=Qa (C+1) sc.names []++cM X.env sc.names []:=bM _ _ _;have hn:(Qa (C+1) sc.names []).lookup x=none:=by
  cases z:(Qa (C+1) sc.names []).lookup x with
  | none=>rfl
  | some d =>
   have q':=ck _ _ _ _ (mem_of_lookup z);have:=aR S.ndn q'.1;rw[h] at this;cases this
 rw[e,sj,hn,cS,Mz (mem_of_lookup h)];rfl
def tu(h:sc.names.lookup x=some .cell):∃c,(tE sc C env).cells.lookup x=some c:=by have e:(tE sc C env).cells=Qa (C+1) sc.names []++cM env sc.names []:=bM _ _ _;obtain⟨c,hc⟩:=lC (n:=C+1) h;exact⟨c,by rw[e,sj,hc];rfl⟩
def pM{pins:List (ao×Obj)}{σ:St}{H:Hp}{s:az}{fp:List ao}(S:cI X.N X.env N' ix sc)(I:Inv X pins σ H s)(B:∀b∈fp,iK X pins H b)(w:∀b∈fp,b<s.heap.objs.size) :
  Inv (bCx X N' sc s H (s.heap.objs.size+1) fp) [] (eN σ ix) H
   { s with heap:=Q5 ((s.heap.push { cls:=.type "list",data:=.seq #[] }).push { cls:=.type "dict",data:=.dict #[] }) sc.names }:=by
 have l:(s.heap.push { cls:=.type "list",data:=.seq #[] }).objs.size=s.heap.objs.size+1:=Kt ..;have keep:∀b o,s.heap.get? b=some o->(Q5 ((s.heap.push { cls:=.type "list",data:=.seq #[] }).push { cls:=.type "dict",data:=.dict #[] }) sc.names).get? b=some o:=λb o e =>
  Za _ _ b o (Jn _ (Jn _ e))
 have ok:=cellsFrom_ok sc.names ((s.heap.push { cls:=.type "list",data:=.seq #[] }).push { cls:=.type "dict",data:=.dict #[] }) (s.heap.objs.size+2) [] ⟨λ_ _ P=>(nomatch P),I7⟩ (by rw[Kt,l];exact Jx _);rw[Kt,l] at ok;have a:∀x c,sc.names.lookup x=some .free->c=(X.env.cells.lookup x).getD 0->X.env.cells.lookup x=some c:=λx c h1 h2=>by
  obtain⟨d,hd⟩:=I.ok.has x (S.free (x,.free) (mem_of_lookup h1) rfl);rw[hd] at h2 ⊢;rw[h2];rfl
 have g:∀x c,X.env.cells.lookup x=some c->c<s.heap.objs.size:=λx c e=>by
  obtain⟨v,q⟩:=I.cell x c e;exact q.lt
 refine⟨⟨I.ok.mod,S.kind,I.ok.glob,I.ok.blt,Ku _,λx y c h1 h2=>?_,λx hx=>?_,λx c hx h=>?_,I.ok.hd,I.ok.frames,.inl rfl,λb n=>⟨?_,λx c h=>?_⟩,I.bs,Jt I.ok.bsz I.sz,λb o e n=>?_,λb n=>?_,I.stack,I.stkFree,λT q h=>I.base.tbls T q (I.ok.tab T q h)⟩,
  rfl,I.bare,Un.kept keep,⟨λ_=>none,?_,λi x v e1 e2 e3=>?_⟩,λx c h=>?_,I.hok.fresh (Ku _),λx c h=>?_,λp Q=>absurd (show p∈([]:List (ao×Obj)) from Q) (!1),I.hok.kept keep,?_⟩
 .rcases jI S h1 with⟨a1,f,q1⟩|⟨a1,f⟩ <;> rcases jI S h2 with⟨a2,A,q2⟩|⟨a2,A⟩
  .exact name_of_addr ok.apart q1 q2
  .exact absurd (g y c (a y c a2 A)) (Nat.not_lt.mpr (Jt (K3 _ 2) f))
  .exact absurd (g x c (a x c a1 f)) (Nat.not_lt.mpr (Jt (K3 _ 2) A))
  .exact I.ok.inj x y c (a x c a1 f) (a y c a2 A)
 .cases q:sc.names.lookup x with
  | none =>
   have z:=ww (C:=s.heap.objs.size+1) (env:=X.env) q;rcases hx with hx|hx
   .exact absurd (hx.symm.trans z) (!1)
   .exact absurd (hx.symm.trans z) (!1)
  | some k =>
   have z:=fq (C:=s.heap.objs.size+1) (env:=X.env) q;cases k with
   | free=>exact⟨_,f8 S q⟩
   | cell=>exact tu q
   | _ =>
    rcases hx with hx|hx
    .have:=hx.symm.trans z;simp at this
    .have:=hx.symm.trans z;simp at this
 .have D:sc.names.lookup x=some .cell:=of_decide_eq_true hx;rcases jI S h with⟨_,f,_⟩|⟨a1,_⟩
  .exact Jt (by omega:s.heap.objs.size<=s.heap.objs.size+1+1) f
  .rw[D] at a1;cases a1
 .exact JH (KU (w b n))
 .obtain⟨M,E,F,r,G,O⟩:=B b n;rcases jI S h with⟨_,f,_⟩|⟨a1,f⟩
  .exact J2 (Jp (w b n) (Jt (K3 _ 2) f))
  .exact G x c (a x c a1 f)
 .obtain⟨M,E,F,r,G,O⟩:=B b n;rcases r with r|r
  .exact I.ok.noex b o e r
  .exact absurd (Jp (Jv e) (Jt I.ok.bsz r)) (Kn _)
 .obtain⟨M,E,F,r,G,O⟩:=B b n;intro z;rcases Jo.mp (I.stkSub b z) with z|z
  .exact E z
  .exact F z
 .have q:=(Heap.Ns.new (s.heap.push { cls:=.type "list",data:=.seq #[] }) (.type "dict")).keeps (Za sc.names _);rw[l] at q;exact q
 .have hi:i<ix.length:=by
   have z:=(Js.mp e2).1;simpa[eN] using z
  have J:(eN σ ix)[i]? = (ix[i]?).map λo=>o.bind λj=>(σ[j]?).join:=JE ..;rw[J,Ji hi] at e2;have e2:(ix[i]).bind (λj=>(σ[j]?).join)=some v:=dm e2;cases q:ix[i] with
  | none=>rw[q] at e2;cases e2
  | some j =>
   rw[q] at e2;have e2:(σ[j]?).join=some v:=e2;have e2:σ[j]? = some (some v):=by
    cases z:σ[j]? with
    | none=>rw[z] at e2;cases e2
    | some w'=>rw[z] at e2;have e2:w'=some v:=e2;rw[e2]
   obtain⟨y,c1,c2,K⟩:=S.cap i j (by rw[Ji hi,q]);have L:x=y:=dm (e1.symm.trans c1);subst L;have kd:=S.free (x,.free) (mem_of_lookup K) rfl;obtain⟨m,hn,R⟩:=I.loc;obtain⟨u,U,V⟩:=R j x v c2 e2 (by rcases kd with k|k;exact .inr (.inl k);exact .inr (.inr k));refine⟨u,U,.inr ⟨?_,?_⟩⟩
   .rw[show(bCx X N' sc s H (s.heap.objs.size+1) fp).env.kindOf x=_ from fq (C:=s.heap.objs.size+1) (env:=X.env) K];split
    .exact .inl rfl
    .exact .inr rfl
   .rcases V with⟨k,_⟩|⟨_,c,hc,t⟩
    .rcases kd with k'|k' <;> rw[k] at k' <;> cases k'
    .refine⟨c,?_,t.keeps keep⟩;have:=f8 S (C:=s.heap.objs.size+1) K;rw[hc] at this;exact this
 .rcases jI S h with⟨_,f,q⟩|⟨a1,f⟩
  .exact⟨none,(ok.empty x c q).1⟩
  .obtain⟨v,q⟩:=I.cell x c (a x c a1 f);exact⟨v,q.keeps keep⟩
 .rcases jI S h with⟨_,f,q⟩|⟨a1,f⟩
  .exact I.hok.fresh (Jt (K3 _ 2) f)
  .exact I.freeC x c (a x c a1 f)
 .show(eN σ ix).length=N'.length;simp[eN,S.len]
def jH{pins pins':List (ao×Obj)}{σ d:St}{H H':Hp}{s s':az}{fp:List ao}{C:ao}(S:cI X.N X.env N' ix sc)(I:Inv X pins σ H s)(n:∀b∈fp,iK X pins H b)
  (a:Inv (bCx X N' sc s H C fp) pins' d H' s'):Inv (bCx X N' sc s H C fp) pins' (eN σ ix) H' s':=by
 refine⟨a.ok,a.os,a.bare,a.base,?_,a.cell,a.free,a.freeC,a.pin,a.hok,by show(eN σ ix).length=N'.length;simp[eN,S.len]⟩;obtain⟨p,f,_⟩:=a.loc;refine⟨p,f,λi x v e1 e2 e3=>?_⟩;have hi:i<ix.length:=by have z:=(Js.mp e2).1;simpa[eN] using z
 have g:(eN σ ix)[i]? = (ix[i]?).map λo=>o.bind λj=>(σ[j]?).join:=JE ..;rw[g,Ji hi] at e2;have e2:(ix[i]).bind (λj=>(σ[j]?).join)=some v:=dm e2;cases q:ix[i] with
 | none=>rw[q] at e2;cases e2
 | some j =>
  rw[q] at e2;have e2:(σ[j]?).join=some v:=e2;have e2:σ[j]? = some (some v):=by
   cases z:σ[j]? with
   | none=>rw[z] at e2;cases e2
   | some w'=>rw[z] at e2;have e2:w'=some v:=e2;rw[e2]
  obtain⟨y,c1,c2,h⟩:=S.cap i j (by rw[Ji hi,q]);have l:x=y:=dm (e1.symm.trans c1);subst l;have kd:=S.free (x,.free) (mem_of_lookup h) rfl;obtain⟨m,hn,r⟩:=I.loc;obtain⟨u,t,w⟩:=r j x v c2 e2 (by rcases kd with k|k;exact .inr (.inl k);exact .inr (.inr k));refine⟨u,t,.inr ⟨?_,?_⟩⟩
  .rw[show(bCx X N' sc s H C fp).env.kindOf x=_ from fq (C:=C) (env:=X.env) h];split
   .exact .inl rfl
   .exact .inr rfl
  .rcases w with⟨k,_⟩|⟨_,c,hc,o,ho,hd⟩
   .rcases kd with k'|k' <;> rw[k] at k' <;> cases k'
   .refine⟨c,?_,?_⟩
    .have:=f8 S (C:=C) h;rw[hc] at this;exact this
    .obtain⟨sl,e⟩:=a.base.any ho (I.freeC x c hc) λz=>(n c z).2.2.2.2.1 x c hc rfl;exact⟨_,e,hd⟩
def PIf(X:Cx)(ifs:List bb)(t:TT):Prop :=
 ∀(pins:List (ao×Obj)) (s:az) (σ:St) (H:Hp) (Q:Bool->Hp->Prop),Inv X pins σ H s->t σ H Q ->
  j4 (kw X.prog X.w) X.A (forIn ifs true λc r=>if r=true then do let ok <-Zg c X.env (eval c X.env);pure (ForInStep.yield ok) else pure (ForInStep.yield r)) (TP X pins σ Q) X.xe s
def Iy:TT:=λ_ H Q=>Q true H
def Bp:PIf X [] Iy:=λ_ _ _ H _ I h=>wpAny_tests_nil ⟨H,I,h⟩
def Bo(h:PT X c t):PIf X [c] t:=λpins s σ H Q I hw=>wpAny_tests_one (h pins s σ H Q I hw)
def ny(I:Nat->az->Prop)
  (turn : ∀n s,I n s->j4 (kw prog w) A (QY it) (λr b=>match r with
   | none=>R (.ok .next) b
   | some v=>j4 (kw prog w) A (Zb a it v) (λ_ d=>j4 (kw prog w) A (QE a env v) (λ_ f =>
     j4 (kw prog w) A (forIn ifs true λc r=>if r=true then do let ok <-Zg c env (eval c env);pure (ForInStep.yield ok) else pure (ForInStep.yield r)) (λok e =>
      if ok=true then j4 (kw prog w) A (eval elt env) (λx g =>
       j4 (kw prog w) A (call (.builtin "list.append") [k,x]) (λ_ i=>∃m,m<n/\I m i) (λ_ _=>False) g) (λ_ _=>False) e
      else ∃m,m<n/\I m e) (λ_ _=>False) f) (λ_ _=>False) d) (λ_ _=>False) b) (λ_ _=>False) s)
  (n : Nat) (h:I n s):Qv (kw prog w) A (.compLoop (.ListComp elt [⟨a,iter,ifs,0⟩] scope pos) 0 it k env) R s:=by
 refine codeAny_loop rfl I (λn s t=>?_) n h;show j4 _ A ((compTurn (.ListComp elt [⟨a,iter,ifs,0⟩] scope pos) 0 it k env).onRaise (λx=>do noteFrame x env;theTreesLotGoes x)) _ _ s;refine wpAny_noted ?_;rw[compTurn_list];refine jj (Zn (jj (z5 (turn n s t) (λr b h₁=>?_) λ_ _ h'=>h'.elim)));cases r with
 | none=>exact j0 h₁
 | some v =>
  refine jj (z5 h₁ (λ_ d l=>jj (z5 l (λ_ f o=>jj (z5 o (λok e j=>?_) λ_ _ h'=>h'.elim)) λ_ _ h'=>h'.elim)) λ_ _ h'=>h'.elim);cases ok with
  | false=>exact j0 ⟨rfl,j⟩
  | true =>
   exact jj (jj (z5 j (λx g p=>jj (z5 p (λ_ i q=>j0 (j0 ⟨rfl,q⟩)) λ_ _ h'=>h'.elim)) λ_ _ h'=>h'.elim))
def zo(J:It)(σ0:St)(g:TG)(tt:TT)(te:TE)(H1:Hp)(f:List V->Hp->Prop):Prop :=
 ∃W : Nat->Nat->List V->Hp->Prop,(∃m,W 0 m [] H1)/\∀i m ys H,W i m ys H ->
  (J.stop i H/\f ys H) \/
  (J.go i H/\ys.length<sizeLine/\∃N:List V->Hp->Prop,(∀a H',N a H'->∃d,d<m/\W (i+1) d a H') /\
   ∀x H',J.yld i H x H'->g x σ0 H' λc H2=>tt c H2 λb e=>if b=true then te c e λy h=>N (ys++[y]) h else N ys e)
def rY{tg iter elt:bb}{ifs:List bb}{pos:Pos}{g:TG}{tt:TT}{te:TE}{pins:List (ao×Obj)}{σ:St}{H:Hp}{s:az}{it:ao}{fp:List ao}{tn:Nat->bg->Prop}{J:It}{Qe:List V->Hp->Prop}
  {RR:av->ao->Z6->az->Prop}{E:av->az->Prop}
  (hc:X.calm=true) (S:cI X.N X.env N' ix sc) (hg:∀s H C fp,PG (bCx X N' sc s H C fp) tg g) (ht:∀s H C fp,PIf (bCx X N' sc s H C fp) ifs tt) (he:∀s H C fp,PE (bCx X N' sc s H C fp) elt te)
  (I : Inv X pins σ H s) (T:Av X.prog X.w X.K tg J fp it tn) (st:tn 0 s.heap) (R:∀b∈fp,iK X pins H b) (hw:zo J (eN σ ix) g tt te H Qe)
  (fin:∀s' H' ys m,s'.heap.Ns (s.heap.objs.size+1) m->H' s.heap.objs.size=none->H' (s.heap.objs.size+1)=none->Qe ys H'->Inv X pins σ (upd H' s.heap.objs.size (.lst ys)) s'->RR (.ref s.heap.objs.size) (s.heap.objs.size+1) (.ok .next) s') :
  j4 (kw X.prog X.w) X.A (newList []) (λU Y=>j4 (kw X.prog X.w) X.A (ZQ sc X.env.globals (cM X.env sc.names []) [] X.env.qual none .none (some X.env)) (λD Z =>
   Qv (kw X.prog X.w) X.A (.compStart (.ListComp elt [⟨tg,iter,ifs,0⟩] sc pos) 0 (.ref it) U { D with scope:=relabel sc X.env }) (RR U D.locals) Z) E Y) E s:=by
 have a0:∀b∈fp,b<s.heap.objs.size:=λb a=>by
  obtain⟨o,e,_⟩:=T.obj _ _ st b a;exact Jv e
 refine Ql (o9 ?_);have b3:(s.heap.push { cls:=.type "list",dict:=none,data:=.seq ([]:List av).toArray }).objs.size=s.heap.objs.size+1:=Kt ..;have I0:=pM S I R a0;obtain⟨W,⟨m0,w0⟩,turn⟩:=hw;have nD:∀b∈fp,s.heap.objs.size≠b:=λb a=>J2 (a0 b a);have B:H s.heap.objs.size=none:=I.hok.fresh (Jx _);have F:∀x c,(tE sc (s.heap.objs.size+1) X.env).cells.lookup x=some c->c≠s.heap.objs.size:=λx c h=>by
  rcases jI S h with⟨_,b1,_⟩|⟨a1,b1⟩
  .exact J2 (Jp (KU (KB _)) b1)
  .obtain⟨d,hd⟩:=I.ok.has x (S.free (x,.free) (mem_of_lookup a1) rfl);rw[hd] at b1;obtain⟨v,q⟩:=I.cell x d hd;have e:c=d:=b1;rw[e];exact JH q.lt
 have a3:s.heap.objs.size ∉ frs X.stack:=λz=>by
  rcases Jo.mp (I.stkSub _ z) with z|z
  .exact absurd I.lt (by rw[<-z];exact Kn _)
  .exact I.nofs (Jx _) z
 have a4:∀{pins':List (ao×Obj)}{H':Hp},(∀b∈fp,H' b=none)->(∀p∈pins',∀b∈fp,p.1≠b)->∀b∈fp,iK (bCx X N' sc s H (s.heap.objs.size+1) fp) pins' H' b:=λ{pins' H'} h1 h2 b a =>
  ⟨h1 b a,(I0.ok.exf b a).1,I0.ok.exfs b a,.inl a,(I0.ok.exf b a).2,λp f=>h2 p (by simpa[bCx] using f) b a⟩
 have G:(Q5 ((s.heap.push { cls:=.type "list",data:=.seq #[] }).push { cls:=.type "dict",data:=.dict #[] }) sc.names).get? s.heap.objs.size=some { cls:=.type "list",data:=.seq #[] } :=
  Za _ _ _ _ (Jn _ (JA _ rfl))
 have b4:Inv (bCx X N' sc s H (s.heap.objs.size+1) fp) [(s.heap.objs.size,{ cls:=.type "list",data:=.seq #[] })] (eN σ ix) H _:=I0.pins_of (pins':=[(s.heap.objs.size,{ cls:=.type "list",data:=.seq #[] })]) λp f=>by
  have e:p=(s.heap.objs.size,{ cls:=.type "list",data:=.seq #[] }):=by simpa using f
  subst e;exact⟨G,B,JH (KB _),a3,λv z=>by cases z⟩
 have a5:tn 0 (Q5 ((s.heap.push { cls:=.type "list",data:=.seq #[] }).push { cls:=.type "dict",data:=.dict #[] }) sc.names):=T.keep _ _ _ st λb a o e=>Za _ _ _ _ (Jn _ (Jn _ e));have loop:∀P:az,P={ s with heap:=Q5 ((s.heap.push { cls:=.type "list",data:=.seq #[] }).push { cls:=.type "dict",data:=.dict #[] }) sc.names } ->
   Qv (kw X.prog X.w) X.A (.compLoop (.ListComp elt [⟨tg,iter,ifs,0⟩] sc pos) 0 (.ref it) (.ref s.heap.objs.size) (tE sc (s.heap.objs.size+1) X.env)) (RR (.ref s.heap.objs.size) (s.heap.objs.size+1)) P:=by
  rintro P rfl;refine ny (λn s'=>∃(i:Nat) (ys:List V) (its:List av) (k:Nat) (H':Hp),Inv (bCx X N' sc s H (s.heap.objs.size+1) fp) [(s.heap.objs.size,{ cls:=.type "list",data:=.seq its.toArray k })] (eN σ ix) H' s' /\
   tn i s'.heap/\(∀b∈fp,H' b=none)/\aW ys its/\ys.length<=sizeLine/\W i n ys H') ?_ m0 ⟨0,[],[],0,H,b4,a5,λb a=>(R b a).1,.nil,JD _,w0⟩
  rintro n s3 ⟨i,ys,its,k,H3,I3,a6,b5,rv,hz,w3⟩;have a7:=a4 (pins':=[(s.heap.objs.size,{ cls:=.type "list",data:=.seq its.toArray k })]) b5 (λp f b a=>by
   have e:p=(s.heap.objs.size,{ cls:=.type "list",data:=.seq its.toArray k }):=by simpa using f
   rw[e];exact nD b a)
  rcases turn i n ys H3 w3 with⟨stop,qe⟩|⟨go,e9,N,hN,step⟩
  .refine thn (T.done (bCx X N' sc s H (s.heap.objs.size+1) fp) rfl rfl rfl hc i _ s3 _ H3 (λ_ _=>False) I3 a7 a6 stop) λr P b6=>?_;obtain⟨hr,j⟩:=b6;subst hr;obtain⟨pg,pn,_⟩:=j.pin (s.heap.objs.size,{ cls:=.type "list",data:=.seq its.toArray k }) (Jg _ Jm);obtain⟨m,hm,_⟩:=j.loc;refine fin P H3 ys m hm pn j.free qe ?_;refine I.call' (ch:=fp) j.os ⟨j.base.keep,j.base.slot,λb o e n hx=>?_,j.base.there,λb xs q=>?_,λb o u q=>?_,λb ps q=>?_⟩ (λb o e=>?_) j.bare λb a=>?_
   .rw[au (JH (Jv e))];exact j.base.free b o e n hx
   .have q':=j.base.tups b xs q;rw[au (aJ q' pn)];exact q'
   .have q':=j.base.frzs b o u q;rw[au (aJ q' pn)];exact q'
   .have q':=j.base.tbls b ps q;rw[au (aJ q' pn)];exact q'
   .by_cases a:b=s.heap.objs.size
    .subst a;rw[aB] at e;cases e;exact⟨hz,its,k,rv,pg⟩
    .rw[au a] at e;exact(j.hok b o e).stay (λc v _ q=>q) (λc q=>by rw[au (aJ q pn)];exact q) λc xs _ q=>by rw[au (aJ q pn)];exact q
   .obtain⟨f0,f1,f2,f3,f4,f5⟩:=R b a;exact⟨f3,f1,f4,f5⟩
  .refine thn (T.item (bCx X N' sc s H (s.heap.objs.size+1) fp) rfl rfl rfl hc i _ s3 _ H3 (λ_ _=>False) I3 a7 a6 go) λr P c3=>?_;obtain⟨u,hr,h4⟩:=c3;subst hr;refine thn h4 λ_ s5 c4=>?_;obtain⟨x,H5,I5,r5,y5,L,c5⟩:=c4;have c6:=a4 (pins':=[(s.heap.objs.size,{ cls:=.type "list",data:=.seq its.toArray k })]) c5 (λp f b a=>by
    have e:p=(s.heap.objs.size,{ cls:=.type "list",data:=.seq its.toArray k }):=by simpa using f
    rw[e];exact nD b a)
   have d0:=I5.pinned c6 (T.obj _ _ L);refine thn (hg s H _ fp _ s5 _ H5 x u _ d0 r5 (step x H5 y5)) λ_ s6 d3=>?_;obtain⟨t,H6,I6,q6⟩:=d3;have back:∀{b0:St}{Q:Hp}{s7:az},Inv (bCx X N' sc s H (s.heap.objs.size+1) fp) ([(s.heap.objs.size,{ cls:=.type "list",data:=.seq its.toArray k })]++iq fp s5.heap) b0 Q s7 ->
     tn (i+1) s7.heap/\(∀b∈fp,Q b=none):=λ{b0 Q s7} M=>by
    refine⟨T.keep _ _ _ L λb a o e=>(M.pin (b,o) (Jg _ (Jg _ (fF a e)))).1,λb a=>?_⟩;obtain⟨o,e,d⟩:=T.obj _ _ L b a;exact(M.pin (b,o) (Jg _ (Jg _ (fF a e)))).2.1
   refine thn (ht s H _ fp _ s6 t H6 _ I6 q6) λok s7 d4=>?_;obtain⟨Q,M,q7⟩:=d4;cases ok with
   | false =>
    rw[MA JC] at q7 ⊢;obtain⟨m',O,w7⟩:=hN _ _ q7;exact⟨m',O,i+1,ys,its,k,Q,jH S I R M.unpinned,(back M).1,(back M).2,rv,hz,w7⟩
   | true =>
    rw[Mz rfl] at q7 ⊢;refine thn (he s H _ fp _ s7 t Q _ M q7) λxv s8 e0=>?_;obtain⟨y,H8,I8,r8,q8⟩:=e0;obtain⟨m',O,w8⟩:=hN _ _ q8;obtain⟨pg,pn,_⟩:=I8.pin (s.heap.objs.size,{ cls:=.type "list",data:=.seq its.toArray k }) (Jg _ (Jl _ Jm));refine wpAny_list_append_plain (l:=s.heap.objs.size) (items:=its.toArray) ⟨k,pg⟩ (λh9 e5 b2=>?_) (by have:=rv.length;simp;omega);obtain⟨k9,g9⟩:=e5;have e6:Inv (bCx X N' sc s H (s.heap.objs.size+1) fp) (iq fp s5.heap) t H8 s8:=I8.pins_of λp f=>I8.pin p (Jg _ (Jg _ f));have I9:Inv (bCx X N' sc s H (s.heap.objs.size+1) fp) (iq fp s5.heap) t H8 { s8 with heap:=h9 }:=e6.turned (t':=s8.toks) (it:=s.heap.objs.size) (λb o a e=>b2.extBut b o a e) pn (JH (KB _)) (.inr (Jx _)) F
     λp f=>by
      have e7:p∈iq fp s5.heap:=by simpa[bCx] using f
      exact(nD _ (mG e7).1).symm
    have e8:Inv (bCx X N' sc s H (s.heap.objs.size+1) fp) [(s.heap.objs.size,{ cls:=.type "list",data:=.seq (its++[xv]).toArray k9 })] t H8 { s8 with heap:=h9 }:=I9.pins_of λp f=>by
     have e:p=(s.heap.objs.size,{ cls:=.type "list",data:=.seq (its++[xv]).toArray k9 }):=by simpa using f
     subst e;refine⟨?_,pn,JH (KB _),a3,λv z=>by cases z⟩;simpa using g9
    refine⟨m',O,i+1,ys++[y],its++[xv],k9,H8,jH S I R e8,?_,(back I8).2,rv.append (.cons r8 .nil),by simp;omega,w8⟩;exact T.keep _ _ _ (back I8).1 λb a o e=>b2.extBut b o (nD b a).symm e
 have key:=codeAny_compStart_list (iter:=iter) (loop _ rfl) (T.self X.A 0 { s with heap:=Q5 ((s.heap.push { cls:=.type "list",data:=.seq #[] }).push { cls:=.type "dict",data:=.dict #[] }) sc.names } _ _ a5 (loop _ rfl));simpa only[newEnv,b3,tE,compEnvC] using key
def xj(a:TI)(ix:List (Option Nat))(g:TG)(tt:TT)(te:TE):TE:=λσ H Q=>a σ H λJ H1=>zo J (eN σ ix) g tt te H1 λys H2=>∀p,H2 p=none->Q (.ref p) (upd H2 p (.lst ys))
def cI.clos{pins:List (ao×Obj)}{σ:St}{H:Hp}{s:az}(S:cI X.N X.env N' ix sc)(I:Inv X pins σ H s):QO sc X.env=pure (cM X.env sc.names []) :=
 lz λy a e=>by
  obtain⟨c,hc⟩:=I.ok.has y.1 (S.free y a e);rw[hc];rfl
def Bw(hc:X.calm=true)(S:cI X.N X.env N' ix sc)(hi:PI X tg iter i)
  (hg:∀s H C fp,PG (bCx X N' sc s H C fp) tg g) (l:∀s H C fp,PIf (bCx X N' sc s H C fp) ifs tt) (n:∀s H C fp,PE (bCx X N' sc s H C fp) elt te)
  (p:∀x,Qm iter X.env x=pure x:=by intro _;rfl):PE X (.ListComp elt [⟨tg,iter,ifs,0⟩] sc pos) (xj i ix g tt te):=by
 intro pins s σ H Q I h;rw[eval_ListComp];refine ZT (use:=none) rfl p (S.clos I) S.kind S.names (thn (hi pins s σ H _ I h) λv s1 h1=>thn h1 λr s2 a=>?_);obtain⟨it,fp,tn,J,H2,e,j,T,c,k,hw⟩:=a;subst e;refine rY (RR:=λd C=>compPost (kw X.prog X.w) X.A X.xe none (EP X pins σ Q) d C) hc S hg l n j T c k hw λs' H' ys m hn hD hC q t=>?_;refine⟨m,hn,λh' f=>?_⟩;have u:(upd H' s2.heap.objs.size (.lst ys)) (s2.heap.objs.size+1)=none:=by rw[au (J2 (KB _))];exact hC
 obtain⟨y,z,k,B,D,E⟩:=j.fpOk (H':=upd H' s2.heap.objs.size (.lst ys)) (b:=s2.heap.objs.size+1) (Ku _) u;exact⟨.ref s2.heap.objs.size,_,t.turned (t':=s'.toks) (it:=s2.heap.objs.size+1) (λb o F e=>f.extBut b o F e) y z B D E,rfl,q _ hD⟩
def j8{pos c d:Pos}(hN:X.N.Nodup)(f:X.N[i]? = some y)(F:X.env.scope.names.lookup y=some .local)
  (hc:X.calm=true) (S:cI X.N X.env N' ix sc) (hi:PI X tg iter E)
  (hg:∀s H C fp,PG (bCx X N' sc s H C fp) tg g) (O:∀s H C fp,PIf (bCx X N' sc s H C fp) ifs tt) (P:∀s H C fp,PE (bCx X N' sc s H C fp) elt te)
  (j:Q4 (.ListComp elt [⟨tg,iter,ifs,0⟩] sc pos) (some (.Name y d)) c.line X.env=pure true:=by rfl)
  (R:∀x,Qm iter X.env x=pure x:=by intro _;rfl):PS X (.Assign [.Name y d] (.ListComp elt [⟨tg,iter,ifs,0⟩] sc pos) c) (Du (xj E ix g tt te) (pC i)):=by
 intro pins s σ H D I h;rw[exec_Assign_Name_used _ _ _ _ j];refine jj (Zn (jj ?_));show j4 _ X.A (do let _ <-comprehension (.ListComp elt [⟨tg,iter,ifs,0⟩] sc pos) sc X.env _ (newList []) false (eval iter X.env) (some (QE (.Name y d) X.env))) _ _ s;refine jj (z5 (ZT (use:=some (QE (.Name y d) X.env)) (Q:=λ_ s'=>SP X pins D .next s') rfl R (S.clos I) S.kind S.names
  (thn (hi pins s σ H _ I h) λv s1 h1=>thn h1 λU s2 ⟨it,fp,tn,J,H2,e,G,T,k,K,hw⟩=>?_)) (λ_ s' hq=>j0 (j0 hq)) λ_ _ e=>e)
 subst e;refine rY (RR:=λl C=>compPost (kw X.prog X.w) X.A X.xe (some (QE (.Name y d) X.env)) (λ_ s'=>SP X pins D .next s') l C) hc S hg O P G T k K hw λs' H' ys m hn hD hC q V=>?_;have W:(upd H' s2.heap.objs.size (.lst ys)) (s2.heap.objs.size+1)=none:=by rw[au (J2 (KB _))];exact hC
 obtain⟨Y,L,K,Z,M,f5⟩:=G.fpOk (H':=upd H' s2.heap.objs.size (.lst ys)) (b:=s2.heap.objs.size+1) (Ku _) W;show j4 _ X.A (QE (.Name y d) X.env (.ref s2.heap.objs.size)) _ _ _;refine wpAny_assign_Name (lU (v:=.ref s2.heap.objs.size) V hN f (.inl F) rfl (λn p r=>?_) (.inr F));obtain⟨a,t,u⟩:=r;have ne:s2.heap.objs.size+1≠a:=by
  rcases u with rfl|u
  .exact L
  .exactλz=>M y a u z.symm
 refine⟨m,hn.sameBut t ne,λh' B=>?_⟩;exact⟨_,_,p.turned (t':=n.toks) (it:=s2.heap.objs.size+1) (λb o hb e=>B.extBut b o hb e) Y L Z M f5,q _ hD⟩
end
end _L
namespace _L
open PySem
open Sem (wp)
section
def cL(prog:ky)(w:k3)(h:bg)(k:Int×List Int)(a:ao):Prop :=
 ∃o t b n,h.get? a=some o/\o.cls=.type "tuple" /\ o.data=.seq #[.int k.1 t,.ref b] n/\IsTupleKey (Qc prog w) h k.2 b
def bQ(i:Int)(t:Tok):(Qc prog w).is i (.int i t)=true:=by simp[Qc,Mu]
def cL.typeIs{s:az}(x:cL prog w s.heap k a):s.TypeIs (.ref a) "tuple" := let ⟨o,_,_,_,ho,hc,_⟩:=x;⟨o,ho,hc⟩
theorem cL.inj(hx:cL prog w h x a)(f:cL prog w h y a):x=y:=by obtain⟨x1,g⟩:=x;obtain⟨y1,i⟩:=y;obtain⟨o,t,b,n,ho,_,hd,hi⟩:=hx;obtain⟨o',t',j,k,d,_,c,e⟩:=f;obtain rfl:o=o':=dm (ho.symm.trans d);rw[hd] at c;injection c with h1 _;simp only[Array.mk.injEq,lB,Value.int.injEq,Value.ref.injEq,and_true] at h1;obtain⟨⟨e1,_⟩,e2⟩:=h1;subst e2;have e3:g=i:=hi.inj e;rw[e1,e3]
theorem cL.keeps(x:cL prog w h k a)(ho:h.get? d=some o)(hd:o.data=.dict es ep)(g:gw d h h') :
  cL prog w h' k a:=by
 obtain⟨o',t,b,n,e,hc,c,hi⟩:=x;have f:a≠d:=by rintro rfl;obtain rfl:o'=o:=dm (e.symm.trans ho);rw[hd] at c;exact nomatch c
 exact⟨o',t,b,n,(g.2 a f).trans e,hc,c,hi.keeps ho hd g⟩
def oq(prog:ky)(w:k3)(k:Int×List Int):Int:=ZP (fx [Zt k.1,Z1 (Qc prog w) k.2])
def sB(j:A.units+1<zs)(hk:cL prog w s.heap k a)(h:Q (oq prog w k) { s with toks:=s.toks+(k.2.length+3) }) :
  j4 (kw prog w) A (pyHash (.ref a)) Q E s:=by
 have hT:=hk.typeIs;obtain⟨g,f⟩:=k;obtain⟨o,t,i,n,ho,_,hd,hi⟩:=hk;unfold pyHash
 first|unfold pyHashByItsType|skip
 first|refine jj (wpAny_cRoomFor_or (.inr (!0)) ?_)|skip
 refine jj (Qj hT F.slot_tuple_hash.lookup ?_);show j4 _ _ (if (some (Value.builtin "tuple.__hash__")==some dt)=true then _ else _) Q E s;rw[MA (by rw[beq_builtin_none];exact JC)];refine jj (Qj hT F.slot_tuple_hash.lookup ?_);show j4 _ _ (callSpecialIfBoundUnlessNone? (.ref a) "__hash__" _ >>= _) Q E s;refine jj (wpAny_callSpecialIfBoundUnlessNone?_slot hT F.slot_tuple_hash (KX F.slot_tuple_hash hT F.entry_tuple_hash ?_ (F.args_tuple_hash_1 _)));show j4 _ _ (Builtin.Tuple.tupleItemsOf (.ref a) >>= _) _ _ s;refine jj (Zr ho hd ?_);refine jj ?_;rw[<-mA];refine QM _
  (λrest (b:Array Int) s'=>(rest=[.int g t,.ref i]/\b.toList=[]/\s'=s)\/(rest=[.ref i]/\b.toList=[Zt g]/\s'={ s with toks:=s.toks+1 })\/(rest=[]/\b.toList=[Zt g,Z1 (Qc prog w) f]/\s'={ s with toks:=s.toks+1+(f.length+1) }))
  _ ?_ ?_ _ _ (.inl ⟨rfl,rfl,rfl⟩)
 .rintro x rest b s' (⟨c,d,rfl⟩|⟨c,d,rfl⟩|⟨c,d,rfl⟩)
  .injection c with e1 e2;subst e1 e2;refine jj ((Qc prog w).pyHash (bQ g t) ?_)
   first
    | exact j0 (.inr (.inl ⟨rfl,by simp[d,Qc],rfl⟩))
    | exact jj (j0 (j0 (.inr (.inl ⟨rfl,by simp[d,Qc],rfl⟩))))
  .injection c with e1 e2;subst e1 e2;refine jj (wpAny_pyHash_tuple (knd:=Qc prog w) j hi ?_)
   first
    | exact j0 (.inr (.inr ⟨rfl,by simp[d],rfl⟩))
    | exact jj (j0 (j0 (.inr (.inr ⟨rfl,by simp[d],rfl⟩))))
  .cases c
 .rintro b s' (⟨c,d,rfl⟩|⟨c,d,rfl⟩|⟨c,d,rfl⟩)
  .cases c
  .cases c
  show j4 _ _ (retInt (fx b.toList)) _ _ _;rw[d];refine wpAny_ret_mkInt ?_;show j4 _ _ (if (decide (-(2:Int) ^ 63<=fx _)&&decide (fx _<2 ^ 63))=true then _ else _) Q E _;unfold oq ZP at h;generalize fx [Zt g,Z1 (Qc prog w) f]=z at *;by_cases c:(decide (-(2:Int) ^ 63<=z)&&decide (z<2 ^ 63))=true
  .rw[Mz c];rw[Mz c] at h;refine j0 ?_;have e:s.toks+1+(f.length+1)+1=s.toks+(f.length+3):=!0
   simpa[e] using h
  .rw[MA c];rw[MA c] at h;refine jj (Qr (j0 ?_));have e:s.toks+1+(f.length+1)+1=s.toks+(f.length+3):=!0
   simpa[e] using h
def on(t:A.units<zs)(hx:cL prog w s.heap x a)(o:cL prog w s.heap y b)(h:P (.done (.ret (.bool (decide (x=y))))) s) :
  j4 (kw prog w) A (Builtin.«tuple.__eq__» ⟨[.ref a,.ref b],[]⟩) P E s:=by
 have e:=o.typeIs;obtain⟨x1,c⟩:=x;obtain⟨y1,d⟩:=y;obtain⟨z,ta,p,B,f,_,g,i⟩:=hx;obtain⟨ob,tb,q,C,j,_,k,l⟩:=o;show j4 _ _ (isInstance (.ref b) (.type "tuple") >>= _) _ _ s;refine jj (Qz e Ze ?_);simp only[KH,JL,if_false];refine jj (Zr f g ?_);refine jj (Zr j k ?_);refine jj ?_;refine QM _
  (λrest r s'=>r.1=none/\s'=s/\(rest=[(.int x1 ta,.int y1 tb),(.ref p,.ref q)]\/(rest=[(.ref p,.ref q)]/\x1=y1)\/(rest=[]/\x1=y1/\c=d)))
  _ ?_ ?_ _ _ ⟨rfl,rfl,.inl rfl⟩
 .rintro⟨u,v⟩ rest r s' ⟨m,rfl,(hz|⟨hz,e1⟩|⟨hz,_⟩)⟩
  .simp only[lB,nl] at hz;obtain⟨⟨rfl,rfl⟩,rfl⟩:=hz;refine jj ((Qc prog w).eqBool (bQ x1 ta) (bQ y1 tb) ?_);by_cases hk:x1=y1
   .subst hk;rw[decide_eq_true rfl];simp only[KH,JL,if_false];exact j0 ⟨rfl,rfl,.inr (.inl (!1))⟩
   .rw[decide_eq_false hk];simp only[Mk,if_true];have n:decide ((x1,c)=(y1,d))=false:=by simp[hk]
    rw[n] at h;exact jj (j0 (j0 (j0 h)))
  .simp only[lB,nl] at hz;obtain⟨⟨rfl,rfl⟩,rfl⟩:=hz;refine jj (wpAny_eqBool_tuple t i l ?_);by_cases hk:c=d
   .rw[decide_eq_true hk];simp only[KH,JL,if_false];exact j0 ⟨rfl,rfl,.inr (.inr (by simp[e1,hk]))⟩
   .rw[decide_eq_false hk];simp only[Mk,if_true];have n:decide ((x1,c)=(y1,d))=false:=by simp[hk]
    rw[n] at h;exact jj (j0 (j0 (j0 h)))
  .cases hz
 .rintro⟨D,F⟩ s' ⟨m,rfl,(hz|⟨hz,e1⟩|⟨hz,e1,e2⟩)⟩
  .cases hz
  .cases hz
  simp only at m;subst m;refine j0 ?_;rw[decide_eq_true (by rw[e1,e2])] at h;exact h
def sC(f:A.units+1<zs)(hx:cL prog w s.heap x a)(d:cL prog w s.heap y b)(h:Q (decide (x=y)) s) :
  j4 (kw prog w) A (eqBool (.ref a) (.ref b)) Q E s:=by
 unfold eqBool
 try with_reducible refine k5 ?_
 show j4 _ _ (if (cn a==cn b)=true then _ else _) Q E s;by_cases c:(cn a==cn b)=true
 .rw[Mz c];have e:a=b:=by have:=eq_of_beq c;injection this
  subst e;obtain rfl:=hx.inj d;exact jj (Qr (j0 (by simpa using h)))
 .rw[MA c];exact jj (wpAny_richCompare_same_room (op:=.Eq) hx.typeIs d.typeIs F.slot_tuple_eq
   (KX F.slot_tuple_eq hx.typeIs F.entry_tuple_eq (on f hx d ⟨_,rfl,(λe=>nomatch e),Qf h⟩) (F.args_tuple_eq_2 _ _)) (!0))
def uG(hk:IsTupleKey (Qc prog w) s.heap ks a)(h:Q true s):j4 (kw prog w) A (ZW (n+1) (.ref a)) Q E s:=by
 have hT:=hk.typeIs;obtain⟨o,items,m,ho,_,hd,hi⟩:=hk;unfold ZW;refine jj (Qj hT F.slot_tuple_eq.lookup ?_);show j4 _ _ (isInstance (.ref a) (.type "tuple") >>= _) _ _ s;refine jj (Qz hT Ze ?_);simp only[KH,JL,if_false];refine jj (Qw ho hd ?_);refine jj ?_;show j4 _ _ (forIn items _ _) _ _ s;rw[<-mA];refine QM _ (λrest r s'=>r.1=none/\s'=s/\∀v∈rest,carriedByValue v=true) _ ?_ ?_ _ _ ⟨rfl,rfl,hi.byValue⟩
 .rintro v rest r s' ⟨c,rfl,b⟩;rw[eqIsQuiet_byValue _ (b v Jm)];refine jj (j0 ?_);simp only[KH,JL,if_false];exact j0 ⟨rfl,rfl,λu d=>b u (Jq _ d)⟩
 .rintro⟨e,f⟩ s' ⟨c,rfl,_⟩;simp only at c;subst c;exact j0 h
def tX(hk:cL prog w s.heap k a)(h:Q true s):j4 (kw prog w) A (ZW 8 (.ref a)) Q E s:=by
 have hT:=hk.typeIs;obtain⟨o,t,b,n,ho,_,hd,hi⟩:=hk;unfold ZW;refine jj (Qj hT F.slot_tuple_eq.lookup ?_);show j4 _ _ (isInstance (.ref a) (.type "tuple") >>= _) _ _ s;refine jj (Qz hT Ze ?_);simp only[KH,JL,if_false];refine jj (Qw ho hd ?_);refine jj ?_;show j4 _ _ (forIn _ _ _) _ _ s;rw[<-mA];refine QM _ (λrest r s'=>r.1=none/\s'=s/\∀v∈rest,carriedByValue v=true\/v=.ref b) _ ?_ ?_ _ _ ⟨rfl,rfl,λv hv=>?_⟩
 .rintro v rest r s' ⟨e,rfl,c⟩;rcases c v Jm with hv|rfl
  .rw[eqIsQuiet_byValue _ hv];refine jj (j0 ?_);simp only[KH,JL,if_false];exact j0 ⟨rfl,rfl,λu d=>c u (Jq _ d)⟩
  .refine jj (uG hi ?_);simp only[KH,JL,if_false];exact j0 ⟨rfl,rfl,λu d=>c u (Jq _ d)⟩
 .rintro⟨f,g⟩ s' ⟨e,rfl,_⟩;simp only at e;subst e;exact j0 h
 .simp at hv;rcases hv with rfl|rfl
  .exact .inl rfl
  .exact .inr rfl
end
def aV(prog:ky)(w:k3):HeapKind prog w (Int×List Int) where
 is := cL prog w
 hash:=oq prog w
 draws:=λk=>k.2.length+3
 room:=λA=>A.units+1<zs
 inj:=λhx a=>hx.inj a
 keeps:=λx ho hd c=>x.keeps ho hd c
 pyHash:=λb hk h=>sB b hk h
 eqBool:=λb hx a h=>sC b hx a h
 quiet:=λhk h=>tX hk h
abbrev ay:=Int×List Int
def xp(k:ay):Int:=ZP (fx [Zt k.1,ZP (fx (k.2.map Zt))])
def jC(x:ay×ao×av):QW:=⟨xp x.1,.ref x.2.1,x.2.2⟩
def dR{A:Around}(a:A.units+2<zs):(aV prog w).room A.in1:=a
end _L
namespace _L
open PySem
section
variable {prog:ky}{w:k3}{A:Around}{E:av->az->Prop}{s:az}{d a:ao}{xs:List (ay×ao×av)}{k:ay}{v:av}
def jM(prog:ky)(w:k3)(h:bg)(d:ao)(xs:List (ay×ao×av)):Prop :=
 ∃o ds ep,h.get? d=some o/\o.ExactDict/\o.data=.dict ds ep/\ds.toList=xs.map jC/\(∀x∈xs,cL prog w h x.1 x.2.1)/\(xs.map (·.1)).Nodup/\ep=xs.length
def jM.of(x:jM prog w h d xs):h.DictOfH (aV prog w) d xs:=by obtain⟨o,ds,ep,h1,h2,h3,h4,h5,h6,_⟩:=x;exact⟨o,ds,ep,h1,h2,h3,h4,h5,h6⟩
def ni(m:A.units+1<zs)(b:cL prog w s.heap k a)(q:jM prog w s.heap d xs)
  (hQ:∀h',jM prog w h' d (ZJ xs k a v)->gw d s.heap h'->Q () { s with heap:=h',toks:=s.toks+(k.2.length+3) }) (hsz:xs.length<=sizeLine) :
  j4 (kw prog w) A (dictSet d (.ref a) v) Q E s:=by
 obtain⟨o,es,ep,ho,hc,hd,h,c,hn,n⟩:=q;unfold dictSet
 try with_reducible refine k5 ?_
 refine jj ((aV prog w).pyHash m b ?_);unfold dictSetHashed
 try with_reducible refine k5 ?_
 refine jj (wpAny_dictFind_heap (knd:=aV prog w) (s:={ s with toks:=s.toks+(aV prog w).draws k }) m b ho hd h c hn ?_ ?_)
 .intro f;have g:k ∉ xs.map (·.1):=not_mem_keys_of_get f;refine jj (Qr (wpAny_updateDictKeys (hz:=by have e:=size_of_entries (knd:=aV prog w) h;omega) (s:={ s with toks:=s.toks+(aV prog w).draws k }) ho hd (hQ _ ⟨_,_,ep+1,JW _ ho (r4 (nn hd _)),
   hc.mapDictKeys _,nn hd _,?_,?_,?_,?_⟩ (dk ..))))
  all_goals rw[storedH_new (Zy f)]
  .simp[h,jC,entryOfKey];rfl
  .intro x hx;rcases Jj.mp hx with hx|hx
   .exact(aV prog w).keeps (c x hx) ho hd (dk ..)
   .simp only[Jf] at hx;subst hx;exact(aV prog w).keeps b ho hd (dk ..)
  .rw[Jy,Ju];refine⟨hn,!1,λx hx y i=>?_⟩;simp only[Jr,Kv,Jf] at i;subst i
   exactλe=>g (e▸hx)
  .rw[n];simp
 .intro j p hj;refine jj (Qr (jj (wpAny_updateDict (s:={ s with toks:=s.toks+(aV prog w).draws k }) ho hd (wpAny_point (hQ _ ⟨_,_,ep,JW _ ho (r4 (Mb hd _)),
   hc.mapDict _,Mb hd _,?_,?_,?_,?_⟩ (dk ..))))))
  all_goals rw[storedH_old (atKey_of_get hn hj)]
  .have:=modify_map_putAt jC (λe:QW=>{ e with val:=v }) k v (λ_ _=>rfl) hn hj;rw[<-h] at this;obtain⟨l⟩:=es;simpa using this
  .intro x hx;obtain⟨y,i,rfl⟩:=Jk.mp hx;unfold putAt;split <;> exact(aV prog w).keeps (c y i) ho hd (dk ..)
  .rw[keys_map_putAt];exact hn
  .rw[n];simp
def ut(g:A.in1.units+1<zs)(b:cL prog w s.heap k a)(f:jM prog w s.heap d xs)
  (hQ:∀h',jM prog w h' d (ZJ xs k a v)->gw d s.heap h'->Q () { s with heap:=h',toks:=s.toks+(k.2.length+3) }) (hsz:xs.length<=sizeLine) :
  j4 (kw prog w) A (Q7 (.ref d) (.ref a) v) Q E s:=by
 have hT:=f.of.typeIs;unfold Q7
 try with_reducible refine k5 ?_
 refine jj (wpAny_sequenceKey hT (!2) ?_);refine jj (z4 (name:=gh "__setitem__") hT slot_dict_setitem (KX slot_dict_setitem hT entry_dict_setitem ?_ (args_dict_setitem _ _ _)));show j4 _ _ (Builtin.Dict.notOrdered "__setitem__" ⟨[.ref d,.ref a,v],[]⟩ >>= _) _ _ s;refine jj (Zc hT ?_);show j4 _ _ (dictSet d (.ref a) v >>= _) _ _ s;exact jj (ni g b f (λh' c e=>j0 ⟨.none,rfl,j0 (hQ h' c e)⟩) hsz)
def mV(b:(d==Qb)=false)(ho:s.heap.get? d=some o)(hc:o.ExactDict)(a:o.data=.dict es ep)
  (hQ:Q (.ref s.heap.objs.size) { s with heap:=s.heap.push { cls:=.type "dict_keyiterator",data:=.fields #[.ref d,.int 0 0,.int es.size 0,.int ep 0] } }) :
  j4 (kw prog w) A (pyIter (.ref d)) Q E s:=by
 have hT:s.TypeIs (.ref d) "dict" := ⟨o,ho,hc.1⟩
 refine wpAny_pyIter_slot hT F.slot_dict_iter (KX F.slot_dict_iter hT F.entry_dict_iter ?_ (F.args_dict_iter_1 _));unfold Builtin.«dict.__iter__»;refine jj ?_;unfold Builtin.Dict.dictSlotNone;refine jj (Zc hT ?_);show j4 _ _ (pure (cn d)) _ _ s;refine j0 ?_;show j4 _ _ (x3 d >>= _) _ _ s;unfold x3;rw[MA (by rw[b];exact JC)];refine jj (j0 ?_);refine jj (QH ho a ?_);refine jj (ZI ho a ?_);refine jj (Ql (j0 ⟨_,rfl, "dict_keyiterator",_,⟨_,JA _ rfl,rfl⟩,F.slot_dict_keyiterator_next.lookup,?_⟩));simpa[Qo] using hQ
def qX(a:s.heap.IsKeyIter it d i es.size ep)(c:s.heap.get? d=some od)(e:od.data=.dict es ep)(g:i<es.size)
  (hQ:∀h',h'.IsKeyIter it d (i+1) es.size ep->gw it s.heap h'->Q (some es[i].key) { s with heap:=h' }) :
  j4 (kw prog w) A (QY (.ref it)) Q E s:=by
 obtain⟨o,ho,hc,hd⟩:=id a;unfold QY;refine jj (Q0 (z4 (name:=gh "__next__") a.typeIs F.slot_dict_keyiterator_next
  (KX F.slot_dict_keyiterator_next a.typeIs F.entry_dict_keyiterator_next ?_ (F.args_dict_keyiterator_next_1 _))))
 refine jj (j0 ?_);refine jj ?_;refine jj ?_
 first|refine jj (Qp a.typeIs (j0 ?_))|refine jj (QA a.typeIs (j0 ?_))
 refine jj (wpAny_fieldsOf ho hd ?_);have f:py "dict_keyiterator" = false:=!2
 simp only[f,JL,if_false];show j4 _ _ (if (cn d==dt)=true then _ else _) _ _ s;rw[MA (show ¬((cn d==dt)=true) from JC)];refine jj (j0 ?_);refine jj (QH c e ?_);rw[MA (!1)];refine jj (j0 ?_);refine jj (ZI c e ?_);rw[MA (!1)];refine j0 ?_;simp only[show ¬((i:Int)<0) from by omega,if_false,JN,gV g];refine jj ?_
 first|refine jj (Qp a.typeIs (j0 ?_))|refine jj (QA a.typeIs (j0 ?_))
 refine jj (wpAny_isOneOf_keyiter a.typeIs ?_);show j4 _ _ (setField (.ref it) 1 (Qo ((i:Int)+1)) >>= _) _ _ s;refine jj (Zf ho hd (!1) ?_);have b:(s.heap.update it (Mv (·.setIfInBounds 1 (Qo ((i:Int)+1))))).IsKeyIter it d (i+1) es.size ep :=
  ⟨_,JW _ ho (LG (n6 hd _)),(L1 ..).trans hc,by rw[n6 hd];simp[Qo]⟩
 refine jj (k5 ?_);refine jj (wpAny_isOneOf_keyiter (s:={ s with heap:=s.heap.update it (Mv (·.setIfInBounds 1 (Qo ((i:Int)+1)))) }) b.typeIs ?_);show j4 _ _ (pure es[i].key) _ _ _;exact j0 (j0 ⟨_,rfl,j0 (hQ _ b (dk ..))⟩)
def rN(j:A.handled=none)(c:s.heap.IsKeyIter it d i es.size ep)(e:s.heap.get? d=some od)(f:od.data=.dict es ep)(h:es.size<=i)
  (hQ:∀h',x2 it s.heap h'->Q none { s with heap:=h' }):j4 (kw prog w) A (QY (.ref it)) Q E s:=by
 obtain⟨o,ho,hc,hd⟩:=id c;unfold QY;refine jj (Q0 (z4 (name:=gh "__next__") c.typeIs F.slot_dict_keyiterator_next
  (KX F.slot_dict_keyiterator_next c.typeIs F.entry_dict_keyiterator_next ?_ (F.args_dict_keyiterator_next_1 _))))
 refine jj (j0 ?_);refine jj ?_;refine jj ?_
 first|refine jj (Qp c.typeIs (j0 ?_))|refine jj (QA c.typeIs (j0 ?_))
 refine jj (wpAny_fieldsOf ho hd ?_);have g:py "dict_keyiterator" = false:=!2
 simp only[g,JL,if_false];show j4 _ _ (if (cn d==dt)=true then _ else _) _ _ s;rw[MA (show ¬((cn d==dt)=true) from JC)];refine jj (j0 ?_);refine jj (QH e f ?_);rw[MA (!1)];refine jj (j0 ?_);refine jj (ZI e f ?_);rw[MA (!1)];refine j0 ?_;simp only[show ¬((i:Int)<0) from by omega,if_false,JN,pr h];refine jj ?_
 first|refine jj (Qp c.typeIs (j0 ?_))|refine jj (QA c.typeIs (j0 ?_))
 show j4 _ _ (setField (.ref it) 0 .none >>= _) _ _ s;refine jj (Zf ho hd (!1) ?_);show j4 _ _ (newExc (.type "StopIteration") [] >>= _) _ _ _;refine jj ?_;simp only[newExc,newTuple];refine jj (Ql ?_ (by size_fits));refine jj (m:=Zh _ _) (wpAny_of_eq (a:=dt) (by first|rfl|(simp only[Zh];rfl)) ?_);refine Ql ?_ (by size_fits);simp only[raiseNew];refine jj (wpAny_handled ?_);rw[show A.in1.handled=none from j];refine jj (j0 (wpAny_throw ?_));refine jj (Qz (T := "StopIteration") (b:=true) ⟨_,JA _ rfl,rfl⟩ isSubtype_stop ?_);exact j0 (hQ _ (((dk ..).extBut.push _).push _))
end
end _L
namespace _L
open PySem PySem.Spec PyProof.Rows
def bx(a:ao)(es:List (ay×ao×V))(h:bg):Prop :=
 es.length<=sizeLine/\(a==Qb)=false/\∃xs:List (ay×ao×av),Paired (λ(p:ay×ao×V) (q:ay×ao×av)=>p.1=q.1/\p.2.1=q.2.1/\bD p.2.2 q.2.2) es xs /\
  ∃o ds ep,h.get? a=some o/\o.ExactDict/\o.data=.dict ds ep/\ds.toList=xs.map jC/\(xs.map (·.1)).Nodup/\ep=xs.length
abbrev bi(k:ay):ah:=.tuple [.int k.1,.tuple (k.2.map .int)]
abbrev bz(kvs:List (ay×ah)):ah:=.dict (kvs.map λp=>(bi p.1,p.2))
abbrev fzD(ds:List ah):ah:=.dict [(.none,.list ds)]
def aZ(a:ao)(es:List (Int×V))(h:bg):Prop :=
 es.length<=sizeLine/\(a==Qb)=false/\∃xs:List (Int×av),Paired (λ(p:Int×V) (q:Int×av)=>p.1=q.1/\bD p.2 q.2) es xs/\∀prog w,h.DictOf (Qc prog w) a xs
def aZ.keep(x:aZ a es h)(k:∀o,h.get? a=some o->h'.get? a=some o):aZ a es h':=by obtain⟨a1,a2,xs,b,c⟩:=x;refine⟨a1,a2,xs,b,λp w=>?_⟩;obtain⟨o,es,ep,h1,h2⟩:=c p w;exact⟨o,es,ep,k _ h1,h2⟩
abbrev dG(kvs:List (Int×ah)):ah:=.dict ((.none,.none)::kvs.map λp=>(.int p.1,p.2))
def Fx{α:Type}{n:Nat}{l:List α}(h:l.length=n+1):∃a t,l=a::t:=List.exists_cons_of_length_eq_add_one h
def mP{α:Type}{l:List α}(h:l.length=1):∃a,l=[a]:=List.length_eq_one_iff.mp h
def Fy{α:Type}{l:List α}(h:l.length=2):∃a b,l=[a,b]:=by obtain⟨a,t,rfl⟩:=Fx h;obtain⟨b,rfl⟩:=mP (l:=t) (I1 h);exact⟨a,b,rfl⟩
def HL{α:Type}{l:List α}(h:l.length=3):∃a b c,l=[a,b,c]:=by obtain⟨a,t,rfl⟩:=Fx h;obtain⟨b,c,rfl⟩:=Fy (l:=t) (I1 h);exact⟨a,b,c,rfl⟩
def IL{α:Type}{l:List α}(h:l.length=4):∃a b c d,l=[a,b,c,d]:=by obtain⟨a,t,rfl⟩:=Fx h;obtain⟨b,c,d,rfl⟩:=HL (l:=t) (I1 h);exact⟨a,b,c,d,rfl⟩
mutual
inductive DV (K:cb) (H:Hp):V->ah->Prop
 | non:DV K H .non .none
 | bl (b:Bool):DV K H (.bl b) (.bool b)
 | int (i:Int):DV K H (.int i) (.int i)
 | lst {a:ao}{xs:List V}{ds:List ah}:SqL K H a xs->DVs K H xs ds->DV K H (.ref a) (.list ds)
 | tup {a:ao}{xs:List V}{ds:List ah}:SqT K H a xs->DVs K H xs ds->DV K H (.ref a) (.tuple ds)
 | dct {a:ao}{es:List (ay×ao×V)}{kvs:List (ay×ah)}:H a=some (.ext (bx a es))->DVs K H (es.map λp=>V.ref p.2.1) (kvs.map λp=>bi p.1)->DVs K H (es.map λp=>p.2.2) (kvs.map λp=>p.2)->es.map (λp=>p.1)=kvs.map (λp=>p.1)->DV K H (.ref a) (bz kvs)
 | idc {a:ao}{es:List (Int×V)}{kvs:List (Int×ah)}:H a=some (.ext (aZ a es))->DVs K H (es.map λp=>p.2) (kvs.map λp=>p.2)->es.map (λp=>p.1)=kvs.map (λp=>p.1)->DV K H (.ref a) (dG kvs)
 | fz {v:V}{ds:List ah}:DV K H v (.list ds)->DV K H v (fzD ds)
inductive DVs (K:cb) (H:Hp):List V->List ah->Prop
 | nil:DVs K H [] []
 | cons {x:V}{xs:List V}{d:ah}{ds:List ah}:DV K H x d->DVs K H xs ds->DVs K H (x::xs) (d::ds)
end
def DV.tupI{K:cb}{H:Hp}{v:V}{ds:List ah}(h:DV K H v (.tuple ds)):∃a xs,v=.ref a/\SqT K H a xs/\DVs K H xs ds:=by
 cases h with
 | tup h q=>exact⟨_,_,rfl,h,q⟩
def DV.lstI{K:cb}{H:Hp}{v:V}{ds:List ah}(h:DV K H v (.list ds)):∃a xs,v=.ref a/\SqL K H a xs/\DVs K H xs ds:=by
 cases h with
 | lst h q=>exact⟨_,_,rfl,h,q⟩
def DV.intI{K:cb}{H:Hp}{v:V}{i:Int}(h:DV K H v (.int i)):v=.int i:=by cases h;rfl
def DVs.twoI{K:cb}{H:Hp}{vs:List V}{d e:ah}(h:DVs K H vs [d,e]):∃x y,vs=[x,y]/\DV K H x d/\DV K H y e:=by
 cases h with
 | cons h q =>
  cases q with
  | cons h2 q=>cases q;exact⟨_,_,rfl,h,h2⟩
section
variable {X:Cx}{pins:List (ao×Obj)}{σ:St}{H:Hp}{s:az}
def DVs.ind{K:cb}{H:Hp}{C:List V->List ah->Prop}(n:C [] [])(c:∀{x:V}{xs:List V}{d:ah}{ds:List ah},DV K H x d->DVs K H xs ds->C xs ds->C (x::xs) (d::ds)){v:List V}{d:List ah}(h:DVs K H v d):C v d :=
 DVs.rec (motive_1:=λ_ _ _=>True) (motive_2:=λv d _=>C v d) trivial (λ_=>trivial) (λ_=>trivial)
 (λ_ _ _=>trivial) (λ_ _ _=>trivial)
 (λ_ _ _ _ _ _=>trivial) (λ_ _ _ _=>trivial) (λ_ _=>trivial) n (λh q _ i=>c h q i) h
def DV.reads(I:Inv X pins σ H s)(h:DV X.K H x d):bD x u->d.canLay0=true->∃as,Reads s.heap u d as :=
 DV.rec (motive_1:=λx d _=>∀u:av,bD x u->d.canLay0=true->∃as,Reads s.heap u d as) (motive_2:=λxs ds _=>∀us:List av,aW xs us->ew ds=true->∃as,ReadsAll s.heap us ds as)
 (λu r _=>by cases (show _=dt from r);exact⟨_,.none⟩)
 (λb u r _=>by cases (show _=hI b from r);exact⟨_,.bool b⟩)
 (λi u r _=>by obtain⟨t,rfl⟩:=r;exact⟨_,.int i t⟩)
 (λ{a xs ds} h q i u r l=>by
  cases (show _=cn a from r);obtain⟨its,rv,⟨o,n,e,c,_,hd⟩,_⟩:=I.list h;obtain⟨as,f⟩:=i _ rv (by simpa only[dV] using l);exact⟨_,.list e c hd (by simpa using f)⟩)
 (λ{a xs ds} h q i u r l=>by
  cases (show _=cn a from r);obtain⟨its,rv,⟨o,e,c,n,hd⟩,_⟩:=I.tuple h;obtain⟨as,f⟩:=i _ rv (by simpa only[dV] using l);exact⟨_,.tuple e c hd (by simpa using f)⟩)
 (λ_ _ _ _ _ _ _ _ l=>by simp[dV] at l) (λ_ _ _ _ _ _ l=>by simp[dV] at l) (λ_ _ _ _ l=>by simp[dV] at l)
 (λus r _=>by rw[aW.zero r];exact⟨_,.nil⟩)
 (λ_ _ i j us r l=>by
  simp only[ew,JT] at l;obtain⟨u,vs,rfl,g,k⟩:=aW.consI r;obtain⟨as,f⟩:=i u g l.1;obtain⟨bs,m⟩:=j vs k l.2;exact⟨_,.cons f m⟩) h u
theorem bW:∀a:List Int,ew (a.map eb)=true
 | []=>rfl
 | n::a=>by simp only[Jr,ew,dV,K8,bW a]
abbrev shp(d:ah):Prop:=lx d=true
def Gh(K:cb):R2:=λx y H Q=>∃d e,DV K H x d/\DV K H y e/\shp d/\shp e/\Q (.bl (eA d e)) H
def Gf(K:cb):R2:=λx y H Q=>∃d e,DV K H x d/\DV K H y e/\shp d/\shp e/\Q (.bl (!PyData.eqv d e)) H
def Em(a:X.A.units+64<zs):OpR X (k0 .Eq) (Gh X.K):=by intro pins s σ H x y v u Q I b c h;obtain⟨d,e,h1,h2,s1,s2,q⟩:=h;obtain⟨as,f⟩:=h1.reads I b (fy s1);obtain⟨bs,g⟩:=h2.reads I c (fy s2);exact eq_dataH f g s1 s2 a ⟨.bl _,H,I,rfl,q⟩
def Eh(a:X.A.units+64<zs):OpR X (k0 .NotEq) (Gf X.K):=by intro pins s σ H x y v u Q I b c h;obtain⟨d,e,h1,h2,s1,s2,q⟩:=h;obtain⟨as,f⟩:=h1.reads I b (fy s1);obtain⟨bs,g⟩:=h2.reads I c (fy s2);exact ne_dataH f g s1 s2 a ⟨.bl _,H,I,rfl,q⟩
def oI(K:cb):R2:=λx y H Q=>∃d ds,DV K H x d/\DV K H y (.list ds)/\shp d/\shp (.list ds)/\Q (.bl (!ds.any λe=>eA e d)) H
def xu(h:shp (.list ds)):ew ds=true/\ir ds<=63:=by have a:=fy h;have b:=p7 h;simp only[lu] at b;exact⟨a,!0⟩
def u9(f:X.A.units+80<zs):OpR X (k0 .NotIn) (oI X.K):=by intro pins s σ H x y v u Q I a b h;obtain⟨d,ds,h1,h2,s1,s2,q⟩:=h;obtain⟨as,c⟩:=h1.reads I a (fy s1);obtain⟨bs,e⟩:=h2.reads I b (fy s2);obtain⟨l1,l2⟩:=xu s2;have:=KC (ir ds) d.depth;exact SeqAt.notIn_list_reads e c l1 (fy s1) (!0) ⟨.bl _,H,I,rfl,q⟩
theorem jG:∀{bs:List Bool}{us:List av},aW (bs.map V.bl) us->LSm.BoolsAre us bs
 | [],_,.nil=>.nil
 | b::bs,_,.cons r t=>by
  cases (show _=hI b from r);exact .cons b (jG t)
def y9(hc:X.calm=true):eJ X (.builtin "all") (λxs H Q=>∃(a:ao) (bs:List Bool),xs=[.ref a]/\SqL X.K H a (bs.map V.bl)/\Q (.bl (bs.all id)) H):=by
 intro pins s σ H xs us Q I r h;obtain⟨a,bs,rfl,g,q⟩:=h;obtain⟨u,rfl,j⟩:=gK r;cases (show u=cn a from j);obtain⟨its,rv,p,_⟩:=I.list g;have f:=jG rv;have c:=p.isList;have d:a<s.heap.objs.size:=by obtain⟨_,e,_⟩:=c;exact Jv e
 refine call_all_walk (Qu c ?_);refine⟨s.heap.objs.size,[s.heap.objs.size,a],[s.heap.objs.size],its.toArray.size,_,_,λi=>(bs[i]?).getD true,rfl,Walks.list (A:=X.A.in1) (I.ok.hd hc) _ a (JH d) its.toArray,
  ⟨⟨_,JA _ rfl,rfl,rfl⟩,c.push _⟩,λi v s' k E' hP hQ=>?_,λh' tk hk=>?_⟩
 .obtain⟨b,e,rfl⟩:=f.get i v (by simpa using hP);simp only[e,LO] at hQ;exact Qf hQ
 .have e:((cu its.toArray.size).all λi=>(bs[i]?).getD true)=bs.all id:=by
   rw[Jw,f.length];exact LSm.range_all bs
  rw[e];exact⟨.bl _,H,I.kept (LSm.kept_iter hk),rfl,q⟩
def y8(hc:X.calm=true):eJ X (.builtin "any") (λxs H Q=>∃(a:ao) (bs:List Bool),xs=[.ref a]/\SqL X.K H a (bs.map V.bl)/\Q (.bl (bs.any id)) H):=by
 intro pins s σ H xs us Q I r h;obtain⟨a,bs,rfl,g,q⟩:=h;obtain⟨u,rfl,j⟩:=gK r;cases (show u=cn a from j);obtain⟨its,rv,p,_⟩:=I.list g;have f:=jG rv;have c:=p.isList;have d:a<s.heap.objs.size:=by obtain⟨_,e,_⟩:=c;exact Jv e
 refine call_any_walk (Qu c ?_);refine⟨s.heap.objs.size,[s.heap.objs.size,a],[s.heap.objs.size],its.toArray.size,_,_,λi=>(bs[i]?).getD false,rfl,Walks.list (A:=X.A.in1) (I.ok.hd hc) _ a (JH d) its.toArray,
  ⟨⟨_,JA _ rfl,rfl,rfl⟩,c.push _⟩,λi v s' k E' hP hQ=>?_,λh' tk hk=>?_⟩
 .obtain⟨b,e,rfl⟩:=f.get i v (by simpa using hP);simp only[e,LO] at hQ;exact Qf hQ
 .have e:((cu its.toArray.size).any λi=>(bs[i]?).getD false)=bs.any id:=by
   rw[Jw,f.length];exact LSm.range_any bs
  rw[e];exact⟨.bl _,H,I.kept (LSm.kept_iter hk),rfl,q⟩
def DK(K:cb):R2:=λx y H Q=>∃a b xs ys,x=.ref a/\y=.ref b/\SqT K H a xs/\SqT K H b ys/\xs.length+ys.length<=sizeLine /\
 (xs=[]->Q (.ref b) H)/\(xs≠[]->ys=[]->Q (.ref a) H)/\(xs≠[]->ys≠[]->∀p,H p=none->Q (.ref p) (upd H p (.tup (xs++ys))))
def BE:OpR X (Qt .Add) (DK X.K):=by
 intro pins s σ H x y v u Q I j k h;obtain⟨a,b,xs,ys,rfl,rfl,l,m,hz,q0,q1,q2⟩:=h;by_cases hx:xs=[]
 .subst hx;cases (show v=cn a from j);cases (show u=cn b from k);obtain⟨its,v1,p,_⟩:=I.tuple l;obtain⟨c,r,p2,_⟩:=I.tuple m;cases v1;obtain⟨⟨cls,dd,data,sl⟩,ho,hc,n,hd⟩:=id p;obtain⟨⟨o,g,data2,i⟩,d,e,q,f⟩:=id p2;simp only at hc hd e f;subst hc hd e f;exact Zu ⟨_,ho,rfl⟩ ⟨_,d,rfl⟩ ZD ZU oS oj (n0 _ _)
   (tuple_addW0 a b #[] c.toArray n q dd g sl i rfl) ⟨ho,d,.ref b,H,I,rfl,q0 rfl⟩
 .exact BD pins s σ H _ _ v u Q I j k ⟨a,b,xs,ys,rfl,rfl,l,m,hx,hz,q1 hx,q2 hx⟩
end
def iI:Bool->bg->ao->Array av->Prop
 | false,h,a,xs=>h.IsList a xs
 | true,h,a,xs=>h.IsTuple a xs
def iJ:Bool->bg->ao->ao->Nat->Prop
 | false,h,it,a,i=>h.IsListIter it a i
 | true,h,it,a,i=>h.IsTupleIter it a i
def iI.at(p:iI b h a xs)(k:∀o,h.get? a=some o->h'.get? a=some o):iI b h' a xs:=by
 cases b with
 | false=>obtain⟨o,e,r⟩:=p;exact⟨o,k o e,r⟩
 | true=>obtain⟨o,e,r⟩:=p;exact⟨o,k o e,r⟩
def iJ.at(p:iJ b h it a i)(k:∀o,h.get? it=some o->h'.get? it=some o):iJ b h' it a i:=by
 cases b with
 | false=>obtain⟨o,e,r⟩:=p;exact⟨o,k o e,r⟩
 | true=>obtain⟨o,e,r⟩:=p;exact⟨o,k o e,r⟩
def iI.obj(p:iI b h a xs):∃o n,h.get? a=some o/\o.data=.seq xs n:=by
 cases b with
 | false=>obtain⟨o,e,_,n,d⟩:=p;exact⟨o,n,e,d⟩
 | true=>obtain⟨o,e,_,n,d⟩:=p;exact⟨o,n,e,d⟩
def iJ.obj(p:iJ b h it a i):∃o,h.get? it=some o/\o.data=.fields #[.ref a,.int i 0]:=by
 cases b with
 | false=>obtain⟨o,e,_,d⟩:=p;exact⟨o,e,d⟩
 | true=>obtain⟨o,e,_,d⟩:=p;exact⟨o,e,d⟩
section
def xX(a:s.heap.IsTupleIter it t i)(d:s.heap.IsTuple t items)(hx:items[i]? = some x)
  (hQ:∀h',h'.IsTupleIter it t (i+1)->gw it s.heap h'->Q x { s with heap:=h' }):j4 (kw prog w) A (eg (.ref it)) Q E s:=by obtain⟨o,ho,hc,hd⟩:=id a;obtain⟨e,b,_,f,c⟩:=d;unfold eg;refine jj (z4 (name:=gh "__next__") a.typeIs F.slot_tuple_iterator_next (KX F.slot_tuple_iterator_next a.typeIs F.entry_tuple_iterator_next ?_ (F.args_tuple_iterator_next_1 _)));show j4 _ _ (ZV (.ref it) 0 >>= _) _ _ s;refine jj (Qq ho hd (x:=.ref t) rfl ?_);show j4 _ _ (if (cn t==dt)=true then _ else _) _ _ s;rw[MA (show ¬((cn t==dt)=true) from JC)];show j4 _ _ (ZV (.ref it) 1 >>= _) _ _ s;refine jj (Qq ho hd (x:=.int i 0) rfl ?_);show j4 _ _ (seqItems? (.ref t) >>= _) _ _ s;refine jj (Qw b c ?_);simp only[JN,hx];refine jj (Zf ho hd (!1) (j0 ⟨x,rfl,j0 (hQ _ ?_ (dk ..))⟩));refine⟨_,JW _ ho (LG (n6 hd _)),(L1 ..).trans hc,?_⟩;rw[n6 hd];simp[Qo]
def o7(f:A.handled=none)(b:s.heap.IsTupleIter it t i)(g:s.heap.IsTuple t items)(hx:items[i]? = none)
  (hE:∀h' e,x2 it s.heap h'->(∃o,h'.get? e=some o/\o.cls=.type "StopIteration")->E (.ref e) { s with heap:=h' }):j4 (kw prog w) A (eg (.ref it)) Q E s:=by
 obtain⟨o,ho,hc,hd⟩:=id b;obtain⟨h,c,_,j,d⟩:=g;unfold eg;refine jj (z4 (name:=gh "__next__") b.typeIs F.slot_tuple_iterator_next (KX F.slot_tuple_iterator_next b.typeIs F.entry_tuple_iterator_next ?_ (F.args_tuple_iterator_next_1 _)));show j4 _ _ (ZV (.ref it) 0 >>= _) _ _ s;refine jj (Qq ho hd (x:=.ref t) rfl ?_);show j4 _ _ (if (cn t==dt)=true then _ else _) _ _ s;rw[MA (show ¬((cn t==dt)=true) from JC)];show j4 _ _ (ZV (.ref it) 1 >>= _) _ _ s;refine jj (Qq ho hd (x:=.int i 0) rfl ?_);show j4 _ _ (seqItems? (.ref t) >>= _) _ _ s;refine jj (Qw c d ?_);simp only[JN,hx];refine jj (Qr (jj (Zf ho hd (!1) ?_)));show j4 _ _ (newExc (.type "StopIteration") [] >>= _) _ _ _;refine jj ?_;simp only[newExc,newTuple];refine jj (Ql ?_ (by size_fits));refine jj (m:=Zh _ _) (wpAny_of_eq (a:=dt) (by first|rfl|(simp only[Zh];rfl)) ?_);refine Ql ?_ (by size_fits);simp only[raiseNew];refine jj (wpAny_handled ?_)
 first|rw[show A.in1.handled=none from f]|rw[f]
 exact jj (j0 (wpAny_throw (hE _ _ (((dk ..).extBut.push _).push _) ⟨_,JA _ rfl,rfl⟩)))
def xY(c:iJ b s.heap it a i)(d:iI b s.heap a items)(hx:items[i]? = some x)
  (hQ:∀h',iJ b h' it a (i+1)->gw it s.heap h'->Q x { s with heap:=h' }):j4 (kw prog w) A (eg (.ref it)) Q E s:=by
 cases b with
 | false=>exact QG c d hx hQ
 | true=>exact xX c d hx hQ
def o8(d:A.handled=none)(c:iJ b s.heap it a i)(f:iI b s.heap a items)(hx:items[i]? = none)
  (hE:∀h' e,x2 it s.heap h'->(∃o,h'.get? e=some o/\o.cls=.type "StopIteration")->E (.ref e) { s with heap:=h' }):j4 (kw prog w) A (eg (.ref it)) Q E s:=by
 cases b with
 | false=>exact Zd d c f hx hE
 | true=>exact o7 d c f hx hE
end
def nh(b:Bool)(g:A.handled=none)(it a:ao)(c:a≠it)(items:Array av) :
  Draws prog w A it [it,a] items.size (λi v=>items[i]? = some v) (λi h=>iJ b h it a i/\iI b h a items) where
 live:=λ_ _ st=>by obtain⟨o,e,_⟩:=st.1.obj;exact⟨o,e⟩
 frame:=λ_ _ _ st hk=>⟨st.1.at λo e=>hk it (!1) o e,st.2.at λo e=>hk a (!1) o e⟩
 item:=λi s Q E hi st hQ=>xY st.1 st.2 (x:=items[i]) (by simp[hi]) λh' d f=>hQ _ h' s.toks (by simp[hi]) ⟨d,st.2.at λo e=>f.extBut a o c e⟩ f
 done:=λs Q E st hE=>o8 g st.1 st.2 (!1) hE
def SqB(K:cb)(H:Hp):Bool->ao->List V->Prop
 | false,a,xs=>SqL K H a xs
 | true,a,xs=>SqT K H a xs
section
variable {X:Cx}{pins:List (ao×Obj)}{σ:St}{H:Hp}{s:az}
def Inv.seq(I:Inv X pins σ H s)(h:SqB X.K H b a xs):∃its:List av,aW xs its/\iI b s.heap a its.toArray:=by
 cases b with
 | false=>obtain⟨its,r,p,_⟩:=I.list h;exact⟨its,r,p.isList⟩
 | true=>obtain⟨its,r,p,_⟩:=I.tuple h;exact⟨its,r,p⟩
def Inv.seq_inj(I:Inv X pins σ H s)(h:SqB X.K H b a xs)(h':SqB X.K H b a ys):xs=ys:=by
 cases b with
 | false=>exact I.list_inj h h'
 | true=>exact I.tuple_inj h h'
def Inv.turnedN{fp:List ao}{h':bg}{t':Nat}(I:Inv X pins σ H s)(d:∀b∈fp,iK X pins H b)(k:∀b o,b ∉ fp->s.heap.get? b=some o->h'.get? b=some o):Inv X pins σ H { s with heap:=h',toks:=t' }:=by
 have a:∀b u,H b=some u->b ∉ fp:=λb u e z=>by rw[(d b z).1] at e;cases e
 refine I.step (g':=s.gens) (d':=s.drawn) (ch:=fp) (λb f=>?_) (λb o _ _ hc e _=>k b o hc e) (λb o _ _ hc e _=>⟨o.slots,k b o hc e⟩) (λ_ _ _ _ n=>n) (λb o hc e=>⟨o,k b o hc e⟩) (λ_ _ e=>e) (λ_ _ _ e=>e)
  (λ_ _ e=>e) (λm g=>?_) (λb u e=>?_) I.bare
 .obtain⟨p,h,t,i,j,l⟩:=d b f;exact⟨i,h,j,l⟩
 .obtain⟨o,es,ep,ho,r⟩:=g;exact⟨o,es,ep,k _ o (λz=>(d _ z).2.1 rfl) ho,r⟩
 .refine(I.hok b u e).stay (λc v hc q=>k c v ?_ q) (λ_ q=>q) λ_ _ _ q=>q;rcases hc with z|z
  .rw[z];exact a b u e
  .exact a c _ z
def Inv.track(I:Inv X pins σ H s)(f:iK X pins H T)(new:ft X.prog X.w (upd H T o) s.heap T o):Inv X pins σ (upd H T o) s:=by
 obtain⟨g,h,p,i,j,k⟩:=f;have a:∀b u,H b=some u->b≠T:=λb u e z=>by rw[z,g] at e;cases e
 have q:=I.step (h':=s.heap) (H':=upd H T o) (g':=s.gens) (d':=s.drawn) (t':=s.toks) (ch:=[T]) (λb d=>by
   have e:b=T:=by simpa using d
   rw[e];exact⟨i,h,j,k⟩) (λb o _ _ _ e _=>e) (λb o _ _ _ e _=>⟨o.slots,e⟩) (λb o' hc _ n=>by rw[au (λz=>hc (by simp[z]))];exact n) (λb o' _ e=>⟨o',e⟩)
  (λb xs e=>by rw[au (a b _ e)];exact e) (λb o' u e=>by rw[au (a b _ e)];exact e) (λb ps e=>by rw[au (a b _ e)];exact e) (λm l=>l) (λb u e=>?_) I.bare
 .exact q
 .by_cases d:b=T
  .subst d;rw[aB] at e;cases e;exact new
  .rw[au d] at e;exact(I.hok b u e).stay (λ_ _ _ q=>q) (λc q=>by rw[au (a c _ q)];exact q) λc xs _ q=>by rw[au (a c _ q)];exact q
end
def Ite(K:cb)(b:Bool)(a:ao):It :=
 ⟨λi H=>∃xs x,SqB K H b a xs/\xs[i]? = some x,λi H v H'=>∃p x,v=.ref p/\H p=none/\H'=upd H p (.tup [.int i,x])/\∀xs,SqB K H b a xs->xs[i]? = some x,λi H=>∃xs,SqB K H b a xs/\xs.length=i⟩
def tP{P:ky}{w:k3}{K:cb}{es:List bb}{R:Nat}{pos:Pos}(b:Bool)(a it e:ao)(f:e≠it) :
  Av P w K (.Tuple es R pos) (Ite K b a) [e,it] e (λi h=>(∃old,IsEnum h e it i old)/\iJ b h it a i) where
 mem:=!1
 obj := λi h st c hc=>by
  obtain⟨⟨old,d⟩,st⟩:=st;rcases Jo.mp hc with rfl|hc
  .exact⟨_,d,λv z=>by
    have S:Data.fields _=Data.cell v:=z;cases S⟩
  .have B:c=it:=by simpa using hc
   subst B;obtain⟨o,ho,hd⟩:=st.obj;exact⟨o,ho,λv z=>by rw[hd] at z;cases z⟩
 keep:=λi h h' st k=>by
  obtain⟨⟨old,d⟩,st⟩:=st;exact⟨⟨old,k e (!1) _ d⟩,st.at λo q=>k it (!1) o q⟩
 item := by
  intro X hP hw hK hc i pins s σ H E I r st hg;subst hP hw hK;obtain⟨xs,x,hq,hx⟩:=hg;obtain⟨⟨old,d⟩,st⟩:=st;obtain⟨its,rv,n⟩:=I.seq hq;obtain⟨u,O,U⟩:=rv.get hx;obtain⟨V,Y,g,m⟩:=n.obj;obtain⟨Z,t,C⟩:=st.obj;have j:a≠it:=λz=>by rw[z,t] at g;cases g;rw[C] at m;cases m
  have D:e≠a:=λz=>by rw[<-z,d] at g;cases g;cases m
  have F:i<its.toArray.size:=by have:=(Js.mp O).1;simpa using this
  refine wpAny_pyNext_enum_itemD (nh (A:=X.A.in1) b (I.ok.hd hc) it a j its.toArray) d ⟨st,n⟩ F f (by simp[f,D]) λy h1 tk G p J hT hz hk=>?_;have ey:y=u:=by
   have:its[i]? = some y:=by simpa using G
   rw[O] at this;exact(dm this).symm
  subst ey;refine⟨_,rfl,wpAny_letOwnedTupleGo_enum p λh2 L l=>?_⟩;have elt:e<s.heap.objs.size:=Jv d;have M:it<s.heap.objs.size:=Jv t;have I2:Inv X pins σ H { s with heap:=h2,toks:=tk+1 }:=I.turnedN r λc o hc q=>l.extBut c o (λz=>hc (by simp[z])) (hk c o (λz=>hc (by simp[z])) (λz=>hc (by simp[z])) q);have g2:h2.get? s.heap.objs.size=some { cls:=.type "tuple",data:=.seq #[.int i tk,y] }:=l.extBut _ _ (J2 elt) hT;have hn:H s.heap.objs.size=none:=I.hok.fresh (Jx _);refine⟨.ref s.heap.objs.size,upd H s.heap.objs.size (.tup [.int i,x]),I2.track (T:=s.heap.objs.size) (o:=.tup [.int i,x]) (I.fpOk (Jx _) hn) ?_,rfl,?_,⟨⟨y,L⟩,?_⟩,λc hc=>?_⟩
  .exact⟨by show 2<=sizeLine;decide,[.int i tk,y],.cons ⟨tk,rfl⟩ (.cons U .nil),_,g2,rfl,⟨_,rfl⟩,rfl⟩
  .exact⟨_,x,rfl,hn,rfl,λys G=>by rw[I.seq_inj G hq];exact hx⟩
  .exact J.1.at λo q=>l.extBut it o (Ne.symm f) q
  .have:c<s.heap.objs.size:=by
    rcases Jo.mp hc with rfl|hc
    .exact elt
    .have B:c=it:=by simpa using hc
     rw[B];exact M
   rw[au (JH this)];exact(r c hc).1
 done:=by
  intro X hP hw hK hc i pins s σ H E I r st hg;subst hP hw hK;obtain⟨xs,hq,hx⟩:=hg;obtain⟨⟨old,d⟩,st⟩:=st;obtain⟨its,rv,n⟩:=I.seq hq;obtain⟨V,Y,g,m⟩:=n.obj;obtain⟨Z,t,C⟩:=st.obj;have j:a≠it:=λz=>by rw[z,t] at g;cases g;rw[C] at m;cases m
  have hl:=rv.length;have ez:its.toArray.size=i:=by simp;omega
  refine wpAny_pyNext_enum_endD (nh (A:=X.A.in1) b (I.ok.hd hc) it a j its.toArray) d (by rw[ez];exact⟨st,n⟩) λh' N=>⟨rfl,?_⟩
  exact I.turnedN (t':=s.toks) r λc o hc q=>N c o (λz=>hc (by simp[z])) q
 self:=λA i s Q E st h=>by
  obtain⟨⟨old,d⟩,st⟩:=st;exact wpAny_pyIter_enum d h
abbrev pq(b:Bool)(a:ao):Obj:={ cls:=.type (if b then "tuple_iterator" else "list_iterator"),data:=.fields #[.ref a,.int 0 0] }
def yz(e:h.get? it=some (pq b a)):iJ b h it a 0:=by
 cases b with
 | false=>exact⟨_,e,rfl,rfl⟩
 | true=>exact⟨_,e,rfl,rfl⟩
def mU(c:iI b s.heap a items)
  (hQ:Q (.ref s.heap.objs.size) { s with heap:=s.heap.push (pq b a) }):j4 (kw prog w) A (pyIter (.ref a)) Q E s:=by
 cases b with
 | false=>exact Qu c hQ
 | true=>exact wpAny_pyIter_tuple c hQ
open AutoSeq1 (wpAny_loadPart') in
def vP(l:ao)(items:Array av)(n:Nat)(dct:Option ao)(sl:Array (Option av)) :
  Meets (Builtin.«enumerate.__new__» ⟨[.type "enumerate",.ref l],[]⟩) (λ_ R s=>s.heap.get? l=some { cls:=.type "tuple",dict:=dct,data:=.seq items n,slots:=sl } /\
   R (.ok (.ret (.ref (s.heap.push (pq true l)).objs.size))) { s with heap:=(s.heap.push (pq true l)).push { cls:=.type "enumerate",data:=.fields #[.none,.bool false,.ref s.heap.objs.size,Qo 0,.none,.none] } }) :=
 .of_wp λprog w A R s h=>by
  obtain⟨e,g,d,tk,os⟩:=s;obtain⟨a,h⟩:=h;have b:=sub_enumerate;have hL:iI true (Shared.heap ⟨e,g,d,tk,os⟩) l items:=⟨_,a,rfl,n,rfl⟩
  wp_walk using wpAny_loadPart' a
  refine wpAny_stack_any λst=>j0 ?_;split
  .rename_i c _ _ _ _ _;cases (c==i4 "enumerate") <;> (wp_walk using wpAny_loadPart' a,mU hL) <;> exact⟨_,rfl,h⟩
  .wp_walk using wpAny_loadPart' a,mU hL
   exact⟨_,rfl,h⟩
section
variable {s:az}
def vQ(hL:iI b s.heap l items)
  (h : ∀h',IsEnum h' (s.heap.objs.size+1) s.heap.objs.size 0 .none->iJ b h' s.heap.objs.size l 0->h'.objs.size=s.heap.objs.size+2->(∀c o,s.heap.get? c=some o->h'.get? c=some o)->Q (.ref (s.heap.objs.size+1)) { s with heap:=h' }) :
  j4 (kw prog w) A (call (.type "enumerate") [.ref l]) Q E s:=by
 cases b with
 | false=>exact call_enumerate_list hL h
 | true =>
  obtain⟨⟨c,dct,d,sl⟩,e,hc,n,hd⟩:=hL;replace hc:c=.type "tuple" := hc;replace hd:d=.seq items n:=hd;subst hc hd;refine callType_new F.called_enumerate (!2) (F.typeCall_enumerate_1 _) (F.newCall_enumerate_1 _) (λobj=>F.args_object_init_2 obj _) F.entry_enumerate_new (vP l items n dct sl) ⟨e,?_⟩;have hz:(s.heap.push (pq true l)).objs.size=s.heap.objs.size+1:=Kt ..;show _/\_;rw[hz];have a:IsEnum ((s.heap.push (pq true l)).push { cls:=.type "enumerate",data:=.fields #[.none,.bool false,.ref s.heap.objs.size,Qo 0,.none,.none] }) (s.heap.objs.size+1) s.heap.objs.size 0 .none:=by have q:=JA (s.heap.push (pq true l)) (o:={ cls:=.type "enumerate",data:=.fields #[.none,.bool false,.ref s.heap.objs.size,Qo 0,.none,.none] }) rfl;rw[hz] at q;exact q
  exact⟨⟨_,a,rfl⟩,h _ a (yz (Jn _ (JA _ rfl))) (by rw[Kt,hz]) λc o x=>Jn _ (Jn _ x)⟩
end
section
def EU(K:cb)(b:Bool)(ta:TA):TI:=λσ H R=>ta σ H λvs H1=>∃a xs,vs=[.ref a]/\SqB K H1 b a xs/\R (Ite K b a) H1
def Br(b:Bool)(hg:Gl X "enumerate")(n:X.mg "enumerate" = none)(g:QJ "enumerate" = some (.type "enumerate"))(o:PA X [a] ta)(r:j1 [a] X.env=[(false,eval a X.env)]:=by rfl) :
  PI X (.Tuple es m f) (.Call (.Name "enumerate" p) [a] [] pos) (EU X.K b ta):=by
 intro pins s σ H R I h;refine Call_ (gA I hg n g (eE (thn (o pos pins s σ H _ I h) λus s1 i=>?_) r rfl));obtain⟨vs,H1,d,t,q1⟩:=i;obtain⟨l,xs,rfl,hq,q⟩:=q1;obtain⟨u,rfl,v⟩:=gK t;cases (show u=cn l from v);obtain⟨its,rv,hL⟩:=d.seq hq;refine vQ hL λh' k j hz hk=>wpAny_pyIter_enum k ?_;have w:Inv X pins σ H1 { s1 with heap:=h' }:=d.kept (t':=s1.toks) hk;refine⟨s1.heap.objs.size+1,[s1.heap.objs.size+1,s1.heap.objs.size],_,_,H1,rfl,w,tP b l s1.heap.objs.size (s1.heap.objs.size+1) (J2 (KB _)),⟨⟨_,k⟩,j⟩,λc hc=>?_,q⟩;rcases Jo.mp hc with rfl|hc
 .exact d.fpOk (Ku _) (d.hok.fresh (Ku _))
 .have e:c=s1.heap.objs.size:=by simpa using hc
  rw[e];exact d.fpOk (Jx _) (d.hok.fresh (Jx _))
end
def qo{X:Cx}{pins:List (ao×Obj)}{σ:St}{H:Hp}{s:az}{b:Bool}{a c:ao}{xs:List V}(I:Inv X pins σ H s)(h:SqB X.K H b a xs)(f:iK X pins H c):a≠c:=by
 obtain⟨g,i,j,d,k,l⟩:=f;have key:(∃o,H a=some o)\/∃o,X.K.lookup a=some o:=by
  cases b with
  | false =>
   rcases h with (h|⟨o,h⟩)|⟨o,_,_,hk,_⟩
   .exact .inl ⟨_,h⟩
   .exact .inl ⟨_,h⟩
   .exact .inr ⟨o,hk⟩
  | true =>
   rcases h with (h|⟨o,h⟩)|⟨o,_,_,hk,_⟩
   .exact .inl ⟨_,h⟩
   .exact .inl ⟨_,h⟩
   .exact .inr ⟨o,hk⟩
 rintro rfl;rcases key with⟨o,e⟩|⟨o,e⟩
 .rw[g] at e;cases e
 .have q:=I.ok.mod.kin a o e;rcases d with d|d
  .exact I.ok.noex a o q d
  .exact absurd (Jp (Jv q) (Jt I.ok.bsz d)) (Kn _)
def Itz(K:cb)(b c:Bool)(l1 l2:ao):It :=
  ⟨λi H=>∃xs ys x y,SqB K H b l1 xs/\SqB K H c l2 ys/\xs[i]? = some x/\ys[i]? = some y,
   λi H v H'=>∃p x y,v=.ref p/\H p=none/\H'=upd H p (.tup [x,y])/\(∀xs,SqB K H b l1 xs->xs[i]? = some x)/\∀ys,SqB K H c l2 ys->ys[i]? = some y,
   λi H=>∃xs ys,SqB K H b l1 xs/\SqB K H c l2 ys/\(xs.length<=i\/ys.length<=i)⟩
structure ZAp(z TI TO i1 i2:ao):Prop where
 TIz:TI≠z
 TOz:TO≠z
 i1z:i1≠z
 i2z:i2≠z
 TITO:TI≠TO
 TIi1:TI≠i1
 TIi2:TI≠i2
 TOi1:TO≠i1
 TOi2:TO≠i2
 i12:i1≠i2
section
def HN(K:cb)(b c:Bool)(ta:TA):TI:=λσ H R=>ta σ H λvs H1=>∃l1 l2 xs ys,vs=[.ref l1,.ref l2]/\SqB K H1 b l1 xs/\SqB K H1 c l2 ys/\R (Itz K b c l1 l2) H1
end
def SnL(K:cb)(N:ao->Prop)(H:Hp)(a:ao)(xs:List V):Prop :=
 (Rd H a (.lst xs)/\¬N a)\/∃(o:Obj) (its:Array av) (n:Nat),K.lookup a=some o/\o.cls=.type "list" /\ o.dict=none/\o.data=.seq its n/\its.size<=sizeLine/\aW xs its.toList
def SnT(K:cb)(N:ao->Prop)(H:Hp)(a:ao)(xs:List V):Prop :=
 (Rd H a (.tup xs)/\¬N a)\/∃(o:Obj) (its:Array av) (n:Nat),K.lookup a=some o/\(o.cls=.type "tuple" /\ o.dict=none)/\o.data=.seq its n/\its.size<=sizeLine/\aW xs its.toList
def aX(N:ao->Prop)(H H':Hp):Prop:=∀b o,¬N b->H b=some o->H' b=some o
def aX.refl:aX N H H:=λ_ _ _ e=>e
def aX.trans(a:aX N H H1)(b:aX N H1 H2):aX N H H2:=λc o n e=>b c o n (a c o n e)
def aX.own(h:N p):aX N H (upd H p o):=λb u n e=>by
 have q:b≠p:=λz=>n (by rw[z];exact h);rw[au q];exact e
def aX.mono(a:aX N H H')(h:∀b,N b->M b):aX M H H':=λb o n e=>a b o (λz=>n (h b z)) e
def aX.same(a:be H H'):aX N H H':=λb o _ e=>a b o e
abbrev N0:ao->Prop:=λ_=>False
abbrev N1(d:ao):ao->Prop:=λb=>b=d
def aX.none(a:aX N0 H H'):be H H':=λb o e=>a b o (λz=>z) e
section
variable {K:cb}{N M:ao->Prop}{H H':Hp}{a:ao}{xs:List V}
def SnL.of(h:H a=some (.lst xs))(n:¬N a):SnL K N H a xs:=.inl ⟨.inl h,n⟩
def SnT.of(h:H a=some (.tup xs))(n:¬N a):SnT K N H a xs:=.inl ⟨.inl h,n⟩
def SnL.sq(h:SnL K N H a xs):SqL K H a xs:=by
 rcases h with⟨h,_⟩|h
 .exact .inl h
 .exact .inr h
def SnT.sq(h:SnT K N H a xs):SqT K H a xs:=by
 rcases h with⟨h,_⟩|h
 .exact .inl h
 .exact .inr h
def SnL.keep(h:SnL K N H a xs)(k:aX N H H'):SnL K N H' a xs:=by
 rcases h with⟨h|⟨o,h⟩,n⟩|h
 .exact .inl ⟨.inl (k _ _ n h),n⟩
 .exact .inl ⟨.inr ⟨o,k _ _ n h⟩,n⟩
 .exact .inr h
def SnT.keep(h:SnT K N H a xs)(k:aX N H H'):SnT K N H' a xs:=by
 rcases h with⟨h|⟨o,h⟩,n⟩|h
 .exact .inl ⟨.inl (k _ _ n h),n⟩
 .exact .inl ⟨.inr ⟨o,k _ _ n h⟩,n⟩
 .exact .inr h
def SnL.to(h:SnL K N H a xs)(m:∀b o,H b=some o->M b->N b):SnL K M H a xs:=by
 rcases h with⟨h|⟨o,h⟩,n⟩|h
 .exact .inl ⟨.inl h,λz=>n (m _ _ h z)⟩
 .exact .inl ⟨.inr ⟨o,h⟩,λz=>n (m _ _ h z)⟩
 .exact .inr h
def SnT.to(h:SnT K N H a xs)(m:∀b o,H b=some o->M b->N b):SnT K M H a xs:=by
 rcases h with⟨h|⟨o,h⟩,n⟩|h
 .exact .inl ⟨.inl h,λz=>n (m _ _ h z)⟩
 .exact .inl ⟨.inr ⟨o,h⟩,λz=>n (m _ _ h z)⟩
 .exact .inr h
end
mutual
inductive DN (K:cb) (N:ao->Prop) (H:Hp):V->ah->Prop
 | non:DN K N H .non .none
 | bl (b:Bool):DN K N H (.bl b) (.bool b)
 | int (i:Int):DN K N H (.int i) (.int i)
 | lst {a:ao}{xs:List V}{ds:List ah}:SnL K N H a xs->DNs K N H xs ds->DN K N H (.ref a) (.list ds)
 | tup {a:ao}{xs:List V}{ds:List ah}:SnT K N H a xs->DNs K N H xs ds->DN K N H (.ref a) (.tuple ds)
 | dct {a:ao}{es:List (ay×ao×V)}{kvs:List (ay×ah)}:¬N a->H a=some (.ext (bx a es))->DNs K N H (es.map λp=>V.ref p.2.1) (kvs.map λp=>bi p.1)->DNs K N H (es.map λp=>p.2.2) (kvs.map λp=>p.2)->es.map (λp=>p.1)=kvs.map (λp=>p.1)->DN K N H (.ref a) (bz kvs)
 | idc {a:ao}{es:List (Int×V)}{kvs:List (Int×ah)}:¬N a->H a=some (.ext (aZ a es))->DNs K N H (es.map λp=>p.2) (kvs.map λp=>p.2)->es.map (λp=>p.1)=kvs.map (λp=>p.1)->DN K N H (.ref a) (dG kvs)
 | fz {v:V}{ds:List ah}:DN K N H v (.list ds)->DN K N H v (fzD ds)
inductive DNs (K:cb) (N:ao->Prop) (H:Hp):List V->List ah->Prop
 | nil:DNs K N H [] []
 | cons {x:V}{xs:List V}{d:ah}{ds:List ah}:DN K N H x d->DNs K N H xs ds->DNs K N H (x::xs) (d::ds)
end
section
variable {K:cb}{N M:ao->Prop}{H H':Hp}
def DN.dv(h:DN K N H v d):DV K H v d :=
 DN.rec (motive_1:=λv d _=>DV K H v d) (motive_2:=λv d _=>DVs K H v d)
 .non (λb=>.bl b) (λi=>.int i)
 (λh _ q=>.lst h.sq q) (λh _ q=>.tup h.sq q)
 (λ_ h _ _ e q r=>.dct h q r e) (λ_ h _ e q=>.idc h q e) (λ_ h=>.fz h) .nil (λ_ _ h q=>.cons h q) h
def DNs.dv(h:DNs K N H v d):DVs K H v d :=
 DNs.rec (motive_1:=λv d _=>DV K H v d) (motive_2:=λv d _=>DVs K H v d)
 .non (λb=>.bl b) (λi=>.int i)
 (λh _ q=>.lst h.sq q) (λh _ q=>.tup h.sq q)
 (λ_ h _ _ e q r=>.dct h q r e) (λ_ h _ e q=>.idc h q e) (λ_ h=>.fz h) .nil (λ_ _ h q=>.cons h q) h
theorem DN.keep(k:aX N H H')(h:DN K N H v d):DN K N H' v d :=
 DN.rec (motive_1:=λv d _=>DN K N H' v d) (motive_2:=λv d _=>DNs K N H' v d)
 .non (λb=>.bl b) (λi=>.int i)
 (λh _ q=>.lst (h.keep k) q) (λh _ q=>.tup (h.keep k) q)
 (λn h _ _ e q r=>.dct n (k _ _ n h) q r e) (λn h _ e q=>.idc n (k _ _ n h) q e) (λ_ h=>.fz h) .nil (λ_ _ h q=>.cons h q) h
theorem DNs.keep(k:aX N H H')(h:DNs K N H v d):DNs K N H' v d :=
 DNs.rec (motive_1:=λv d _=>DN K N H' v d) (motive_2:=λv d _=>DNs K N H' v d)
 .non (λb=>.bl b) (λi=>.int i)
 (λh _ q=>.lst (h.keep k) q) (λh _ q=>.tup (h.keep k) q)
 (λn h _ _ e q r=>.dct n (k _ _ n h) q r e) (λn h _ e q=>.idc n (k _ _ n h) q e) (λ_ h=>.fz h) .nil (λ_ _ h q=>.cons h q) h
theorem DN.to(m:∀b o,H b=some o->M b->N b)(h:DN K N H v d):DN K M H v d :=
 DN.rec (motive_1:=λv d _=>DN K M H v d) (motive_2:=λv d _=>DNs K M H v d)
 .non (λb=>.bl b) (λi=>.int i)
 (λh _ q=>.lst (h.to m) q) (λh _ q=>.tup (h.to m) q)
 (λn h _ _ e q r=>.dct (λz=>n (m _ _ h z)) h q r e) (λn h _ e q=>.idc (λz=>n (m _ _ h z)) h q e) (λ_ h=>.fz h) .nil (λ_ _ h q=>.cons h q) h
theorem DNs.to(m:∀b o,H b=some o->M b->N b)(h:DNs K N H v d):DNs K M H v d :=
 DNs.rec (motive_1:=λv d _=>DN K M H v d) (motive_2:=λv d _=>DNs K M H v d)
 .non (λb=>.bl b) (λi=>.int i)
 (λh _ q=>.lst (h.to m) q) (λh _ q=>.tup (h.to m) q)
 (λn h _ _ e q r=>.dct (λz=>n (m _ _ h z)) h q r e) (λn h _ e q=>.idc (λz=>n (m _ _ h z)) h q e) (λ_ h=>.fz h) .nil (λ_ _ h q=>.cons h q) h
def DNs.ind{C:List V->List ah->Prop}(n:C [] [])(c:∀{x:V}{xs:List V}{d:ah}{ds:List ah},DN K N H x d->DNs K N H xs ds->C xs ds->C (x::xs) (d::ds)){v:List V}{d:List ah}(h:DNs K N H v d):C v d :=
 DNs.rec (motive_1:=λ_ _ _=>True) (motive_2:=λv d _=>C v d) trivial (λ_=>trivial) (λ_=>trivial)
 (λ_ _ _=>trivial) (λ_ _ _=>trivial)
 (λ_ _ _ _ _ _ _=>trivial) (λ_ _ _ _ _=>trivial) (λ_ _=>trivial) n (λh q _ i=>c h q i) h
def DNs.len(h:DNs K N H v d):v.length=d.length:=DNs.ind (C:=λv d=>v.length=d.length) rfl (λ_ _ i=>by rw[JX,JX,i]) h
theorem DNs.get:∀{v:List V}{d:List ah}{i:Nat}{x:V},DNs K N H v d->v[i]? = some x->∃e,d[i]? = some e/\DN K N H x e
 | _,_,_,_,.nil,e=>by simp at e
 | _,_,0,_,.cons h _,e=>by simp at e;subst e;exact⟨_,rfl,h⟩
 | _,_,i+1,_,.cons _ q,e=>by
  obtain⟨d,h1,h2⟩:=DNs.get (i:=i) q (by simpa using e);exact⟨d,by simpa using h1,h2⟩
def DNs.app(h:DNs K N H v d)(q:DNs K N H w e):DNs K N H (v++w) (d++e):=DNs.ind (C:=λv d=>DNs K N H (v++w) (d++e)) q (λh _ i=>.cons h i) h
abbrev pI(a:List Int):ah:=.list (a.map .int)
abbrev pT(a:List Int):ah:=.tuple (a.map .int)
theorem rP:∀a:List Int,DNs K N H (a.map V.int) (a.map .int)
 | []=>.nil
 | n::r=>.cons (.int n) (rP r)
theorem DNs.ints:∀{a:List Int}{v:List V},DNs K N H v (a.map .int)->v=a.map V.int
 | [],_,.nil=>rfl
 | n::r,_,.cons h q=>by
  cases h;rw[q.ints];rfl
def DN.ofI(h:SnL K N H a (b.map V.int)):DN K N H (.ref a) (pI b):=.lst h (rP b)
theorem DN.list(h:DN K N H v (.list ds)):∃a xs,v=.ref a/\SnL K N H a xs/\DNs K N H xs ds:=by cases h with|lst h q=>exact⟨_,_,rfl,h,q⟩
theorem DN.tuple(h:DN K N H v (.tuple ds)):∃a xs,v=.ref a/\SnT K N H a xs/\DNs K N H xs ds:=by cases h with|tup h q=>exact⟨_,_,rfl,h,q⟩
def DN.of2(s:SnT K N H a [x,y])(h1:DN K N H x d)(h2:DN K N H y e):DN K N H (.ref a) (.tuple [d,e]):=.tup s (.cons h1 (.cons h2 .nil))
abbrev HI(S:Int×List Int):ah:=.tuple [.int S.1,pT S.2]
end
theorem fY:∀a b:List Int,et (a.map .int) (b.map .int)=decide (a=b)
 | [],[]=>by simp[et]
 | [],_::_=>by simp[et]
 | _::_,[]=>by simp[et]
 | x::a,y::b=>by
  rw[Jr,Jr,et,fY a b];simp only[eA];by_cases h:x=y <;> by_cases h':a=b <;> simp[h,h']
def E7(a b:List Int):eA (pI a) (pI b)=decide (a=b):=by show et _ _=_;exact fY a b
def G4(a b:List Int):eA (pT a) (pT b)=decide (a=b):=by show et _ _=_;exact fY a b
def vO(S T:Int×List Int):eA (HI S) (HI T)=decide (S=T):=by show et [.int S.1,pT S.2] [.int T.1,pT T.2]=_;have e1:eA (.int S.1) (.int T.1)=(S.1==T.1):=rfl;rw[et,et,et,G4,e1];by_cases h:S.1=T.1 <;> by_cases h':S.2=T.2 <;> simp[h,h',Prod.ext_iff]
def rf(a:List Int):ew (a.map .int)=true:=PySem.W.ke_canLayAll0 a
def lj(a:List Int):ir (a.map .int)=0:=PySem.W.ke_depthAll a
def F9(a:List Int):shp (pI a):=by simp[shp,lx,dV,lu,rf,lj]
def F8(a:List Int):shp (pT a):=by simp[shp,lx,dV,lu,rf,lj]
def Cal(P:ky)(w:k3)(K:cb)(mg:bt->Option av)(base:bg)(x:bt)(k:Nat)(sp:Sp):Prop :=
 ∃(f:ao) (fd:ki) (ps:List bt),ca P w K mg base CX0 k f fd ps sp/\gH K fd ps []/\mN K (.ref f)=true/\mg x=some (.ref f)
section
variable {X:Cx}{x:bt}{p pos:Pos}{e:bb}{es:List bb}{t:TA}{k:Nat}{sp:Sp}
def qR(C:Cal X.prog X.w X.K X.mg X.base x k sp)(c:eM k X.A)(hg:Gl X x)(d:PA X (e::es) t)(hd:(x==("__debug__" : bt))=false:=by decide)
  (g:j1 (e::es) X.env=(false,eval e X.env)::j1 es X.env:=by rfl) (a:(k6 pos (j1 es X.env)).any (·.1)=false:=by rfl):PE X (.Call (.Name x p) (e::es) [] pos) (sy sp [] E0 t):=by obtain⟨f,fd,ps,F,b,kp,m⟩:=C;exact By F c hg m kp b .nil Gu d hd g a
end
def bOk(N:List bt)(sc0:Qn)(N':List bt)(ix:List (Option Nat))(sc:Qn):Bool :=
 decide (sc.kind=.function)&&decide ((sc.names.map (·.1)).Nodup)&&sc.names.all (λy=>!(y.2==.free) || decide (sc0.names.lookup y.1=some .cell) || decide (sc0.names.lookup y.1=some .free))&&decide (ix.length=N'.length) &&
 (ix.zip N').all λq=>match q.1 with
  | none=>true
  | some j=>decide (N[j]? = some q.2)&&decide (sc.names.lookup q.2=some .free)
def bP{X:Cx}(hN:X.N=N)(c:X.env.scope=sc0)(h:bOk N sc0 N' ix sc=true):cI X.N X.env N' ix sc:=by
 rw[<-hN] at h;unfold bOk at h;simp only[JT,decide_eq_true_eq] at h;obtain⟨⟨⟨⟨h1,h2⟩,h3⟩,h4⟩,h5⟩:=h;refine⟨h1,h2,λy d f=>?_,h4,λi j a=>?_⟩
 .have q:=Kl.mp h3 y d;rw[f] at q;have e:∀z,X.env.kindOf z=sc0.names.lookup z:=λz=>by
   show X.env.scope.names.lookup z=_;rw[c]
  rw[e];simpa using q
 .have hi:i<ix.length:=(Js.mp a).1;have b:i<N'.length:=!0
  have g:(some j,N'[i])∈ix.zip N':=by rw[rj];refine⟨i,?_⟩;rw[KI];exact⟨a,Ji b⟩
  have q:=Kl.mp h5 _ g;simp only[JT,decide_eq_true_eq] at q;exact⟨N'[i],Ji b,q.1,q.2⟩
def Fj{X:Cx}{N1 N':List bt}{ix:List (Option Nat)}{a sc:Qn}{s:az}{H:Hp}{C:ao}{fp:List ao}(h:bOk N1 a N' ix sc=true):cI (bCx X N1 a s H C fp).N (bCx X N1 a s H C fp).env N' ix sc:=by
 unfold bOk at h;simp only[JT,decide_eq_true_eq] at h;obtain⟨⟨⟨⟨h1,h2⟩,h3⟩,h4⟩,h5⟩:=h;refine⟨h1,h2,λy d e=>?_,h4,λi j b=>?_⟩
 .have q:=Kl.mp h3 y d;rw[e] at q;have q':a.names.lookup y.1=some .cell\/a.names.lookup y.1=some .free:=by simpa using q
  rcases q' with q'|q'
  .exact .inl (by rw[show(bCx X N1 a s H C fp).env.kindOf y.1=_ from fq (C:=C) (env:=X.env) q'];rfl)
  .rw[show(bCx X N1 a s H C fp).env.kindOf y.1=_ from fq (C:=C) (env:=X.env) q'];split
   .exact .inl rfl
   .exact .inr rfl
 .have hi:i<ix.length:=(Js.mp b).1;have c:i<N'.length:=!0
  have f:(some j,N'[i])∈ix.zip N':=by rw[rj];refine⟨i,?_⟩;rw[KI];exact⟨b,Ji c⟩
  have q:=Kl.mp h5 _ f;simp only[JT,decide_eq_true_eq] at q;exact⟨N'[i],Ji c,q.1,q.2⟩
structure Bn(mg:bt->Option av):Prop where
 len:mg "len" = none
 range:mg "range" = none
 min:mg "min" = none
 max:mg "max" = none
 enumerate:mg "enumerate" = none
 zip:mg "zip" = none
 all:mg "all" = none
 any:mg "any" = none
 isinstance:mg "isinstance" = none
 bool:mg "bool" = none
 int:mg "int" = none
 list:mg "list" = none
 tuple:mg "tuple" = none
 sorted:mg "sorted" = none
 str:mg "str" = none
 sum:mg "sum" = none
 abs:mg "abs" = none
 reversed:mg "reversed" = none
def vc:OpR X (k0 .IsNot) (λx y H Q=>∃b c,x=.bl b/\y=.bl c/\Q (.bl (b != c)) H):=by intro pins s σ H x y v u Q I a d h;obtain⟨b,c,rfl,rfl,q⟩:=h;cases (show v=hI b from a);cases (show u=hI c from d);exact isnot_bool ⟨.bl _,H,I,rfl,q⟩
def be.new(h:H p=none):be H (upd H p o):=λb u e=>by rw[au (aJ e h)];exact e
def Cal.mk{P:ky}{w:k3}{K:cb}{mg:bt->Option av}{base:bg}{x:bt}{st:Stmt}{f:ao}{fd:ki}{k:Nat}{ps:List bt}{sp:Sp}(F:Fun K x x st f fd)(m:mg x=some (.ref f))(b:gH K fd ps [])
  (G : ca P w K mg base CX0 k f fd ps sp):Cal P w K mg base x k sp:=⟨f,fd,ps,G,b,F.kp,m⟩
def af:1000000<=sizeLine:=!2
section
variable {X:Cx}{K:cb}(hK:X.K=K)
include hK
def iA:eJ X (.builtin "len") (λxs H Q=>∃p ys,xs=[.ref p]/\(SqL K H p ys\/SqT K H p ys)/\Q (.int ys.length) H):=by subst hK;exact nH
def IP:SlR X (HE K):=by subst hK;exact AN
def GK:OpR X (Qt .Add) (DK K):=by subst hK;exact BE
def GJ(a:X.A.units+64<zs):OpR X (k0 .Eq) (Gh K):=by subst hK;exact Em a
def GF(a:X.A.units+64<zs):OpR X (k0 .NotEq) (Gf K):=by subst hK;exact Eh a
def B5(a:X.A.units+80<zs):OpR X (k0 .NotIn) (oI K):=by subst hK;exact u9 a
def kIn:OpR X (k0 .In) (rIn K false):=by subst hK;exact ve
def EM:OpR X (k0 .NotIn) (rIn K true):=by subst hK;exact mq
def Fz(hc:X.calm=true):eJ X (.builtin "all") (λxs H Q=>∃(a:ao) (bs:List Bool),xs=[.ref a]/\SqL K H a (bs.map V.bl)/\Q (.bl (bs.all id)) H):=by subst hK;exact y9 hc
def IQ(hc:X.calm=true):eJ X (.builtin "any") (λxs H Q=>∃(a:ao) (bs:List Bool),xs=[.ref a]/\SqL K H a (bs.map V.bl)/\Q (.bl (bs.any id)) H):=by subst hK;exact y8 hc
def GG:eJ X (.type "list") (λxs H Q=>∃p ys,xs=[.ref p]/\(SqL K H p ys\/SqT K H p ys)/\∀l,H l=none->Q (.ref l) (upd H l (.lst ys))):=by subst hK;exact nG
def EK:eJ X (.type "tuple") (λxs H Q=>∃p ys,xs=[.ref p]/\((SqL K H p ys/\∀l,H l=none->Q (.ref l) (upd H l (.tup ys)))\/(SqT K H p ys/\Q (.ref p) H))):=by subst hK;exact lD
variable {tg:bb}
def Ey(a:PE X l tl):PI X tg l (Cb K tl):=by subst hK;exact uT a
def Ez(b:Bool)(hg:Gl X "enumerate")(e:X.mg "enumerate" = none)(f:PA X [a] ta)(g:j1 [a] X.env=[(false,eval a X.env)]:=by rfl) :
  PI X (.Tuple es d c) (.Call (.Name "enumerate" p) [a] [] pos) (EU K b ta):=by subst hK;exact Br b hg e PyProof.Rows.boot_enumerate f g
def GE{pos:Pos}{es:List bb}{k:Nat}{t:TGs}{n:Nat}(hc:X.calm=true)(h:PGs X es t)(hn:(Qg es X.env).length=n:=by rfl)(a:(Qg es X.env).findIdx? (·.1)=none:=by rfl):PG X (.Tuple es k pos) (HQ K n t):=by subst hK;exact D8 hc h hn a
def zZ(c:PE X a ta)(d:∀b,Zg a X.env b=(do let v <-b;QV a.pos;Qk [v] (ZO v))):PT X a (λσ H Q=>ta σ H λx H'=>∃k,FQ K x H' k/\Q k H'):=by subst hK;exact xI c d
variable {o e:bb}{es:List bb}{to:TE}{t:TA}{name:bt}{apos cpos:Pos}{T id:String}{r:V->List V->Hp->VK->Prop}
def GL(d:Q8 T)(slot:Slot T name id)(c:Z0 (.builtin id)=pure (.type "method_descriptor"))(e:MtR X id r)(ho:PE X o to)
  (a:qb o name X.env (eval o X.env)=eval o X.env:=by rfl) (b:(apos.endLine==cpos.line)=true:=by rfl):PE X (.Call (.Attribute o name apos) [] [] cpos) (HC K T r to):=by subst hK;exact Ee d slot c e ho a b
def kBm(g:Q8 T)(slot:Slot T name id)(f:Z0 (.builtin id)=pure (.type "method_descriptor"))(h:MtR X id r)(ho:PE X o to)(i:PA X (e::es) t)
  (b:qb o name X.env (eval o X.env)=eval o X.env:=by rfl)
  (d:((k6 cpos (j1 (e::es) X.env)).all (λx=>!x.1)&&(Qy cpos (Qi [] X.env)).all (λx=>x.1.isSome)&&decide ((e::es).length+([]:List Qd).length+(if ([]:List Qd).isEmpty then 0 else 1)<30))=true:=by rfl)
  (c:(apos.endLine==cpos.line)=true:=by rfl) (j:j1 (e::es) X.env=(false,eval e X.env)::j1 es X.env:=by rfl) (a:(k6 cpos (j1 es X.env)).any (·.1)=false:=by rfl) :
  PE X (.Call (.Attribute o name apos) (e::es) [] cpos) (tBM K T r to t):=by subst hK;exact Ef g slot f h ho i b d c j a
end
end _L
namespace _L
open PySem
def jo(a:eM k A):A.units+80<zs:=by have:=a.un;omega
def vB(h:j<n):ixN n (j:Int)=some j:=by unfold ixN;rw[Mz (!0),Mz (!0),JN]
end _L
namespace _L
open PySem PySem.Spec PyProof.Rows
def IC(t u:TS):TS:=λD σ H=>∃R:St->Hp->Prop,t { D with nx:=R } σ H/\∀σ' H',R σ' H'->u D σ' H'
def Bf{X:Cx}{st:Stmt}{rest:List Stmt}{t u:TS}(h1:PS X st t)(h2:PSs X rest u):PSs X (st::rest) (IC t u):=by
 intro pins s σ H D I h;obtain⟨R,h,hR⟩:=h;refine ZB (thn (h1 pins s σ H { D with nx:=R } I h) λf s1 q=>?_);cases f with
 | next =>
  obtain⟨σ',H',a,q⟩:=q;exact h2 pins s1 σ' H' D a (hR _ _ q)
 | ret v=>exact q
 | brk=>exact q
 | cont=>exact q
def mJ{α:Type}{x:α}{l:List α}(h:x∈l.dropLast):x∈l:=by rw[ro] at h;exact rr h
end _L
namespace _L
open PySem
def aX.put(k:aX N H H')(h:H p=Option.none):aX N H (upd H' p o):=λb u n e=>by
 rw[au (aJ e h)];exact k b u n e
def DN.sqL(h:SqL K H a (b.map V.int)):DN K N0 H (.ref a) (pI b):=DN.ofI (by
 rcases h with h|h
 .exact .inl ⟨h,λz=>z⟩
 .exact .inr h)
end _L
namespace _L
end _L
namespace _L
open PySem PySem.Spec PyProof.Rows
section
variable {κ β:Type}[DecidableEq κ]
def aI(kvs:List (κ×β))(k:κ):Option β:=(kvs.find? λp=>decide (p.1=k)).map (·.2)
def cV(kvs:List (κ×β))(k:κ)(v:β):List (κ×β):=if (aI kvs k).isSome=true then kvs.map λp=>if p.1=k then (p.1,v) else p else kvs++[(k,v)]
def yG(k:κ):aI ([]:List (κ×β)) k=none:=rfl
def aq(p:κ×β)(kvs:List (κ×β))(k:κ):aI (p::kvs) k=if p.1=k then some p.2 else aI kvs k:=by unfold aI;rw[JY];by_cases h:p.1=k <;> simp[h]
def qB(kvs:List (κ×β))(k:κ)(v:β):(cV kvs k v).length<=kvs.length+1:=by unfold cV;split <;> simp
end
def Hw(K:cb)(H:Hp)(v:V)(kvs:List (ay×ah)):Prop :=
 ∃a es,v=.ref a/\H a=some (.ext (bx a es))/\DVs K H (es.map λp=>V.ref p.2.1) (kvs.map λp=>bi p.1)/\DVs K H (es.map λp=>p.2.2) (kvs.map λp=>p.2)/\es.map (λp=>p.1)=kvs.map (λp=>p.1)
section
variable {X:Cx}{pins:List (ao×Obj)}{σ:St}{H:Hp}{s:az}{a b:ao}{k:ay}
theorem DVs.map_int:∀{a:List Int}{xs:List V},DVs X.K H xs (a.map .int)->xs=a.map V.int
 | [],_,h=>by cases h;rfl
 | n :: a,_,h=>by
  cases h with
  | cons h t =>
   cases h;rw[DVs.map_int t];rfl
theorem pS:∀{a:List Int}{us:List av},aW (a.map V.int) us->ItemsAre (Qc X.prog X.w) a us
 | [],us,h=>by cases h;exact .nil
 | n :: a,us,h=>by
  cases h with
  | cons r t =>
   obtain⟨tt,rfl⟩:=r;exact .cons (bQ n tt) (pS t)
def eQ(I:Inv X pins σ H s)(h:DV X.K H x (bi k))(r:bD x u):∃b,x=.ref b/\u=.ref b/\cL X.prog X.w s.heap k b:=by obtain⟨d,l⟩:=k;obtain⟨b,xs,rfl,sq,q⟩:=DV.tupI (h:DV X.K H x (.tuple _));obtain⟨v1,A,rfl,h1,h2⟩:=q.twoI;obtain⟨c,ys,rfl,g,q2⟩:=h2.tupI;obtain⟨its,rv,⟨o,e,cl,n,hd⟩,_⟩:=I.tuple sq;obtain⟨a,f,⟨p,e2,i,v,j⟩,_⟩:=I.tuple g;rw[DVs.map_int (X:=X) q2] at f;obtain⟨B,y,rfl,m,z⟩:=tM rv;rw[h1.intI] at m;obtain⟨t,rfl⟩:=m;have e3:y=cn c:=z;have e4:u=cn b:=r;subst e3 e4;exact⟨b,rfl,rfl,o,t,c,n,e,cl,hd,p,a.toArray,v,e2,i,j,by simpa using pS f⟩
theorem rn(I:Inv X pins σ H s):∀{es:List (ay×ao×V)}{xs:List (ay×ao×av)}{kvs:List (ay×ah)},
  Paired (λ(p:ay×ao×V) (q:ay×ao×av)=>p.1=q.1/\p.2.1=q.2.1/\bD p.2.2 q.2.2) es xs->DVs X.K H (es.map λp=>V.ref p.2.1) (kvs.map λp=>bi p.1)->es.map (λp=>p.1)=kvs.map (λp=>p.1) ->
  ∀x∈xs,cL X.prog X.w s.heap x.1 x.2.1
 | [],_,_,.nil,_,_=>λx hx=>by cases hx
 | p :: es,_,kvs,.cons (b:=q) r t,h,e=>by
  cases kvs with
  | nil=>simp at e
  | cons kv kvs =>
   rw[Jr,Jr] at h e;injection e with e1 e2;cases h with
   | cons h1 h2 =>
    intro x hx;rcases Jo.mp hx with rfl|hx
    .obtain⟨b,z,_,st⟩:=eQ I h1 (u:=.ref p.2.1) rfl;cases z;rw[<-r.1,<-r.2.1,e1];exact st
    .exact rn I t h2 e2 x hx
def dct_of(I:Inv X pins σ H s){es:List (ay×ao×V)}{kvs:List (ay×ah)}(b:H a=some (.ext (bx a es)))(hk:DVs X.K H (es.map λp=>V.ref p.2.1) (kvs.map λp=>bi p.1))(e:es.map (λp=>p.1)=kvs.map (λp=>p.1)) :
  es.length<=sizeLine/\(a==Qb)=false/\∃xs,Paired (λ(p:ay×ao×V) (q:ay×ao×av)=>p.1=q.1/\p.2.1=q.2.1/\bD p.2.2 q.2.2) es xs/\jM X.prog X.w s.heap a xs:=by obtain⟨⟨z,y,xs,r,o,ds,ep,h1,h2,h3,h4,h5⟩,_⟩:=I.hok a _ b;exact⟨z,y,xs,r,o,ds,ep,h1,h2,h3,h4,rn I r hk e,h5⟩
def wx{es:List (ay×ao×V)}{xs:List (ay×ao×av)}{kvs:List (ay×ah)}{K:cb}(k:ay)
  (a:Paired (λ(p:ay×ao×V) (q:ay×ao×av)=>p.1=q.1/\p.2.1=q.2.1/\bD p.2.2 q.2.2) es xs) (e:es.map (λp=>p.1)=kvs.map (λp=>p.1)) (h:DVs K H (es.map λp=>p.2.2) (kvs.map λp=>p.2)) :
  (aI kvs k=none/\QF xs k=none)\/∃(i:Nat) (d:ah) (v:V) (b:ao) (u:av),aI kvs k=some d/\QF xs k=some (b,u)/\(es.map λp=>p.2.2)[i]? = some v/\(kvs.map λp=>p.2)[i]? = some d/\bD v u:=by
 induction a generalizing kvs with
 | nil =>
  cases kvs with
  | nil=>exact .inl ⟨rfl,rfl⟩
  | cons kv kvs=>simp at e
 | @cons p q es xs r t c =>
  cases kvs with
  | nil=>simp at e
  | cons kv kvs =>
   rw[Jr,Jr] at e h;injection e with e1 e2;cases h with
   | cons h1 h2 =>
    by_cases hk:kv.1=k
    .have hq:q.1=k:=by rw[<-r.1,e1,hk]
     refine .inr ⟨0,kv.2,p.2.2,q.2.1,q.2.2,by rw[aq,Mz hk],?_,rfl,rfl,r.2.2⟩;simp[QF,JY,hq]
    .have hq:¬q.1=k:=λz=>hk (by rw[<-e1,r.1,z]);have f:aI (kv::kvs) k=aI kvs k:=by rw[aq,MA hk]
     have g:QF (q::xs) k=QF xs k:=by simp[QF,JY,hq]
     rw[f,g];rcases c e2 h2 with z|⟨i,d,v,b,u,z1,z2,z3,j,l⟩
     .exact .inl z
     .exact .inr ⟨i+1,d,v,b,u,z1,z2,by simpa using z3,by simpa using j,l⟩
end
section
def Gg(K:cb):R2:=λx y H Q=>∃(k:ay) (kvs:List (ay×ah)),DV K H x (bi k)/\Hw K H y kvs/\Q (.bl (aI kvs k).isSome) H
def oH(K:cb):R2:=λx y H Q=>∃(k:ay) (kvs:List (ay×ah)),DV K H x (bi k)/\Hw K H y kvs/\Q (.bl (!(aI kvs k).isSome)) H
def Ej(c:X.A.units+2<zs):OpR X (k0 .In) (Gg X.K):=by
 intro pins s σ H x y v u Q I f g h;obtain⟨k,kvs,j,⟨a,es,rfl,l,hk,hv,e⟩,q⟩:=h;cases (show u=cn a from g);obtain⟨b,rfl,rfl,st⟩:=eQ I j f;obtain⟨z,y,xs,r,dd⟩:=dct_of I l hk e;refine wpAny_in_heap (knd:=aV X.prog X.w) (dR c) st y dd.of ?_;have:(QF xs k).isSome=(aI kvs k).isSome:=by
  rcases wx k r e hv with⟨z1,z2⟩|⟨i,d,v,b,u,z1,z2,_⟩
  .rw[z1,z2];rfl
  .rw[z1,z2];rfl
 rw[this];exact⟨.bl _,H,I.tok _,rfl,q⟩
def u8(c:X.A.units+2<zs):OpR X (k0 .NotIn) (oH X.K):=by
 intro pins s σ H x y v u Q I f g h;obtain⟨k,kvs,j,⟨a,es,rfl,l,hk,hv,e⟩,q⟩:=h;cases (show u=cn a from g);obtain⟨b,rfl,rfl,st⟩:=eQ I j f;obtain⟨z,y,xs,r,dd⟩:=dct_of I l hk e;refine wpAny_notIn_heap (knd:=aV X.prog X.w) (dR c) st y dd.of ?_;have:(QF xs k).isSome=(aI kvs k).isSome:=by
  rcases wx k r e hv with⟨z1,z2⟩|⟨i,d,v,b,u,z1,z2,_⟩
  .rw[z1,z2];rfl
  .rw[z1,z2];rfl
 rw[this];exact⟨.bl _,H,I.tok _,rfl,q⟩
def Fu(K:cb):R2:=λx y H Q=>∃(k:ay) (a:ao) (es:List (ay×ao×V)) (kvs:List (ay×ah)),x=.ref a/\DV K H y (bi k)/\H a=some (.ext (bx a es))/\DVs K H (es.map λp=>V.ref p.2.1) (kvs.map λp=>bi p.1)/\DVs K H (es.map λp=>p.2.2) (kvs.map λp=>p.2) /\
 es.map (λp=>p.1)=kvs.map (λp=>p.1)/\(aI kvs k).isSome=true/\∀(i:Nat) v d,aI kvs k=some d->(es.map λp=>p.2.2)[i]? = some v->(kvs.map λp=>p.2)[i]? = some d->Q v H
def HM(j:X.A.units+2<zs):IxR X (Fu X.K):=by
 intro f slice pins s σ H x y v u Q I l m h n;obtain⟨k,a,es,kvs,rfl,o,p,hk,hv,e,c,q⟩:=h;cases (show v=cn a from l);obtain⟨b,rfl,rfl,st⟩:=eQ I o m;obtain⟨z,y,xs,r,dd⟩:=dct_of I p hk e;have hT:=dd.of.typeIs;unfold Zp;refine jj ?_;rw[getitemInPython_of_ne hT.not_modules];refine jj (Qj hT x4.lookup ?_);have fin:j4 (kw X.prog X.w) X.A (ZE slice false (.ref a) (.ref b)) (λr g=>j4 (kw X.prog X.w) X.A (letTemporaryGo f (.ref a) r >>= λ_=>pure r) (EP X pins σ Q) X.xe g) X.xe s:=by
  rw[n];rcases wx k r e hv with⟨z1,_⟩|⟨i,d,v,C,u,z1,z2,z3,t,B⟩
  .rw[z1] at c;cases c
  .refine wpAny_operating (wpAny_getItem_heap (knd:=aV X.prog X.w) (dR j) st dd.of z2 ?_);exact jj (wpAny_letTemporaryGo (j0 ⟨v,H,I.tok _,B,q i v d z1 z3 t⟩))
 first
  | exact j0 (jj fin)
  | exact jj (j0 (jj fin))
  | exact jj fin
def nR(es:List (ay×ao×V))(k:ay)(b:ao)(v:V):List (ay×ao×V) :=
 if (es.any λp=>decide (p.1=k))=true then es.map (λp=>if p.1=k then (p.1,p.2.1,v) else p) else es++[(k,b,v)]
def jq(r:Paired (λ(p:ay×ao×V) (q:ay×ao×av)=>p.1=q.1/\p.2.1=q.2.1/\bD p.2.2 q.2.2) es xs)(k:ay)(rv:bD v u) :
  Paired (λ(p:ay×ao×V) (q:ay×ao×av)=>p.1=q.1/\p.2.1=q.2.1/\bD p.2.2 q.2.2) (nR es k b v) (ZJ xs k b u):=by
 have e:(es.any λp=>decide (p.1=k))=(QF xs k).isSome:=by
  induction r with
  | nil=>rfl
  | @cons p q ps qs h t a =>
   rw[Kx,a];by_cases hk:p.1=k
   .have hq:q.1=k:=by rw[<-h.1,hk]
    simp[QF,JY,hk,hq]
   .have hq:¬q.1=k:=λz=>hk (by rw[h.1,z]);simp[QF,JY,hk,hq]
 unfold nR ZJ;rw[e];by_cases c:(QF xs k).isSome=true
 .rw[Mz c,Mz c];clear e c
  induction r with
  | nil=>exact .nil
  | @cons p q ps qs h t a =>
   rw[Jr,Jr];refine .cons ?_ a;unfold putAt;by_cases hk:p.1=k
   .rw[Mz hk,Mz (show q.1=k by rw[<-h.1,hk])];exact⟨h.1,h.2.1,rv⟩
   .rw[MA hk,MA (λz=>hk (by rw[h.1,z]))];exact h
 .rw[MA c,MA c];exact Paired.snoc r ⟨rfl,rfl,rv⟩
def qO(es:List (ay×ao×V))(k:ay)(b:ao)(v:V):(nR es k b v).length<=es.length+1:=by unfold nR;split <;> simp
def Gd(K:cb):C2:=λx y v H Q=>∃(k:ay) (a b:ao) (es:List (ay×ao×V)) (kvs:List (ay×ah)),x=.ref a/\y=.ref b/\DV K H y (bi k)/\H a=some (.ext (bx a es))/\DVs K H (es.map λp=>V.ref p.2.1) (kvs.map λp=>bi p.1) /\
 es.map (λp=>p.1)=kvs.map (λp=>p.1)/\es.length<sizeLine/\Q (upd H a (.ext (bx a (nR es k b v))))
def Dy(j:X.A.units+2<zs):Fn X (Gd X.K):=by
 intro pins s σ H x y v ov iv u Q I l m rv h;obtain⟨k,a,b,es,kvs,rfl,rfl,n,i,hk,e,M,q⟩:=h;cases (show ov=cn a from l);obtain⟨N,p,t,st⟩:=eQ I n m;cases p;subst t;obtain⟨z,y,xs,r,dd⟩:=dct_of I i hk e;have hz:xs.length<=sizeLine:=by rw[<-Paired.length r];exact z
 refine ut (hsz:=hz) (dR (prog:=X.prog) (w:=X.w) j) st dd λh' c B=>?_;obtain⟨o,d,ep,h1,h2,h3,h4,_,h5⟩:=c;refine⟨_,?_,q⟩;refine I.write (x:=a) (e:=a) (by rw[i];exact True.intro) (.inl rfl) (λb q C z=>(B.2 b C).trans z) ⟨_,h1⟩ ?_;have new:bx a (nR es k b v) h':=⟨by have:=qO es k b v;omega,y,_,jq r k rv,o,d,ep,h1,h2,h3,h4,h5⟩
 refine⟨new,⟨_,h1⟩,λD E hx F=>?_⟩;obtain⟨a1,a2,f,G,o',ds',g,J,L⟩:=hx;exact⟨a1,a2,f,G,o',ds',g,F _ J,L⟩
def Dt:TE:=λ_ H Q=>∀p,H p=none->Q (.ref p) (upd H p (.ext (bx p [])))
def nk(h:bg)(c:Qb<h.objs.size):ft P w H (h.push { cls:=.type "dict",data:=.dict #[] }) h.objs.size (.ext (bx h.objs.size [])):=by have e:=JA (o:=({ cls:=.type "dict",data:=.dict #[] }:Obj)) h rfl;refine⟨⟨JD _,beq_eq_false_iff_ne.mpr (Ne.symm (JH c)),[],.nil,_,#[],0,e,⟨rfl,rfl,rfl⟩,rfl,rfl,Ki,rfl⟩,⟨_,e⟩,λh1 h2 hx d=>?_⟩;obtain⟨a1,a2,a,f,o',ds',b,g,i⟩:=hx;exact⟨a1,a2,a,f,o',ds',b,d _ g,i⟩
def Inv.big'{pins:List (ao×Obj)}{σ:St}{H:Hp}{s:az}(I:Inv X pins σ H s):Qb<s.heap.objs.size:=by have h:kq<s.heap.objs.size:=(I.mod.glob.keeps I.bk).lt;exact Nat.lt_trans (!2) h
def uY:PE X (.Dict [] [] pos) Dt:=λpins s σ H Q I h =>
 wpAny_Dict_empty ⟨.ref s.heap.objs.size,_,I.laid (a:=s.heap.objs.size) (o:=.ext (bx s.heap.objs.size [])) (t':=s.toks) (λ_ _ q=>Jn _ q) (Jx _) (nk s.heap I.big'),rfl,h _ (I.hok.fresh (Jx _))⟩
def F3(K:cb)(tk tv:TE):TE:=λσ H Q=>∀p,H p=none->tk σ (upd H p (.ext (bx p []))) λx H1=>tv σ H1 λy H2=>∃k b,x=.ref b/\DV K H2 x (bi k)/\H2 p=some (.ext (bx p []))/\Q (.ref p) (upd H2 p (.ext (bx p [(k,b,y)])))
def Bv(n:X.A.units+1<zs)(hk:PE X e1 tk)(hv:PE X e2 tv):PE X (.Dict [some e1] [e2] pos) (F3 X.K tk tv):=by
 intro pins s σ H Q I h;have t:=I.laid (a:=s.heap.objs.size) (o:=.ext (bx s.heap.objs.size [])) (h':=s.heap.push { cls:=.type "dict",data:=.dict #[] }) (t':=s.toks) (λ_ _ q=>Jn _ q) (Jx _) (nk s.heap I.big');refine wpAny_Dict_any rfl rfl (!1) (!1) (pairTrees_cons_walk (thn (hk pins _ σ _ _ t (h _ (I.hok.fresh (Jx _)))) λu s1 c=>?_));obtain⟨x,H1,v,B,q1⟩:=c;refine thn (hv pins s1 σ H1 _ v q1) λw s2 d=>?_;obtain⟨y,H2,f,C,k,b,ex,D,m,q⟩:=d;refine pairTrees_nil_walk ?_;subst ex;obtain⟨R,E,rfl,st⟩:=eQ f D B;cases E;generalize s.heap.objs.size=p at *;obtain⟨z,hd,xs,r,dd⟩:=dct_of (kvs:=[]) f m .nil rfl;cases r;unfold storeAll;rw[KS];refine jj (jj (ni (hsz:=JD _) n st dd λh' g F=>j0 ?_));dsimp only;rw[KJ];refine j0 ⟨.ref p,_,?_,rfl,q⟩;obtain⟨o,i,ep,h1,h2,h3,h4,_,h5⟩:=g;refine f.write (x:=p) (e:=p) (by rw[m];exact True.intro) (.inl rfl) (λb q G z=>(F.2 b G).trans z) ⟨_,h1⟩ ?_;have new:bx p [(k,b,y)] h':=⟨by rw[zg];simp,hd,_,.cons ⟨rfl,rfl,C⟩ .nil,o,i,ep,h1,h2,h3,h4,h5⟩
 refine⟨new,⟨_,h1⟩,λJ L hx M=>?_⟩;obtain⟨a1,a2,j,N,o',ds',l,O,P⟩:=hx;exact⟨a1,a2,j,N,o',ds',l,M _ O,P⟩
end
mutual
inductive OT (K:cb) (N:ao->Prop) (H:Hp):V->ah->List ao->Prop
 | non:OT K N H .non .none []
 | bl (b:Bool):OT K N H (.bl b) (.bool b) []
 | int (i:Int):OT K N H (.int i) (.int i) []
 | lst {a:ao}{xs:List V}{ds:List ah}{S:List ao}:H a=some (.lst xs)->OTs K N H xs ds S->OT K N H (.ref a) (.list ds) (a::S)
 | tup {a:ao}{xs:List V}{ds:List ah}{S:List ao}:SnT K N H a xs->OTs K N H xs ds S->OT K N H (.ref a) (.tuple ds) S
 | dct {a:ao}{es:List (ay×ao×V)}{kvs:List (ay×ah)}:H a=some (.ext (bx a es))->DNs K N H (es.map λp=>V.ref p.2.1) (kvs.map λp=>bi p.1)->DNs K N H (es.map λp=>p.2.2) (kvs.map λp=>p.2)->es.map (λp=>p.1)=kvs.map (λp=>p.1)->OT K N H (.ref a) (bz kvs) [a]
 | idc {a:ao}{es:List (Int×V)}{kvs:List (Int×ah)}:H a=some (.ext (aZ a es))->DNs K N H (es.map λp=>p.2) (kvs.map λp=>p.2)->es.map (λp=>p.1)=kvs.map (λp=>p.1)->OT K N H (.ref a) (dG kvs) [a]
 | fz {v:V}{ds:List ah}:DN K N H v (.list ds)->OT K N H v (fzD ds) []
inductive OTs (K:cb) (N:ao->Prop) (H:Hp):List V->List ah->List ao->Prop
 | nil:OTs K N H [] [] []
 | cons {x:V}{xs:List V}{d:ah}{ds:List ah}{S S':List ao}:OT K N H x d S->OTs K N H xs ds S'->OTs K N H (x::xs) (d::ds) (S++S')
end
section
variable {K:cb}{N M:ao->Prop}{H H':Hp}
theorem OT.keep(k:aX N H H')(h:OT K N H v d S):(∀a∈S,H' a=H a)->OT K N H' v d S :=
 OT.rec (motive_1:=λv d S _=>(∀a∈S,H' a=H a)->OT K N H' v d S) (motive_2:=λv d S _=>(∀a∈S,H' a=H a)->OTs K N H' v d S)
 (λ_=>.non) (λb _=>.bl b) (λi _=>.int i)
 (λh _ q s=>.lst ((s _ Jm).trans h) (q λa c=>s a (Jq _ c))) (λh _ q s=>.tup (h.keep k) (q s))
 (λh q r e s=>.dct ((s _ Jm).trans h) (q.keep k) (r.keep k) e) (λh q e s=>.idc ((s _ Jm).trans h) (q.keep k) e) (λh s=>.fz (h.keep k)) (λ_=>.nil) (λ_ _ h q s=>.cons (h λa c=>s a (Jl _ c)) (q λa c=>s a (Jg _ c))) h
theorem OTs.keep(k:aX N H H')(h:OTs K N H v d S):(∀a∈S,H' a=H a)->OTs K N H' v d S :=
 OTs.rec (motive_1:=λv d S _=>(∀a∈S,H' a=H a)->OT K N H' v d S) (motive_2:=λv d S _=>(∀a∈S,H' a=H a)->OTs K N H' v d S)
 (λ_=>.non) (λb _=>.bl b) (λi _=>.int i)
 (λh _ q s=>.lst ((s _ Jm).trans h) (q λa c=>s a (Jq _ c))) (λh _ q s=>.tup (h.keep k) (q s))
 (λh q r e s=>.dct ((s _ Jm).trans h) (q.keep k) (r.keep k) e) (λh q e s=>.idc ((s _ Jm).trans h) (q.keep k) e) (λh s=>.fz (h.keep k)) (λ_=>.nil) (λ_ _ h q s=>.cons (h λa c=>s a (Jl _ c)) (q λa c=>s a (Jg _ c))) h
theorem OT.to(m:∀b o,H b=some o->M b->N b)(h:OT K N H v d S):OT K M H v d S :=
 OT.rec (motive_1:=λv d S _=>OT K M H v d S) (motive_2:=λv d S _=>OTs K M H v d S)
 .non (λb=>.bl b) (λi=>.int i)
 (λh _ q=>.lst h q) (λh _ q=>.tup (h.to m) q)
 (λh q r e=>.dct h (q.to m) (r.to m) e) (λh q e=>.idc h (q.to m) e) (λh=>.fz (h.to m)) .nil (λ_ _ h q=>.cons h q) h
theorem OTs.to(m:∀b o,H b=some o->M b->N b)(h:OTs K N H v d S):OTs K M H v d S :=
 OTs.rec (motive_1:=λv d S _=>OT K M H v d S) (motive_2:=λv d S _=>OTs K M H v d S)
 .non (λb=>.bl b) (λi=>.int i)
 (λh _ q=>.lst h q) (λh _ q=>.tup (h.to m) q)
 (λh q r e=>.dct h (q.to m) (r.to m) e) (λh q e=>.idc h (q.to m) e) (λh=>.fz (h.to m)) .nil (λ_ _ h q=>.cons h q) h
def OT.lives(h:OT K N H v d S):∀a∈S,∃o,H a=some o :=
 OT.rec (motive_1:=λv d S _=>∀a∈S,∃o,H a=some o) (motive_2:=λv d S _=>∀a∈S,∃o,H a=some o)
 (λ_ h=>nomatch h) (λ_ _ h=>nomatch h) (λ_ _ h=>nomatch h)
 (λh _ q a b=>(Jo.mp b).elim (λe=>⟨_,e▸h⟩) (q a)) (λ_ _ q=>q)
 (λh _ _ _ a b=>⟨_,(Jf.mp b)▸h⟩) (λh _ _ a b=>⟨_,(Jf.mp b)▸h⟩) (λ_ _ h=>nomatch h) (λ_ h=>nomatch h) (λ_ _ h q a b=>(Jj.mp b).elim (h a) (q a)) h
def OTs.lives(h:OTs K N H v d S):∀a∈S,∃o,H a=some o :=
 OTs.rec (motive_1:=λv d S _=>∀a∈S,∃o,H a=some o) (motive_2:=λv d S _=>∀a∈S,∃o,H a=some o)
 (λ_ h=>nomatch h) (λ_ _ h=>nomatch h) (λ_ _ h=>nomatch h)
 (λh _ q a b=>(Jo.mp b).elim (λe=>⟨_,e▸h⟩) (q a)) (λ_ _ q=>q)
 (λh _ _ _ a b=>⟨_,(Jf.mp b)▸h⟩) (λh _ _ a b=>⟨_,(Jf.mp b)▸h⟩) (λ_ _ h=>nomatch h) (λ_ h=>nomatch h) (λ_ _ h q a b=>(Jj.mp b).elim (h a) (q a)) h
def OT.dn(n:∀b,M b->N b)(h:OT K N H v d S):(∀a∈S,¬M a)->DN K M H v d :=
 OT.rec (motive_1:=λv d S _=>(∀a∈S,¬M a)->DN K M H v d) (motive_2:=λv d S _=>(∀a∈S,¬M a)->DNs K M H v d)
 (λ_=>.non) (λb _=>.bl b) (λi _=>.int i)
 (λh _ q s=>.lst (SnL.of h (s _ Jm)) (q λa c=>s a (Jq _ c))) (λh _ q s=>.tup (h.to λb _ _ z=>n b z) (q s))
 (λh q r e s=>.dct (s _ Jm) h (q.to λb _ _ z=>n b z) (r.to λb _ _ z=>n b z) e) (λh q e s=>.idc (s _ Jm) h (q.to λb _ _ z=>n b z) e) (λh _=>.fz (h.to λb _ _ z=>n b z)) (λ_=>.nil) (λ_ _ h q s=>.cons (h λa c=>s a (Jl _ c)) (q λa c=>s a (Jg _ c))) h
def OTs.ind{C:List V->List ah->List ao->Prop}(n:C [] [] [])(c:∀{x:V}{xs:List V}{d:ah}{ds:List ah}{S S':List ao},OT K N H x d S->OTs K N H xs ds S'->C xs ds S'->C (x::xs) (d::ds) (S++S')){v:List V}{d:List ah}{S:List ao}(h:OTs K N H v d S):C v d S :=
 OTs.rec (motive_1:=λ_ _ _ _=>True) (motive_2:=λv d S _=>C v d S) trivial (λ_=>trivial) (λ_=>trivial)
 (λ_ _ _=>trivial) (λ_ _ _=>trivial) (λ_ _ _ _=>trivial) (λ_ _ _=>trivial) (λ_=>trivial) n (λh q _ i=>c h q i) h
def OTs.len(h:OTs K N H v d S):v.length=d.length:=OTs.ind (C:=λv d _=>v.length=d.length) rfl (λ_ _ i=>by rw[JX,JX,i]) h
def OTs.app(h:OTs K N H v d S)(q:OTs K N H w e T):OTs K N H (v++w) (d++e) (S++T):=OTs.ind (C:=λv d S=>OTs K N H (v++w) (d++e) (S++T)) q (λh _ i=>by rw[J5];exact .cons h i) h
end
inductive Sl where
 | un|fr (d:ah)|ow (ds:List ah)|io (ds:List ah)|vw (i:Nat)|tr (S:List ao) (d:ah)
abbrev Ent:=Option V×Sl
def cK:Ent->List ao
 | (some (.ref a),.ow _)=>[a]
 | (some (.ref a),.io _)=>[a]
 | (some _,.tr S _)=>S
 | _=>[]
def oas(E:List Ent):List ao:=E.flatMap cK
def Nw(M:ao->Prop)(E:List Ent):ao->Prop:=λa=>M a\/a∈oas E
abbrev tmp(ts:List (V×Sl)):List Ent:=ts.map λt=>(some t.1,t.2)
def aG(σ:St)(env:List Sl)(ts:List (V×Sl)):List Ent:=σ.zip env++tmp ts
def am(A B:List Ent):oas (A++B)=oas A++oas B:=List.flatMap_append
def ar(e:Ent)(B:List Ent):oas (e::B)=cK e++oas B:=List.flatMap_cons ..
def bh:a∈oas E↔∃e∈E,a∈cK e:=List.mem_flatMap
def gR(x:Option V):cK (x,.un)=[]:=by
 cases x with
 | none=>rfl
 | some v=>cases v <;> rfl
def ju(x:Option V)(i:Nat):cK (x,.vw i)=[]:=by
 cases x with
 | none=>rfl
 | some v=>cases v <;> rfl
def d9(x:Option V)(d:ah):cK (x,.fr d)=[]:=by
 cases x with
 | none=>rfl
 | some v=>cases v <;> rfl
def aS(v:V)(S:List ao)(d:ah):cK (some v,.tr S d)=S:=by cases v <;> rfl
def mo(h:a∈cK e):(e.1=some (.ref a)/\((∃ds,e.2=.ow ds)\/∃ds,e.2=.io ds))\/∃S d,e.2=.tr S d/\a∈S:=by
 obtain⟨x,s⟩:=e;cases s with
 | un=>rw[gR] at h;exact absurd h JR
 | vw i=>rw[ju] at h;exact absurd h JR
 | fr d=>rw[d9] at h;exact absurd h JR
 | tr S d =>
  cases x with
  | none=>exact absurd h JR
  | some v=>rw[aS] at h;exact .inr ⟨S,d,rfl,h⟩
 | ow ds =>
  cases x with
  | none=>exact absurd h JR
  | some v=>cases v with
   | ref b=>rw[Jf.mp h];exact .inl ⟨rfl,.inl ⟨ds,rfl⟩⟩
   | _=>exact absurd h JR
 | io ds =>
  cases x with
  | none=>exact absurd h JR
  | some v=>cases v with
   | ref b=>rw[Jf.mp h];exact .inl ⟨rfl,.inr ⟨ds,rfl⟩⟩
   | _=>exact absurd h JR
structure bN(K:cb)(M P:ao->Prop)(H0:Hp)(E:List Ent)(H:Hp):Prop where
 keep:aX P H0 H
 live:∀a,H0 a≠none->H a≠none
 mt : ∀a,M a->H0 a≠none
 pm : ∀a,P a->M a
 fr : ∀x d,(x,Sl.fr d)∈E->∃v,x=some v/\DN K (Nw M E) H v d
 ow : ∀x ds,(x,Sl.ow ds)∈E->∃a vs,x=some (.ref a)/\H a=some (.lst vs)/\DNs K (Nw M E) H vs ds/\H0 a=none
 io : ∀x ds,(x,Sl.io ds)∈E->∃a vs,x=some (.ref a)/\H a=some (.lst vs)/\DNs K (Nw M E) H vs ds/\P a
 tr : ∀x S d,(x,Sl.tr S d)∈E->∃v,x=some v/\OT K (Nw M E) H v d S/\∀a∈S,H0 a=none
 nd : (oas E).Nodup
section
variable {K:cb}{M P:ao->Prop}{H0 H H':Hp}{E E' A B:List Ent}{e:Ent}
def bN.own(h:bN K M P H0 E H)(e:a∈oas E):∃o,H a=some o/\(H0 a=none\/P a):=by
 obtain⟨⟨x,s⟩,c,f⟩:=bh.mp e;rcases mo f with⟨e1,e2⟩|⟨S,d,e2,ms⟩
 rotate_left
 .simp only at e2;subst e2;obtain⟨v,_,q,r⟩:=h.tr _ _ _ c;obtain⟨vs,z⟩:=q.lives a ms;exact⟨vs,z,.inl (r a ms)⟩
 rcases e2 with⟨ds,e2⟩|⟨ds,e2⟩
 .simp only at e1 e2;subst e1 e2;obtain⟨b,vs,z,q,_,r⟩:=h.ow _ _ c;cases z;exact⟨_,q,.inl r⟩
 .simp only at e1 e2;subst e1 e2;obtain⟨b,vs,z,q,_,r⟩:=h.io _ _ c;cases z;exact⟨_,q,.inr r⟩
def Nw.sub(h:∀a,a∈oas E'->a∈oas E):∀b,Nw M E' b->Nw M E b:=λb z=>by
 rcases z with z|z
 .exact .inl z
 .exact .inr (h b z)
theorem bN.sub(h:bN K M P H0 E H)(c:∀x s,(x,s)∈E'->(x,s)∈E\/s=.un\/∃i,s=.vw i)(nd:(oas E').Nodup):bN K M P H0 E' H:=by
 have os:∀a,a∈oas E'->a∈oas E:=λa g=>by
  obtain⟨⟨x,s⟩,j,f⟩:=bh.mp g;rcases c x s j with q|q|⟨i,q⟩
  .exact bh.mpr ⟨_,q,f⟩
  .subst q;rw[gR] at f;cases f
  .subst q;rw[ju] at f;cases f
 have up:=Nw.sub (M:=M) os;refine⟨h.keep,h.live,h.mt,h.pm,λx d m=>?_,λx d m=>?_,λx d m=>?_,λx S d m=>?_,nd⟩
 rotate_right
 .rcases c _ _ m with q|q|⟨i,q⟩
  .obtain⟨v,e,dn,r⟩:=h.tr x S d q;exact⟨v,e,dn.to λb _ _ z=>up b z,r⟩
  .cases q
  .cases q
 .rcases c _ _ m with q|q|⟨i,q⟩
  .obtain⟨v,e,dn⟩:=h.fr x d q;exact⟨v,e,dn.to λb _ _ z=>up b z⟩
  .cases q
  .cases q
 .rcases c _ _ m with q|q|⟨i,q⟩
  .obtain⟨a,vs,e,e2,dn,r⟩:=h.ow x d q;exact⟨a,vs,e,e2,dn.to λb _ _ z=>up b z,r⟩
  .cases q
  .cases q
 .rcases c _ _ m with q|q|⟨i,q⟩
  .obtain⟨a,vs,e,e2,dn,r⟩:=h.io x d q;exact⟨a,vs,e,e2,dn.to λb _ _ z=>up b z,r⟩
  .cases q
  .cases q
def bN.drop(h:bN K M P H0 (E++B) H):bN K M P H0 E H:=h.sub (λx s m=>.inl (Jl _ m)) (by
 have:=h.nd;rw[am] at this;exact(Ju.mp this).1)
theorem bN.same(h:bN K M P H0 E H)(k:be H H'):bN K M P H0 E H':=by
 refine⟨h.keep.trans (aX.same k),λa q z=>?_,h.mt,h.pm,λx d m=>?_,λx d m=>?_,λx d m=>?_,λx S d m=>?_,h.nd⟩
 rotate_right
 .obtain⟨v,e,dn,r⟩:=h.tr x S d m;exact⟨v,e,dn.keep (aX.same k) λa b=>by
   obtain⟨xs,z⟩:=dn.lives a b;rw[k a _ z,z],r⟩
 .have q1:=h.live a q;cases e:H a with
  | none=>exact q1 e
  | some o=>rw[k a o e] at z;cases z
 .obtain⟨v,e,dn⟩:=h.fr x d m;exact⟨v,e,dn.keep (aX.same k)⟩
 .obtain⟨a,vs,e,e2,dn,r⟩:=h.ow x d m;exact⟨a,vs,e,k _ _ e2,dn.keep (aX.same k),r⟩
 .obtain⟨a,vs,e,e2,dn,r⟩:=h.io x d m;exact⟨a,vs,e,k _ _ e2,dn.keep (aX.same k),r⟩
def bN.addFr(h:bN K M P H0 E H)(dn:DN K (Nw M E) H v d):bN K M P H0 (E++[(some v,.fr d)]) H:=by
 have a:oas (E++[(some v,Sl.fr d)])=oas E:=by rw[am,ar,d9];simp[oas]
 have ne:Nw M (E++[(some v,Sl.fr d)])=Nw M E:=by unfold Nw;rw[a]
 refine⟨h.keep,h.live,h.mt,h.pm,λx d' m=>?_,λx d' m=>?_,λx d' m=>?_,λx S d' m=>?_,by rw[a];exact h.nd⟩
 rotate_right
 .rw[ne];rcases Jj.mp m with m|m
  .exact h.tr x S d' m
  .rw[Jf] at m;cases m
 .rw[ne];rcases Jj.mp m with m|m
  .exact h.fr x d' m
  .rw[Jf] at m;cases m;exact⟨v,rfl,dn⟩
 .rw[ne];rcases Jj.mp m with m|m
  .exact h.ow x d' m
  .rw[Jf] at m;cases m
 .rw[ne];rcases Jj.mp m with m|m
  .exact h.io x d' m
  .rw[Jf] at m;cases m
def bN.addVw(h:bN K M P H0 E H):bN K M P H0 (E++[(some v,.vw i)]) H:=by
 refine h.sub (λx s m=>?_) ?_
 .rcases Jj.mp m with m|m
  .exact .inl m
  .rw[Jf] at m;cases m;exact .inr (.inr ⟨i,rfl⟩)
 .rw[am,ar,ju];simpa[oas] using h.nd
def bN.addOw(h:bN K M P H0 E H)(c:H p=none)(d:DNs K (Nw M E) H vs ds):bN K M P H0 (E++[(some (.ref p),.ow ds)]) (upd H p (.lst vs)):=by
 have g:oas (E++[(some (.ref p),Sl.ow ds)])=oas E++[p]:=by rw[am];rfl
 have i:p ∉ oas E:=λz=>by
  obtain⟨vs',q,_⟩:=h.own z;rw[c] at q;cases q
 have j:H0 p=none:=by
  cases e:H0 p with
  | none=>rfl
  | some o=>exact absurd c (h.live p (by rw[e];simp))
 have up:∀b o,H b=some o->Nw M (E++[(some (.ref p),Sl.ow ds)]) b->Nw M E b:=λb o e z=>by
  rcases z with z|z
  .exact .inl z
  .rw[g] at z;rcases Jj.mp z with z|z
   .exact .inr z
   .rw[Jf.mp z,c] at e;cases e
 have h':=h.same (be.new (o:=.lst vs) c);refine⟨h'.keep,h'.live,h.mt,h.pm,λx d' m=>?_,λx d' m=>?_,λx d' m=>?_,λx S d' m=>?_,?_⟩
 rotate_right 2
 .rcases Jj.mp m with m|m
  .obtain⟨v,e,dn,r⟩:=h.tr x S d' m;exact⟨v,e,(dn.to up).keep (aX.same (be.new c)) λa f=>by
    obtain⟨xs,z⟩:=dn.lives a f;rw[be.new c _ _ z,z],r⟩
  .rw[Jf] at m;cases m
 rotate_left
 .rcases Jj.mp m with m|m
  .obtain⟨v,e,dn⟩:=h.fr x d' m;exact⟨v,e,(dn.to up).keep (aX.same (be.new c))⟩
  .rw[Jf] at m;cases m
 .rcases Jj.mp m with m|m
  .obtain⟨a,ws,e,e2,dn,r⟩:=h.ow x d' m;exact⟨a,ws,e,be.new c _ _ e2,(dn.to up).keep (aX.same (be.new c)),r⟩
  .rw[Jf] at m;cases m;exact⟨p,vs,rfl,aB,(d.to up).keep (aX.same (be.new c)),j⟩
 .rcases Jj.mp m with m|m
  .obtain⟨a,ws,e,e2,dn,r⟩:=h.io x d' m;exact⟨a,ws,e,be.new c _ _ e2,(dn.to up).keep (aX.same (be.new c)),r⟩
  .rw[Jf] at m;cases m
 .rw[g];exact Ju.mpr ⟨h.nd,!1,λa f b k=>by rw[Jf.mp k];exactλz=>i (z▸f)⟩
def bN.freeze(h:bN K M P H0 (A++(some (.ref a),.ow ds)::B) H):bN K M P H0 (A++(some (.ref a),.fr (.list ds))::B) H:=by
 have g:oas (A++(some (.ref a),Sl.ow ds)::B)=oas A++a::oas B:=by rw[am,ar];rfl
 have c:oas (A++(some (.ref a),Sl.fr (.list ds))::B)=oas A++oas B:=by rw[am,ar];rfl
 have nd:=h.nd;rw[g] at nd;obtain⟨j,k,i⟩:=Ju.mp nd;obtain⟨l,n⟩:=JO.mp k;have up:∀b,Nw M (A++(some (.ref a),Sl.fr (.list ds))::B) b->Nw M (A++(some (.ref a),Sl.ow ds)::B) b:=Nw.sub λb z=>by
  rw[c] at z;rw[g];rcases Jj.mp z with z|z
  .exact Jl _ z
  .exact Jg _ (Jq _ z)
 have o:(some (.ref a),Sl.ow ds)∈A++(some (.ref a),Sl.ow ds)::B:=Jg _ Jm;obtain⟨w,vs,z,p,f,q⟩:=h.ow _ _ o;cases z;have t:¬Nw M (A++(some (.ref a),Sl.fr (.list ds))::B) a:=λz=>by
  rcases z with z|z
  .exact h.mt a z q
  .rw[c] at z;rcases Jj.mp z with z|z
   .exact i a z a Jm rfl
   .exact l z
 have old:∀x s,(x,s)∈A++(some (.ref a),Sl.fr (.list ds))::B->(x,s)=(some (.ref a),Sl.fr (.list ds))\/(x,s)∈A++(some (.ref a),Sl.ow ds)::B:=λx s m=>by
  rcases Jj.mp m with m|m
  .exact .inr (Jl _ m)
  .rcases Jo.mp m with m|m
   .exact .inl m
   .exact .inr (Jg _ (Jq _ m))
 refine⟨h.keep,h.live,h.mt,h.pm,λx d m=>?_,λx d m=>?_,λx d m=>?_,λx S d m=>?_,?_⟩
 rotate_right 2
 .rcases old _ _ m with m|m
  .cases m
  .obtain⟨v,e,dn,r⟩:=h.tr x S d m;exact⟨v,e,dn.to λb _ _ z=>up b z,r⟩
 rotate_left
 .rcases old _ _ m with m|m
  .cases m;exact⟨_,rfl,.lst (SnL.of p t) (f.to λb _ _ z=>up b z)⟩
  .obtain⟨v,e,dn⟩:=h.fr x d m;exact⟨v,e,dn.to λb _ _ z=>up b z⟩
 .rcases old _ _ m with m|m
  .cases m
  .obtain⟨b,ws,e,e2,dn,r⟩:=h.ow x d m;exact⟨b,ws,e,e2,dn.to λb _ _ z=>up b z,r⟩
 .rcases old _ _ m with m|m
  .cases m
  .obtain⟨b,ws,e,e2,dn,r⟩:=h.io x d m;exact⟨b,ws,e,e2,dn.to λb _ _ z=>up b z,r⟩
 .rw[c];exact Ju.mpr ⟨j,n,λx hx y u=>i x hx y (Jq _ u)⟩
def bN.freezeT(h:bN K M P H0 (A++(some v,.tr S d)::B) H):bN K M P H0 (A++(some v,.fr d)::B) H:=by
 have g:oas (A++(some v,Sl.tr S d)::B)=oas A++(S++oas B):=by rw[am,ar,aS]
 have c:oas (A++(some v,Sl.fr d)::B)=oas A++oas B:=by rw[am,ar,d9];rfl
 have nd:=h.nd;rw[g] at nd;obtain⟨j,k,i⟩:=Ju.mp nd;obtain⟨u,l,n⟩:=Ju.mp k;have up:∀b,Nw M (A++(some v,Sl.fr d)::B) b->Nw M (A++(some v,Sl.tr S d)::B) b:=Nw.sub λb z=>by
  rw[c] at z;rw[g];rcases Jj.mp z with z|z
  .exact Jl _ z
  .exact Jg _ (Jg _ z)
 have o:(some v,Sl.tr S d)∈A++(some v,Sl.tr S d)::B:=Jg _ Jm;obtain⟨v',z,ot,p⟩:=h.tr _ _ _ o;cases z;have q:∀a∈S,¬Nw M (A++(some v,Sl.fr d)::B) a:=λa f z=>by
  rcases z with z|z
  .exact h.mt a z (p a f)
  .rw[c] at z;rcases Jj.mp z with z|z
   .exact i a z a (Jl _ f) rfl
   .exact n a f a z rfl
 have old:∀x s,(x,s)∈A++(some v,Sl.fr d)::B->(x,s)=(some v,Sl.fr d)\/(x,s)∈A++(some v,Sl.tr S d)::B:=λx s m=>by
  rcases Jj.mp m with m|m
  .exact .inr (Jl _ m)
  .rcases Jo.mp m with m|m
   .exact .inl m
   .exact .inr (Jg _ (Jq _ m))
 refine⟨h.keep,h.live,h.mt,h.pm,λx d' m=>?_,λx d' m=>?_,λx d' m=>?_,λx S' d' m=>?_,?_⟩
 .rcases old _ _ m with m|m
  .cases m;exact⟨_,rfl,ot.dn up q⟩
  .obtain⟨v,e,dn⟩:=h.fr x d' m;exact⟨v,e,dn.to λb _ _ z=>up b z⟩
 .rcases old _ _ m with m|m
  .cases m
  .obtain⟨b,ws,e,e2,dn,r⟩:=h.ow x d' m;exact⟨b,ws,e,e2,dn.to λb _ _ z=>up b z,r⟩
 .rcases old _ _ m with m|m
  .cases m
  .obtain⟨b,ws,e,e2,dn,r⟩:=h.io x d' m;exact⟨b,ws,e,e2,dn.to λb _ _ z=>up b z,r⟩
 .rcases old _ _ m with m|m
  .cases m
  .obtain⟨v,e,dn,r⟩:=h.tr x S' d' m;exact⟨v,e,dn.to λb _ _ z=>up b z,r⟩
 .rw[c];exact Ju.mpr ⟨j,l,λx hx y t=>i x hx y (Jg _ t)⟩
def B7:Sl->List ah->Sl->Prop
 | .ow _,ds',s'=>s'=.ow ds'
 | .io _,ds',s'=>s'=.io ds'
 | _,_,_=>False
def dq(h:B7 s l s'):(∃d,s=.ow d/\s'=.ow l)\/∃d,s=.io d/\s'=.io l:=by
 cases s with
 | ow d=>exact .inl ⟨d,rfl,h⟩
 | io d=>exact .inr ⟨d,rfl,h⟩
 | _=>exact h.elim
def gE(h:B7 s l s'):cK (some (.ref a),s)=[a]/\cK (some (.ref a),s')=[a]:=by rcases dq h with⟨_,rfl,rfl⟩|⟨_,rfl,rfl⟩ <;> exact⟨rfl,rfl⟩
def bN.muted(h:bN K M P H0 (A++(some (.ref a),s)::B) H)(c:B7 s ds' s')(k:aX (λb=>b=a) H H')(C:∀b,H b≠none->H' b≠none)
  (p:H' a=some (.lst vs')) (f:DNs K (Nw M (A++(some (.ref a),s)::B)) H' vs' ds'):bN K M P H0 (A++(some (.ref a),s')::B) H':=by
 have u:cK (some (.ref a),s)=[a]/\cK (some (.ref a),s')=[a]:=gE c;have j:oas (A++(some (.ref a),s)::B)=oas A++a::oas B:=by rw[am,ar,u.1];rfl
 have g:oas (A++(some (.ref a),s')::B)=oas A++a::oas B:=by rw[am,ar,u.2];rfl
 have ne:Nw M (A++(some (.ref a),s')::B)=Nw M (A++(some (.ref a),s)::B):=by unfold Nw;rw[j,g]
 have D:Nw M (A++(some (.ref a),s)::B) a:=.inr (by rw[j];simp);have nd:=h.nd;rw[j] at nd;obtain⟨I,E,F⟩:=Ju.mp nd;obtain⟨G,J⟩:=JO.mp E;have l:aX (Nw M (A++(some (.ref a),s)::B)) H H':=k.mono λb z=>by rw[z];exact D
 obtain⟨ws,hw,hP⟩:=h.own (a:=a) (by rw[j];simp);have other:∀x t b,(x,t)∈A\/(x,t)∈B->b∈cK (x,t)->b≠a:=λx t b m w z=>by
  subst z;rcases m with m|m
  .exact F b (bh.mpr ⟨_,m,w⟩) b Jm rfl
  .exact G (bh.mpr ⟨_,m,w⟩)
 have old:∀x t,(x,t)∈A++(some (.ref a),s')::B->(x,t)=(some (.ref a),s')\/((x,t)∈A\/(x,t)∈B):=λx t m=>by
  rcases Jj.mp m with m|m
  .exact .inr (.inl m)
  .rcases Jo.mp m with m|m
   .exact .inl m
   .exact .inr (.inr m)
 have back:∀x t,(x,t)∈A\/(x,t)∈B->(x,t)∈A++(some (.ref a),s)::B:=λx t m=>by
  rcases m with m|m
  .exact Jl _ m
  .exact Jg _ (Jq _ m)
 have L:(some (.ref a),s)∈A++(some (.ref a),s)::B:=Jg _ Jm;refine⟨?_,λb q=>C b (h.live b q),h.mt,h.pm,λx d m=>?_,λx d m=>?_,λx d m=>?_,λx S d m=>?_,by rw[g];exact nd⟩
 rotate_right
 .rw[ne];rcases old _ _ m with m|m
  .rcases dq c with⟨_,_,e⟩|⟨_,_,e⟩ <;> (rw[e] at m;cases m)
  .obtain⟨v,e,dn,r⟩:=h.tr x S d (back _ _ m);subst e;refine⟨v,rfl,dn.keep l λb i=>?_,r⟩;obtain⟨xs,z⟩:=dn.lives b i;rw[k _ _ (other _ _ b m (by rw[aS];exact i)) z,z]
 .intro b o y e;by_cases i:b=a
  .subst i;rcases hP with q|q
   .rw[q] at e;cases e
   .exact absurd q y
  .exact k b o i (h.keep b o y e)
 .rw[ne];rcases old _ _ m with m|m
  .rcases dq c with⟨_,_,e⟩|⟨_,_,e⟩ <;> (rw[e] at m;cases m)
  .obtain⟨v,e,dn⟩:=h.fr x d (back _ _ m);exact⟨v,e,dn.keep l⟩
 .rw[ne];rcases old _ _ m with m|m
  .rcases dq c with⟨n,e1,e2⟩|⟨_,_,e2⟩ <;> (rw[e2] at m;cases m)
   obtain⟨b,us,e,_,_,r⟩:=h.ow (some (.ref a)) n (Jg _ (by rw[e1];exact Jm));cases e;exact⟨a,vs',rfl,p,f,r⟩
  .obtain⟨b,us,e,e2,dn,r⟩:=h.ow x d (back _ _ m);subst e;exact⟨b,us,rfl,k _ _ (other _ _ b m (Jf.mpr rfl)) e2,dn.keep l,r⟩
 .rw[ne];rcases old _ _ m with m|m
  .rcases dq c with⟨_,_,e2⟩|⟨n,e1,e2⟩ <;> (rw[e2] at m;cases m)
   obtain⟨b,us,e,_,_,r⟩:=h.io (some (.ref a)) n (Jg _ (by rw[e1];exact Jm));cases e;exact⟨a,vs',rfl,p,f,r⟩
  .obtain⟨b,us,e,e2,dn,r⟩:=h.io x d (back _ _ m);subst e;exact⟨b,us,rfl,k _ _ (other _ _ b m (Jf.mpr rfl)) e2,dn.keep l,r⟩
def bN.mut(h:bN K M P H0 (A++(some (.ref a),s)::B) H)(f:B7 s ds' s')(d:DNs K (Nw M (A++(some (.ref a),s)::B)) H vs' ds') :
  bN K M P H0 (A++(some (.ref a),s')::B) (upd H a (.lst vs')) :=
 have g:cK (some (.ref a),s)=[a]:=(gE f).1
 h.muted f (λb o c e=>by rw[au c];exact e) (λb q z=>by
  by_cases c:b=a
  .rw[c,aB] at z;cases z
  .rw[au c] at z;exact q z) aB (d.keep (aX.own (.inr (bh.mpr ⟨_,Jg _ Jm,by rw[g];exact Jf.mpr rfl⟩))))
def bN.move(h:bN K M P H0 (A++e::(B++[t])) H):bN K M P H0 (A++t::B) H:=by
 refine h.sub (λx s m=>.inl ?_) ?_
 .rcases Jj.mp m with m|m
  .exact Jl _ m
  .rcases Jo.mp m with m|m
   .exact Jg _ (Jq _ (Jg _ (by rw[m];simp)))
   .exact Jg _ (Jq _ (Jl _ m))
 .have nd:=h.nd;have b:oas (A++e::(B++[t]))=oas A++(oas [e]++(oas B++oas [t])):=by
   rw[am,show e::(B++[t])=[e]++(B++[t]) from rfl,am,am]
  have c:oas (A++t::B)=oas A++(oas [t]++oas B):=by rw[am,show t::B=[t]++B from rfl,am]
  rw[b] at nd;rw[c];obtain⟨d,f,g⟩:=Ju.mp nd;obtain⟨_,i,_⟩:=Ju.mp f;obtain⟨j,k,l⟩:=Ju.mp i;refine Ju.mpr ⟨d,Ju.mpr ⟨k,j,λx hx y a z=>l y a x hx z.symm⟩,λx hx y a=>?_⟩;refine g x hx y (Jg _ ?_);rcases Jj.mp a with a|a
  .exact Jg _ a
  .exact Jl _ a
end
structure Rel(K:cb)(M P:ao->Prop)(H0:Hp)(σ0 σ:St)(env:List Sl)(ts:List (V×Sl))(H:Hp):Prop where
 e : bN K M P H0 (aG σ env ts) H
 len:σ.length=env.length
 vw : ∀(v:V) (i:Nat),(v,Sl.vw i)∈ts->σ[i]? = some (some v)
 ios:∀(i:Nat) (ds:List ah),env[i]? = some (Sl.io ds)->σ[i]? = σ0[i]?
inductive Vw (K:cb) (N:ao->Prop) (H:Hp):V->ah->Prop
 | dn {v d}:DN K N H v d->Vw K N H v d
 | ow {a vs ds}:H a=some (.lst vs)->DNs K N H vs ds->Vw K N H (.ref a) (.list ds)
 | dct {a:ao}{es:List (ay×ao×V)}{kvs:List (ay×ah)}:H a=some (.ext (bx a es))->DNs K N H (es.map λp=>V.ref p.2.1) (kvs.map λp=>bi p.1)->DNs K N H (es.map λp=>p.2.2) (kvs.map λp=>p.2)->es.map (λp=>p.1)=kvs.map (λp=>p.1)->Vw K N H (.ref a) (bz kvs)
 | idc {a:ao}{es:List (Int×V)}{kvs:List (Int×ah)}:H a=some (.ext (aZ a es))->DNs K N H (es.map λp=>p.2) (kvs.map λp=>p.2)->es.map (λp=>p.1)=kvs.map (λp=>p.1)->Vw K N H (.ref a) (dG kvs)
def slD:Sl->Option ah
 | .fr d=>some d
 | .ow ds=>some (.list ds)
 | .io ds=>some (.list ds)
 | .tr _ (.dict kvs)=>some (.dict kvs)
 | _=>none
def aO(env:List Sl):Sl->Option ah
 | .vw i=>(env[i]?).bind slD
 | .fr d=>some d
 | .ow ds=>some (.list ds)
 | .io ds=>some (.list ds)
 | .tr _ (.dict kvs)=>some (.dict kvs)
 | _=>none
def slK:Sl->Option ah
 | .fr d=>some d
 | _=>none
def aL(env:List Sl):Sl->Option ah
 | .vw i=>(env[i]?).bind slK
 | .fr d=>some d
 | .ow ds=>some (.list ds)
 | .tr _ d=>some d
 | _=>none
section
variable {K:cb}{M P N:ao->Prop}{H0 H H':Hp}{σ0 σ:St}{env:List Sl}{ts tt:List (V×Sl)}{v:V}{s:Sl}{d:ah}
def aC:aG σ env (ts++tt)=aG σ env ts++tmp tt:=by unfold aG;rw[J5];simp[tmp]
def OT.dict_view(h:OT K N H v (.dict kvs) S):Vw K N H v (.dict kvs):=by
 generalize e:PyData.dict kvs=d at h;cases h with
 | dct h q r e2=>exact .dct h q r e2
 | idc h q e2=>exact .idc h q e2
 | fz h=>exact .dn (.fz h)
 | _=>cases e
theorem Vw.dv(h:Vw K N H v d):DV K H v d:=by
 cases h with
 | dn h=>exact h.dv
 | ow h q=>exact .lst (SqL.of h) q.dv
 | dct h q r e=>exact .dct h q.dv r.dv e
 | idc h q e=>exact .idc h q.dv e
theorem Vw.list(h:Vw K N H v (.list ds)):∃a vs,v=.ref a/\SqL K H a vs/\DNs K N H vs ds:=by
 cases h with
 | dn h=>obtain⟨a,vs,e,s,q⟩:=h.list;exact⟨a,vs,e,s.sq,q⟩
 | ow h q=>exact⟨_,_,rfl,SqL.of h,q⟩
theorem Vw.tuple(h:Vw K N H v (.tuple ds)):∃a vs,v=.ref a/\SqT K H a vs/\DNs K N H vs ds:=by
 cases h with
 | dn h=>obtain⟨a,vs,e,s,q⟩:=h.tuple;exact⟨a,vs,e,s.sq,q⟩
theorem Vw.int(h:Vw K N H v (.int i)):v=.int i:=by
 cases h with
 | dn h=>cases h;rfl
theorem Vw.bool(h:Vw K N H v (.bool i)):v=.bl i:=by
 cases h with
 | dn h=>cases h;rfl
theorem Vw.none(h:Vw K N H v .none):v=.non:=by
 cases h with
 | dn h=>cases h;rfl
def tI(h:σ.length=env.length){i:Nat}(e:env[i]? = some s):∃x,σ[i]? = some x/\(x,s)∈σ.zip env:=by
 have hi:i<env.length:=(Js.mp e).1;have hj:i<σ.length:=!0
 refine⟨σ[i],Ji hj,?_⟩;have hz:i<(σ.zip env).length:=by rw[KD];omega
 have:=JF hz;rw[ph] at this;rwa [(Js.mp e).2] at this
def fh(m:(v,s)∈ts):((some v,s):Ent)∈aG σ env ts:=Jg _ (Jk.mpr ⟨(v,s),m,rfl⟩)
def Rel.slot(h:Rel K M P H0 σ0 σ env ts H){i:Nat}(e:env[i]? = some s):∃x,σ[i]? = some x/\(x,s)∈aG σ env ts:=by obtain⟨x,e1,m⟩:=tI h.len e;exact⟨x,e1,Jl _ m⟩
def bN.viewE(h:bN K M P H0 E H)(m:(x,s)∈E)(e:slD s=some d):∃v,x=some v/\Vw K (Nw M E) H v d:=by
 cases s with
 | fr d' =>
  cases e;obtain⟨v,e1,dn⟩:=h.fr _ _ m;exact⟨v,e1,.dn dn⟩
 | ow ds =>
  cases e;obtain⟨a,vs,e1,e2,dn,_⟩:=h.ow _ _ m;exact⟨_,e1,.ow e2 dn⟩
 | io ds =>
  cases e;obtain⟨a,vs,e1,e2,dn,_⟩:=h.io _ _ m;exact⟨_,e1,.ow e2 dn⟩
 | un=>cases e
 | vw i=>cases e
 | tr S d' =>
  cases d' with
  | dict kvs =>
   cases e;obtain⟨v,e1,ot,_⟩:=h.tr _ _ _ m;exact⟨v,e1,ot.dict_view⟩
  | _=>cases e
def Rel.there(h:Rel K M P H0 σ0 σ env ts H){i:Nat}(e:(env[i]?).bind slD=some d):∃v,σ[i]? = some (some v)/\Vw K (Nw M (aG σ env ts)) H v d:=by
 cases q:env[i]? with
 | none=>rw[q] at e;cases e
 | some s =>
  rw[q] at e;obtain⟨x,e1,m⟩:=h.slot q;obtain⟨v,e2,w⟩:=h.e.viewE m e;exact⟨v,by rw[e1,e2],w⟩
def Rel.view(h:Rel K M P H0 σ0 σ env ts H)(m:(v,s)∈ts)(e:aO env s=some d):Vw K (Nw M (aG σ env ts)) H v d:=by
 cases s with
 | vw i =>
  obtain⟨w,e1,q⟩:=h.there e;rw[h.vw v i m] at e1;cases e1;exact q
 | un=>cases e
 | tr S d' =>
  cases d' with
  | dict kvs=>obtain⟨w,e1,q⟩:=h.e.viewE (s:=.tr S (.dict kvs)) (fh m) e;cases e1;exact q
  | _=>cases e
 | fr d'=>obtain⟨w,e1,q⟩:=h.e.viewE (fh m) e;cases e1;exact q
 | ow d'=>obtain⟨w,e1,q⟩:=h.e.viewE (fh m) e;cases e1;exact q
 | io d'=>obtain⟨w,e1,q⟩:=h.e.viewE (fh m) e;cases e1;exact q
def fg(h:Nw M E b):Nw M (E++B) b:=by
 rcases h with h|h
 .exact .inl h
 .exact .inr (by rw[am];exact Jl _ h)
theorem Rel.drop(h:Rel K M P H0 σ0 σ env (ts++tt) H):Rel K M P H0 σ0 σ env ts H :=
 ⟨by have:=h.e;rw[aC] at this;exact this.drop,h.len,λv i m=>h.vw v i (Jl _ m),h.ios⟩
theorem Rel.same(h:Rel K M P H0 σ0 σ env ts H)(k:be H H'):Rel K M P H0 σ0 σ env ts H':=⟨h.e.same k,h.len,h.vw,h.ios⟩
theorem Rel.addFr(h:Rel K M P H0 σ0 σ env ts H)(dn:DN K (Nw M (aG σ env ts)) H v d):Rel K M P H0 σ0 σ env (ts++[(v,.fr d)]) H :=
 ⟨by rw[aC];exact h.e.addFr dn,h.len,(λw i m=>by
  rcases Jj.mp m with m|m
  .exact h.vw w i m
  .rw[Jf] at m;cases m),h.ios⟩
theorem Rel.addVw(h:Rel K M P H0 σ0 σ env ts H)(e:σ[i]? = some (some v)):Rel K M P H0 σ0 σ env (ts++[(v,.vw i)]) H :=
 ⟨by rw[aC];exact h.e.addVw,h.len,(λw i m=>by
  rcases Jj.mp m with m|m
  .exact h.vw w i m
  .rw[Jf] at m;cases m;exact e),h.ios⟩
theorem Rel.addOw(h:Rel K M P H0 σ0 σ env ts H)(b:H p=none)(a:DNs K (Nw M (aG σ env ts)) H vs ds):Rel K M P H0 σ0 σ env (ts++[(.ref p,.ow ds)]) (upd H p (.lst vs)) :=
 ⟨by rw[aC];exact h.e.addOw b a,h.len,(λw i m=>by
  rcases Jj.mp m with m|m
  .exact h.vw w i m
  .rw[Jf] at m;cases m),h.ios⟩
def Rel.res(h:Rel K M P H0 σ0 σ env (ts++tt) H)(k:be H H')(dn:DN K (Nw M (aG σ env (ts++tt))) H' v d):Rel K M P H0 σ0 σ env (ts++[(v,.fr d)]) H' :=
 (h.drop.same k).addFr (dn.to λb _ _ z=>by rw[aC];exact fg z)
def Rel.resOw(h:Rel K M P H0 σ0 σ env (ts++tt) H)(c:H p=none)(a:DNs K (Nw M (aG σ env (ts++tt))) H vs ds):Rel K M P H0 σ0 σ env (ts++[(.ref p,.ow ds)]) (upd H p (.lst vs)) :=
 h.drop.addOw c (a.to λb _ _ z=>by rw[aC];exact fg z)
end
abbrev DE:=List Sl->(Sl->List Sl->Prop)->Prop
abbrev DT:=List Sl->(Bool->List Sl->Prop)->Prop
abbrev DA:=List Sl->(List Sl->List Sl->Prop)->Prop
structure Wn{α:Type}(a:α):Type
def dK(R:Sl->List Sl->Prop)(_:Wn R):Sl->List Sl->Prop:=R
def Aj(R:Sl->List Sl->Prop)(w:Wn R)(s:Sl)(env:List Sl):dK R w s env=R s env:=rfl
def dI(W:List Sl->Prop)(_:Wn W):List Sl->Prop:=W
def Fg(W:List Sl->Prop)(w:Wn W)(env:List Sl):dI W w env=W env:=rfl
abbrev Wk(G Q:Prop):Prop:=(G->Q)->(Q->G)->Q->G
def tJ{c:Bool}{p A d B f:Prop} [Decidable p](e:c=decide p)(a:d->A)(b:f->B)(h:if p then d else f):if c=true then A else B:=by
 subst e;by_cases q:p
 .rw[Mz q] at h;rw[Mz (decide_eq_true q)];exact a h
 .rw[MA q] at h;rw[MA λz=>q (of_decide_eq_true z)];exact b h
inductive up (K:cb) (t:DE) (σ:St) (H:Hp) (Q:VK):Prop
 | mk (M P:ao->Prop) (H0:Hp) (σ0:St) (env:List Sl) (ts:List (V×Sl)) (R:Sl->List Sl->Prop):Rel K M P H0 σ0 σ env ts H->t env R ->
 (∀s env' v H',R s env'->Rel K M P H0 σ0 σ env' (ts++[(v,s)]) H'->Q v H')->up K t σ H Q
inductive upT (K:cb) (t:DT) (σ:St) (H:Hp) (Q:Bool->Hp->Prop):Prop
 | mk (M P:ao->Prop) (H0:Hp) (σ0:St) (env:List Sl) (ts:List (V×Sl)) (R:Bool->List Sl->Prop):Rel K M P H0 σ0 σ env ts H->t env R ->
 (∀b env' H',R b env'->Rel K M P H0 σ0 σ env' ts H'->Q b H')->upT K t σ H Q
inductive upA (K:cb) (t:DA) (σ:St) (H:Hp) (Q:List V->Hp->Prop):Prop
 | mk (M P:ao->Prop) (H0:Hp) (σ0:St) (env:List Sl) (ts:List (V×Sl)) (R:List Sl->List Sl->Prop):Rel K M P H0 σ0 σ env ts H->t env R ->
 (∀ss env' vs H',R ss env'->vs.length=ss.length->Rel K M P H0 σ0 σ env' (ts++vs.zip ss) H'->Q vs H')->upA K t σ H Q
def PE.imp(h:PE X e t)(k:∀σ H Q,t' σ H Q->t σ H Q):PE X e t':=λpins s σ H Q I hw=>h pins s σ H Q I (k σ H Q hw)
def PT.imp(h:PT X e t)(k:∀σ H Q,t' σ H Q->t σ H Q):PT X e t':=λpins s σ H Q I hw=>h pins s σ H Q I (k σ H Q hw)
def PW.imp(h:PW X e t)(k:∀σ H Q,t' σ H Q->t σ H Q):PW X e t':=λwh pins s σ H Q I hw=>h wh pins s σ H Q I (k σ H Q hw)
def PA.imp(h:PA X e t)(k:∀σ H Q,t' σ H Q->t σ H Q):PA X e t':=λpos pins s σ H Q I hw=>h pos pins s σ H Q I (k σ H Q hw)
section
variable {X:Cx}{K:cb}{pos:Pos}{a b c:bb}{ta tb tc:DE}{es:List bb}{tA tB':DT}{tl:DA}
def FG(i:Nat):DE:=λenv R=>∃d,(env[i]?).bind slD=some d/\R (.vw i) env
def qv(i:Nat)(hN:X.N[i]? = some x:=by rfl)(hv:Vis X.env.scope x:=by first|exact lA rfl|exact di ci|exact di (di rfl))(hd:(x==("__debug__" : bt))=false:=by decide)
  (b:(x==("__classdict__" : bt))=false:=by decide):PE X (.Name x pos) (up K (FG i)):=(bG hN hv hd b).imp λσ H Q h=>by
 obtain⟨M,P,H0,σ0,env,ts,R,a,⟨d,e,hR⟩,hq⟩:=h;obtain⟨v,e1,_⟩:=a.there e;exact⟨v,e1,hq _ _ _ _ hR (a.addVw e1)⟩
theorem gx{α:Type}:∀{l:List α}{i:Nat}{x:α},l[i]? = some x->∃A B,l=A++x::B/\∀y,l.set i y=A++y::B
 | [],i,x,h=>by simp at h
 | z::l,0,x,h=>by
  simp at h;subst h;exact⟨[],l,rfl,λy=>rfl⟩
 | z::l,i+1,x,h=>by
  obtain⟨A,B,e1,e2⟩:=gx (l:=l) (i:=i) (x:=x) (by simpa using h);exact⟨z::A,B,by rw[e1];rfl,λy=>by rw[List.set_cons_succ,e2 y];rfl⟩
def eO{α β:Type}(l:List α)(m:List β)(j:Nat):(l.zip m)[j]? = (l[j]?).bind λa=>(m[j]?).map λb=>(a,b):=by rw[pd,LC];cases l[j]? <;> cases m[j]? <;> rfl
def tH{σ:St}{env:List Sl}(h:σ[i]? = some x):σ.zip (env.set i s')=(σ.zip env).set i (x,s'):=by
 apply su;intro j;by_cases hj:i=j
 .subst hj;rw[KN,eO,eO,h];by_cases hi:i<env.length
  .rw[JK hi,Ji hi];rfl
  .rw[J0 (by simp;omega),J0 (!0)];rfl
 .rw[JJ hj,eO,eO,JJ hj]
def Rel.split{M P:ao->Prop}{H0 H:Hp}{σ0 σ:St}{env:List Sl}{ts:List (V×Sl)}{i:Nat}{s:Sl}(h:Rel K M P H0 σ0 σ env ts H)(e:env[i]? = some s) :
  ∃x A B,σ[i]? = some x/\aG σ env ts=A++(x,s)::B/\∀s',aG σ (env.set i s') ts=A++(x,s')::B:=by
 obtain⟨x,e1,m⟩:=tI h.len e;have a:(σ.zip env)[i]? = some (x,s):=by rw[pd,LC,e1,e]
 obtain⟨A,B,q1,q2⟩:=gx a;refine⟨x,A,B++tmp ts,e1,by unfold aG;rw[q1];simp,λs'=>?_⟩;unfold aG;rw[tH e1,q2];simp
def yW(i:Nat):DE:=λenv R=>match env[i]? with
 | some (.fr d)=>R (.fr d) env
 | some (.tr _ d)=>R (.fr d) (env.set i (.fr d))
 | some (.ow ds)=>R (.fr (.list ds)) (env.set i (.fr (.list ds)))
 | _=>False
def Rel.frz(h:Rel K M P H0 σ0 σ env ts H)(e:env[i]? = some (.ow ds)):Rel K M P H0 σ0 σ (env.set i (.fr (.list ds))) ts H:=by
 obtain⟨x,A,B,e1,q1,q2⟩:=h.split e;have r:=h.e;rw[q1] at r;obtain⟨a,vs,z,_⟩:=r.ow _ _ (Jg _ Jm);subst z;refine⟨by rw[q2];exact r.freeze,by simp[h.len],h.vw,λj ds' b=>?_⟩;by_cases hj:i=j
 .subst hj;have hi:i<env.length:=(Js.mp e).1;rw[JK hi] at b;cases b
 .rw[JJ hj] at b;exact h.ios j ds' b
def Rel.frzT(h:Rel K M P H0 σ0 σ env ts H)(e:env[i]? = some (.tr S d)):Rel K M P H0 σ0 σ (env.set i (.fr d)) ts H:=by
 obtain⟨x,A,B,e1,q1,q2⟩:=h.split e;have r:=h.e;rw[q1] at r;obtain⟨v,z,_⟩:=r.tr _ _ _ (Jg _ Jm);subst z;refine⟨by rw[q2];exact r.freezeT,by simp[h.len],h.vw,λj ds' a=>?_⟩;by_cases hj:i=j
 .subst hj;have hi:i<env.length:=(Js.mp e).1;rw[JK hi] at a;cases a
 .rw[JJ hj] at a;exact h.ios j ds' a
def qf(i:Nat)(hN:X.N[i]? = some x:=by rfl)(hv:Vis X.env.scope x:=by first|exact lA rfl|exact di ci|exact di (di rfl))(hd:(x==("__debug__" : bt))=false:=by decide)
  (f:(x==("__classdict__" : bt))=false:=by decide):PE X (.Name x pos) (up K (yW i)):=(bG hN hv hd f).imp λσ H Q h=>by
 obtain⟨M,P,H0,σ0,env,ts,R,b,c,hq⟩:=h;have key:∀env' d,Rel K M P H0 σ0 σ env' ts H->env'[i]? = some (.fr d)->R (.fr d) env'->wR i σ H Q:=λenv' d a g hR=>by
  obtain⟨j,e1,m⟩:=a.slot g;obtain⟨v,e2,dn⟩:=a.e.fr _ _ m;subst e2;exact⟨v,e1,hq _ _ _ _ hR (a.addFr dn)⟩
 unfold yW at c;split at c
 .rename_i d e;exact key env d b e c
 .rename_i S d e;have hi:i<env.length:=(Js.mp e).1;exact key _ _ (b.frzT e) (JK hi) c
 .rename_i ds e;have hi:i<env.length:=(Js.mp e).1;exact key _ _ (b.frz e) (JK hi) c
 .exact c.elim
def dC(d:ah):DE:=λenv R=>R (.fr d) env
def al:PE X (.Constant (.int i) j pos) (up K (dC (.int i))):=j9.imp λσ H Q h=>by
 obtain⟨M,P,H0,σ0,env,ts,R,a,b,hq⟩:=h;exact hq _ _ _ _ b (a.addFr (.int i))
def wS:PE X (.Constant (.bool i) j pos) (up K (dC (.bool i))):=Gs.imp λσ H Q h=>by
 obtain⟨M,P,H0,σ0,env,ts,R,a,b,hq⟩:=h;exact hq _ _ _ _ b (a.addFr (.bl i))
def gq:PE X (.Constant .none j pos) (up K (dC .none)):=Ec.imp λσ H Q h=>by
 obtain⟨M,P,H0,σ0,env,ts,R,a,b,hq⟩:=h;exact hq _ _ _ _ b (a.addFr .non)
abbrev G2:=ah->ah->(ah->Prop)->Prop
def dOp(g:G2)(ta tb:DE):DE:=λenv R=>ta env λs1 b=>tb b λs2 a=>∃d1 d2,aO a s1=some d1/\aO a s2=some d2/\g d1 d2 λd=>R (.fr d) a
def b8(K:cb)(r:R2)(g:G2):Prop:=∀(N:ao->Prop) (H:Hp) (x y:V) (d1 d2:ah) (R:ah->Prop) (Q:VK),Vw K N H x d1->Vw K N H y d2->g d1 d2 R->(∀d v,R d->DN K N H v d->Q v H)->r x y H Q
def xQ(m:b8 K r g):∀σ H Q,up K (dOp g ta tb) σ H Q->tOp r (up K ta) (up K tb) σ H Q:=λσ H Q h=>by
 obtain⟨M,P,H0,σ0,env,ts,R,i,k,hq⟩:=h;refine⟨M,P,H0,σ0,env,ts,_,i,k,λs1 c v1 H1 h1 e=>⟨M,P,H0,σ0,c,ts++[(v1,s1)],_,e,h1,λs2 f j H2 h2 a=>?_⟩⟩;obtain⟨d1,d2,e1,e2,g⟩:=h2;refine m _ H2 v1 j d1 d2 _ Q (a.view (!1) e1) (a.view (!1) e2) g λd v hR dn=>hq _ _ _ _ hR ?_;have b:Rel K M P H0 σ0 σ f (ts++[(v1,s1),(j,s2)]) H2:=by simpa using a
 exact b.res (be.refl _) (by simpa using dn)
def bX(ho:OpR X (Qt op) r)(m:b8 K r g)(c:PE X a (up K ta))(d:PE X b (up K tb)):PE X (.BinOp a op b pos) (up K (dOp g ta tb)):=(Bt ho c d).imp (xQ m)
def xF(ho:OpR X (k0 op) r)(m:b8 K r g)(c:PE X a (up K ta))(d:PE X b (up K tb))(e:QR op b=false):PE X (.Compare a [op] [b] pos) (up K (dOp g ta tb)):=(Bx ho c d e).imp (xQ m)
def pG(t:DE):DT:=λenv R=>t env λs a=>∃k,aO a s=some (.bool k)/\R k a
def tR{t:TE}{c:DE}(h:∀σ H Q,up K c σ H Q->t σ H Q):∀σ H Q,upT K (pG c) σ H Q->Dp t σ H Q:=λσ H Q f=>by
 obtain⟨M,P,H0,σ0,env,ts,R,b,g,hq⟩:=f;refine h σ H _ ⟨M,P,H0,σ0,env,ts,_,b,g,λs1 d v1 H1 h1 a=>?_⟩;obtain⟨k,e,hR⟩:=h1;exact⟨k,(a.view (!1) e).bool,hq _ _ _ hR a.drop⟩
def aF(ho:OpR X (k0 op) r)(m:b8 K r g)(c:PE X a (up K ta))(d:PE X b (up K tb))(e:QR op b=false):PT X (.Compare a [op] [b] pos) (upT K (pG (dOp g ta tb))):=(Bd ho c d e).imp (tR (xQ m))
def aN(c:IxR X r)(m:b8 K r g)(d:PE X a (up K ta))(e:PE X b (up K tb))(f:ie b):PE X (.Subscript a b pos) (up K (dOp g ta tb)):=(oR c d e f).imp (xQ m)
def mf(h:PE X e (up K t))(b:∀a,Zg e X.env a=(do let v <-a;QV e.pos;Qk [v] (ZO v)):=by intro _;rfl):PT X e (upT K (pG t)):=(D5 h b).imp (tR λ_ _ _ h=>h)
def Hk(t u:DT):DT:=λenv R=>t env λk a=>if k=true then u a R else R false a
def dOr(t u:DT):DT:=λenv R=>t env λk a=>if k=true then R true a else u a R
def FJ(t:DT):DT:=λenv R=>t env λk a=>R (!k) a
def kE(b:PT X a (upT K tA)):PW X (.BoolOp .And [a] pos) (upT K tA):=Bc b
def uF(b:PT X a (upT K tA)):PW X (.BoolOp .Or [a] pos) (upT K tA):=D3 b
def qK(f:PT X a (upT K tA))(g:PW X (.BoolOp .And (b::es) pos) (upT K tB')):PW X (.BoolOp .And (a::b::es) pos) (upT K (Hk tA tB')):=(D4 f g).imp λσ H Q h=>by
 obtain⟨M,P,H0,σ0,env,ts,R,e,i,hq⟩:=h;refine⟨M,P,H0,σ0,env,ts,_,e,i,λk d H1 h1 c=>?_⟩;cases k with
 | true=>exact⟨M,P,H0,σ0,d,ts,R,c,h1,hq⟩
 | false=>exact hq _ _ _ h1 c
def AZ(f:PT X a (upT K tA))(g:PW X (.BoolOp .Or (b::es) pos) (upT K tB')):PW X (.BoolOp .Or (a::b::es) pos) (upT K (dOr tA tB')):=(Gq f g).imp λσ H Q h=>by
 obtain⟨M,P,H0,σ0,env,ts,R,e,i,hq⟩:=h;refine⟨M,P,H0,σ0,env,ts,_,e,i,λk d H1 h1 c=>?_⟩;cases k with
 | false=>exact⟨M,P,H0,σ0,d,ts,R,c,h1,hq⟩
 | true=>exact hq _ _ _ h1 c
def j7(e:PT X a (upT K tA)):PT X (.UnaryOp .Not a pos) (upT K (FJ tA)):=(D6 e).imp λσ H Q h=>by
 obtain⟨M,P,H0,σ0,env,ts,R,c,f,hq⟩:=h;exact⟨M,P,H0,σ0,env,ts,_,c,f,λk d H1 h1 b=>hq _ _ _ h1 b⟩
def CV(t u:DE):DE:=λenv R=>t env λs a=>∃k,aO a s=some (.bool k)/\if k=true then u a R else R (.fr (.bool false)) a
def Gm(h:PE X a (up K ta)):PE X (.BoolOp op [a] pos) (up K ta):=Eb h
def Gp(g:PE X a (up K ta))(i:PE X (.BoolOp .And (b::es) pos) (up K tb)):PE X (.BoolOp .And (a::b::es) pos) (up K (CV ta tb)):=(Eg g i).imp λσ H Q h=>by
 obtain⟨M,P,H0,σ0,env,ts,R,f,j,hq⟩:=h;refine⟨M,P,H0,σ0,env,ts,_,f,j,λs1 d v1 H1 h1 c=>?_⟩;obtain⟨k,e,h1⟩:=h1;refine⟨k,(c.view (!1) e).bool,?_⟩;cases k with
 | true=>exact⟨M,P,H0,σ0,d,ts,R,c.drop,h1,hq⟩
 | false=>exact hq _ _ _ _ h1 (c.drop.addFr (.bl false))
def dIf(t:DT)(ta tb:DE):DE:=λenv R=>t env λk a=>if k=true then ta a R else tb a R
def oK(hc:PT X c (upT K tA))(g:PE X a (up K ta))(i:PE X b (up K tb)):PE X (.IfExp c a b pos) (up K (dIf tA ta tb)):=(xN hc g i).imp λσ H Q h=>by
 obtain⟨M,P,H0,σ0,env,ts,R,f,j,hq⟩:=h;refine⟨M,P,H0,σ0,env,ts,_,f,j,λk d H1 h1 e=>?_⟩;cases k with
 | true=>exact⟨M,P,H0,σ0,d,ts,R,e,h1,hq⟩
 | false=>exact⟨M,P,H0,σ0,d,ts,R,e,h1,hq⟩
def rV(g g':G2)(ta tb tc:DE):DE:=λenv R=>ta env λs1 c=>tb c λs2 a=>∃d1 d2,aO a s1=some d1/\aO a s2=some d2/\g d1 d2 λd=>∃k,d=.bool k /\
 if k=true then tc a λh b=>∃e f,aO b s2=some e/\aO b h=some f/\g' e f λd'=>R (.fr d') b else R (.fr (.bool false)) a
def y6(m:b8 K r g)(w:b8 K s g'):∀σ H Q,up K (rV g g' ta tb tc) σ H Q->zq r s (up K ta) (up K tb) (up K tc) σ H Q:=λσ H Q h=>by
 obtain⟨M,P,H0,σ0,env,ts,R,o,x,hq⟩:=h;refine⟨M,P,H0,σ0,env,ts,_,o,x,λs1 i v1 H1 h1 j=>⟨M,P,H0,σ0,i,ts++[(v1,s1)],_,j,h1,λs2 e l H2 h2 a=>?_⟩⟩;obtain⟨d1,d2,e1,e2,g⟩:=h2;have b:Rel K M P H0 σ0 σ e (ts++[(v1,s1),(l,s2)]) H2:=by simpa using a
 refine m _ H2 v1 l d1 d2 _ _ (a.view (!1) e1) (a.view (!1) e2) g λd v hR dn=>?_;obtain⟨k,rfl,hR⟩:=hR;cases dn;refine⟨k,rfl,?_⟩;cases k with
 | false=>exact hq _ _ _ _ hR (b.drop.addFr (.bl false))
 | true =>
  refine⟨M,P,H0,σ0,e,ts++[(v1,s1),(l,s2)],_,b,hR,λy n t u h3 c=>?_⟩;obtain⟨p,z,q,e3,g'⟩:=h3;refine w _ u l t p z _ Q (c.view (!1) q) (c.view (!1) e3) g' λd v hR dn=>hq _ _ _ _ hR ?_;have f:Rel K M P H0 σ0 σ n (ts++[(v1,s1),(l,s2),(t,y)]) u:=by simpa using c
  exact f.res (be.refl _) (by simpa using dn)
def Ba(ho:OpR X (k0 op) r)(m:b8 K r g)(e:OpR X (k0 d) f)(h:b8 K f g')(i:PE X a (up K ta))(j:PE X b (up K tb))(hc:PE X c (up K tc))
  (k:lastMarks [op,d] [b,c]=false:=by with_unfolding_all rfl):PE X (.Compare a [op,d] [b,c] pos) (up K (rV g g' ta tb tc)):=(xP ho e i j hc k).imp (y6 m h)
abbrev G1:=ah->(ah->Prop)->Prop
def dUn(g:G1)(ta:DE):DE:=λenv R=>ta env λs1 a=>∃d1,aO a s1=some d1/\g d1 λd=>R (.fr d) a
def zL(ho:UnR X (unaryOp op) r)(m:∀(N:ao->Prop) (H:Hp) (x:V) (d1:ah) (R:ah->Prop) (Q:VK),Vw K N H x d1->g d1 R->(∀d v,R d->DN K N H v d->Q v H)->r x H Q)
  (f:PE X a (up K ta)):PE X (.UnaryOp op a pos) (up K (dUn g ta)):=(D9 ho f).imp λσ H Q h=>by
 obtain⟨M,P,H0,σ0,env,ts,R,c,i,hq⟩:=h;refine⟨M,P,H0,σ0,env,ts,_,c,i,λs1 e v1 H1 h1 b=>?_⟩;obtain⟨d1,e1,g⟩:=h1;exact m _ H1 v1 d1 _ Q (b.view (!1) e1) g λd v hR dn=>hq _ _ _ _ hR (b.res (be.refl _) dn)
def FK:DA:=λenv R=>R [] env
def yY(t:DE)(u:DA):DA:=λenv R=>t env λs a=>u a λss b=>R (s::ss) b
def ac:PA X [] (upA K FK):=eK.imp λσ H Q h=>by
 obtain⟨M,P,H0,σ0,env,ts,R,a,b,hq⟩:=h;exact hq [] env [] H b rfl (by simpa using a)
def aa(g:PE X a (up K ta))(i:PA X es (upA K tl))(j:j1 (a::es) X.env=(false,eval a X.env)::j1 es X.env:=by rfl):PA X (a::es) (upA K (yY ta tl)):=(cj g i j).imp λσ H Q h=>by
 obtain⟨M,P,H0,σ0,env,ts,R,f,k,hq⟩:=h;refine⟨M,P,H0,σ0,env,ts,_,f,k,λs1 b v1 H1 h1 c=>⟨M,P,H0,σ0,b,ts++[(v1,s1)],_,c,h1,λss d vs H2 h2 l e=>?_⟩⟩;exact hq (s1::ss) d (v1::vs) H2 h2 (by simp[l]) (by simpa using e)
end
section
variable {K:cb}{M P N:ao->Prop}{H0 H:Hp}{σ0 σ:St}{env:List Sl}{ts tt:List (V×Sl)}{v:V}{s:Sl}{d:ah}
def gI(f:Int->Int->Int):G2:=λd e R=>∃i j,d=.int i/\e=.int j/\R (.int (f i j))
def gIC(C:Int->Int->Prop)(f:Int->Int->Int):G2:=λd e R=>∃i j,d=.int i/\e=.int j/\C i j/\R (.int (f i j))
def gB(f:Int->Int->Bool):G2:=λd e R=>∃i j,d=.int i/\e=.int j/\R (.bool (f i j))
def mI:b8 K (rI0 λi j=>.int (f i j)) (gI f):=by rintro N H x y d e R Q a b ⟨i,j,rfl,rfl,hR⟩ hq;exact⟨i,j,a.int,b.int,hq _ _ hR (.int _)⟩
def mIC:b8 K (rI C λi j=>.int (f i j)) (gIC C f):=by rintro N H x y d e R Q a b ⟨i,j,rfl,rfl,hC,hR⟩ hq;exact⟨i,j,a.int,b.int,hC,hq _ _ hR (.int _)⟩
def mB:b8 K (rI0 λi j=>.bl (f i j)) (gB f):=by rintro N H x y d e R Q a b ⟨i,j,rfl,rfl,hR⟩ hq;exact⟨i,j,a.int,b.int,hq _ _ hR (.bl _)⟩
def zX:b8 K rEq (gB λi j=>decide (i=j)):=by rintro N H x y d e R Q a b ⟨i,j,rfl,rfl,hR⟩ hq;rw[a.int,b.int];refine⟨rfl,?_⟩;have q:=hq _ _ hR (.bl _);rwa [show decide (V.int i=V.int j)=decide (i=j) by simp]
def Gx:b8 K rNe (gB λi j=>!decide (i=j)):=by rintro N H x y d e R Q a b ⟨i,j,rfl,rfl,hR⟩ hq;rw[a.int,b.int];refine⟨rfl,?_⟩;have q:=hq _ _ hR (.bl _);rwa [show decide (V.int i=V.int j)=decide (i=j) by simp]
def gBB(f:Bool->Bool->Bool):G2:=λd e R=>∃i j,d=.bool i/\e=.bool j/\R (.bool (f i j))
def GA:b8 K (λx y H Q=>∃b c,x=.bl b/\y=.bl c/\Q (.bl (b != c)) H) (gBB λi j=>i != j):=by rintro N H x y d e R Q a f ⟨i,j,rfl,rfl,hR⟩ hq;exact⟨i,j,a.bool,f.bool,hq _ _ hR (.bl _)⟩
def gEq:G2:=λd e R=>shp d/\shp e/\R (.bool (eA d e))
def gNe:G2:=λd e R=>shp d/\shp e/\R (.bool (!PyData.eqv d e))
def mEq:b8 K (Gh K) gEq:=λN H x y d e R Q a b ⟨h1,h2,hR⟩ hq=>⟨d,e,a.dv,b.dv,h1,h2,hq _ _ hR (.bl _)⟩
def mNe:b8 K (Gf K) gNe:=λN H x y d e R Q a b ⟨h1,h2,hR⟩ hq=>⟨d,e,a.dv,b.dv,h1,h2,hq _ _ hR (.bl _)⟩
def k4:ah->Bool
 | .none=>true
 | _=>false
def Vw.isNon(w:Vw K N H v d):decide (v=.non)=k4 d:=by
 cases w with
 | dn h =>
  cases h with
  | fz h=>obtain⟨a,xs,e,_⟩:=h.list;subst e;simp[k4]
  | _=>simp[k4]
 | ow h q=>simp[k4]
 | dct h q r e=>simp[k4]
 | idc h q e=>simp[k4]
def FE:G2:=λd e R=>e=.none/\R (.bool (k4 d))
def yK:G2:=λd e R=>e=.none/\R (.bool (!k4 d))
def GC:b8 K (λx y H Q=>y=.non/\Q (.bl (decide (x=.non))) H) FE:=by rintro N H x y d e R Q a b ⟨rfl,hR⟩ hq;exact⟨b.none,by rw[a.isNon];exact hq _ _ hR (.bl _)⟩
def ya:b8 K (λx y H Q=>y=.non/\Q (.bl (!decide (x=.non))) H) yK:=by rintro N H x y d e R Q a b ⟨rfl,hR⟩ hq;exact⟨b.none,by rw[a.isNon];exact hq _ _ hR (.bl _)⟩
def fQ:ah->Option (List ah)
 | .list ds=>some ds
 | .tuple ds=>some ds
 | _=>none
def ET:ah->Option Int
 | .int i=>some i
 | _=>none
def fi:List ah->Option (List Int)
 | []=>some []
 | d::ds=>(ET d).bind λi=>(fi ds).map (i::·)
theorem fH:∀a:List Int,fi (a.map .int)=some a
 | []=>rfl
 | n::a=>by rw[Jr,fi,fH a];rfl
theorem cC:∀{ds:List ah}{a:List Int},fi ds=some a->ds=a.map .int
 | [],a,h=>by cases h;rfl
 | d::ds,a,h=>by
  unfold fi at h;cases d <;> simp[ET] at h
  obtain⟨ms,h1,rfl⟩:=h;rw[cC h1];rfl
def Vw.seq(w:Vw K N H v d)(e:fQ d=some ds):∃a vs,v=.ref a/\(SqL K H a vs\/SqT K H a vs)/\DNs K N H vs ds:=by
 cases d <;> simp[fQ] at e
 .subst e;obtain⟨a,vs,e1,s,q⟩:=w.list;exact⟨a,vs,e1,.inl s,q⟩
 .subst e;obtain⟨a,vs,e1,s,q⟩:=w.tuple;exact⟨a,vs,e1,.inr s,q⟩
def rC(i:Int)(a:List Int):inV (.int i) (a.map V.int)=decide (i∈a):=by
 unfold inV
 induction a with
 | nil=>rfl
 | cons n r b =>
  rw[Jr,Kx,b];have:eqV (.int n) (.int i)=decide (n=i):=(show eqV (.int n) (.int i)=(n==i) from rfl).trans (by rw[La];simp);rw[this];by_cases h1:n=i
  .simp[h1]
  .have:¬i=n:=λz=>h1 z.symm;simp[h1,this]
def ng(a:List Int):(a.map V.int).all k8=true:=by rw[Kl];intro x hx;obtain⟨n,_,rfl⟩:=Jk.mp hx;rfl
def gIn:G2:=λd e R=>∃i ds a,d=.int i/\fQ e=some ds/\fi ds=some a/\R (.bool (decide (i∈a)))
def vJ:G2:=λd e R=>∃i ds a,d=.int i/\fQ e=some ds/\fi ds=some a/\R (.bool (!decide (i∈a)))
def mIn:b8 K (rIn K false) gIn:=by rintro N H x y d e R Q b c ⟨i,ds,f,rfl,e1,e2,hR⟩ hq;obtain⟨a,vs,rfl,s,q⟩:=c.seq e1;rw[cC e2] at q;rw[q.ints] at s;rw[b.int];refine⟨a,_,rfl,s,rfl,ng f,?_⟩;rw[rC];exact hq _ _ hR (.bl _)
def Er:b8 K (rIn K true) vJ:=by rintro N H x y d e R Q b c ⟨i,ds,f,rfl,e1,e2,hR⟩ hq;obtain⟨a,vs,rfl,s,q⟩:=c.seq e1;rw[cC e2] at q;rw[q.ints] at s;rw[b.int];refine⟨a,_,rfl,s,rfl,ng f,?_⟩;rw[rC];exact hq _ _ hR (.bl _)
def pB:G2:=λd e R=>∃ds,e=.list ds/\shp d/\shp e/\R (.bool (!ds.any λx=>eA x d))
def BM:b8 K (oI K) pB:=by rintro N H x y d e R Q a b ⟨ds,rfl,h1,h2,hR⟩ hq;exact⟨d,ds,a.dv,b.dv,h1,h2,hq _ _ hR (.bl _)⟩
theorem DNs.atI(q:DNs K N H vs ds)(h:_L.atI ds i=some e):∃v,_L.atI vs i=some v/\DN K N H v e:=by
 unfold _L.atI at h ⊢;rw[q.len];cases hj:ixN ds.length i with
 | none=>rw[hj] at h;cases h
 | some j =>
  rw[hj] at h;have h:ds[j]? = some e:=h;have a:j<vs.length:=by rw[q.len];exact(Js.mp h).1
  obtain⟨b,h1,h2⟩:=q.get (Ji a);rw[h] at h1;cases h1;exact⟨vs[j],Ji a,h2⟩
def gIx:G2:=λd e R=>∃ds i x,fQ d=some ds/\e=.int i/\atI ds i=some x/\R x
def C4(K:cb):R2:=λx y H Q=>HG K x y H Q\/HF K x y H Q
def ai(hK:X.K=K):IxR X (C4 K):=by subst hK;exact IxR.or B6 EO
def mIx:b8 K (C4 K) gIx:=by
 rintro N H x y d e R Q c b ⟨ds,i,z,e1,rfl,e2,hR⟩ hq;obtain⟨a,vs,rfl,s,q⟩:=c.seq e1;obtain⟨u,e3,dn⟩:=q.atI e2;rcases s with s|s
 .exact .inl ⟨a,vs,i,u,rfl,b.int,s,e3,hq _ _ hR dn⟩
 .exact .inr ⟨a,vs,i,u,rfl,b.int,s,e3,hq _ _ hR dn⟩
inductive Vws (K:cb) (N:ao->Prop) (H:Hp):List V->List ah->Prop
 | nil:Vws K N H [] []
 | cons {v d vs ds}:Vw K N H v d->Vws K N H vs ds->Vws K N H (v::vs) (d::ds)
def gb(env:List Sl):List Sl->Option (List ah)
 | []=>some []
 | s::ss=>(aO env s).bind λd=>(gb env ss).bind λds=>some (d::ds)
theorem Rel.views(h:Rel K M P H0 σ0 σ env ts H):∀{vs:List V}{ss:List Sl}{ds:List ah},vs.length=ss.length->(∀p∈vs.zip ss,p∈ts)->gb env ss=some ds->Vws K (Nw M (aG σ env ts)) H vs ds
 | [],[],_,_,_,e=>by cases e;exact .nil
 | v :: vs,s::ss,ds,a,b,e=>by
  unfold gb at e;cases e1:aO env s with
  | none=>rw[e1] at e;cases e
  | some d =>
   rw[e1] at e;cases e2:gb env ss with
   | none=>rw[e2] at e;cases e
   | some ds' =>
    rw[e2] at e;cases e;exact .cons (h.view (b _ (!1)) e1) (h.views (by simpa using a) (λp c=>b p (by simp[c])) e2)
 | [],_::_,_,a,_,_=>by simp at a
 | _::_,[],_,a,_,_=>by simp at a
abbrev GB:=List ah->(ah->Prop)->Prop
def dCB(g:GB)(t:DA):DE:=λenv R=>t env λss a=>∃ds,gb a ss=some ds/\g ds λd=>R (.fr d) a
def gG(K:cb)(r:List V->Hp->VK->Prop)(g:GB):Prop:=∀(N:ao->Prop) (H:Hp) (xs:List V) (ds:List ah) (R:ah->Prop) (Q:VK),Vws K N H xs ds->g ds R->(∀d v,R d->DN K N H v d->Q v H)->r xs H Q
def Hm(m:gG K r g):∀σ H Q,up K (dCB g tl) σ H Q->tCB r (upA K tl) σ H Q:=λσ H Q h=>by
 obtain⟨M,P,H0,σ0,env,ts,R,b,f,hq⟩:=h;refine⟨M,P,H0,σ0,env,ts,_,b,f,λss c vs H1 h1 i a=>?_⟩;obtain⟨ds,e,g⟩:=h1;exact m _ H1 vs ds _ Q (a.views i (λp j=>Jg _ j) e) g λd v hR dn=>hq _ _ _ _ hR (a.res (be.refl _) dn)
section
variable {X:Cx}{x:bt}{p pos:Pos}{e:bb}{es:List bb}{tl:DA}{id:String}{r:List V->Hp->VK->Prop}{g:GB}
def d8(hc:eJ X (.builtin id) r)(m:gG K r g)(hg:Gl X x)(c:X.mg x=none)(hv:QJ x=some (.builtin id))(d:PA X (e::es) (upA K tl))(hn:x ≠ "__name__" := by decide)(a:(x==("__debug__" : bt))=false:=by decide)
  (f:j1 (e::es) X.env=(false,eval e X.env)::j1 es X.env:=by rfl) (b:(k6 pos (j1 es X.env)).any (·.1)=false:=by rfl):PE X (.Call (.Name x p) (e::es) [] pos) (up K (dCB g tl)) :=
 (kJ hc hg c hv d hn a f b).imp (Hm m)
end
def FB:GB:=λds R=>∃d es,ds=[d]/\fQ d=some es/\R (.int es.length)
def iw:gG K (λxs H Q=>∃p ys,xs=[.ref p]/\(SqL K H p ys\/SqT K H p ys)/\Q (.int ys.length) H) FB:=by
 rintro N H xs ds R Q w ⟨d,es,rfl,e1,hR⟩ hq;cases w with
 | cons b c =>
  cases c;obtain⟨a,vs,rfl,s,q⟩:=b.seq e1;refine⟨a,vs,rfl,s,?_⟩;rw[q.len];exact hq _ _ hR (.int _)
def GQ:GB:=λds R=>∃i j,ds=[.int i,.int j]/\R (.int (if j<i then j else i))
def IH:gG K (λxs H Q=>∃i j,xs=[.int i,.int j]/\Q (.int (if j<i then j else i)) H) GQ:=by
 rintro N H xs ds R Q w ⟨i,j,rfl,hR⟩ hq;cases w with
 | cons b a =>
  cases a with
  | cons a c =>
   cases c;exact⟨i,j,by rw[b.int,a.int],hq _ _ hR (.int _)⟩
def Am:ah->Option Bool
 | .bool i=>some i
 | _=>none
def f7:List ah->Option (List Bool)
 | []=>some []
 | d::ds=>(Am d).bind λi=>(f7 ds).map (i::·)
theorem f6:∀a:List Bool,f7 (a.map .bool)=some a
 | []=>rfl
 | n::a=>by rw[Jr,f7,f6 a];rfl
theorem fm:∀{ds:List ah}{a:List Bool},f7 ds=some a->ds=a.map .bool
 | [],a,h=>by cases h;rfl
 | d::ds,a,h=>by
  unfold f7 at h;cases d <;> simp[Am] at h
  obtain⟨ms,h1,rfl⟩:=h;rw[fm h1];rfl
theorem DNs.bools:∀{a:List Bool}{v:List V},DNs K N H v (a.map .bool)->v=a.map V.bl
 | [],_,.nil=>rfl
 | n::r,_,.cons h q=>by
  cases h;rw[q.bools];rfl
def GX:GB:=λds R=>∃es bs,ds=[.list es]/\f7 es=some bs/\R (.bool (bs.all id))
def GW:GB:=λds R=>∃es bs,ds=[.list es]/\f7 es=some bs/\R (.bool (bs.any id))
def Fw:gG K (λxs H Q=>∃(a:ao) (bs:List Bool),xs=[.ref a]/\SqL K H a (bs.map V.bl)/\Q (.bl (bs.all id)) H) GX:=by
 rintro N H xs ds R Q w ⟨es,bs,rfl,e1,hR⟩ hq;cases w with
 | cons b c =>
  cases c;obtain⟨a,vs,rfl,s,q⟩:=b.list;rw[fm e1] at q;rw[q.bools] at s;exact⟨a,bs,rfl,s,hq _ _ hR (.bl _)⟩
def IK:gG K (λxs H Q=>∃(a:ao) (bs:List Bool),xs=[.ref a]/\SqL K H a (bs.map V.bl)/\Q (.bl (bs.any id)) H) GW:=by
 rintro N H xs ds R Q w ⟨es,bs,rfl,e1,hR⟩ hq;cases w with
 | cons b c =>
  cases c;obtain⟨a,vs,rfl,s,q⟩:=b.list;rw[fm e1] at q;rw[q.bools] at s;exact⟨a,bs,rfl,s,hq _ _ hR (.bl _)⟩
def bw(env:List Sl):List Sl->Option (List ah)
 | []=>some []
 | s::ss=>(aL env s).bind λd=>(bw env ss).bind λds=>some (d::ds)
def Rel.kept(h:Rel K M P H0 σ0 σ env (ts++tt) H)(m:(v,s)∈tt)(e:aL env s=some d):DN K (Nw M (aG σ env ts)) H v d:=by
 have hE:=h.e;rw[aC] at hE;have sub:∀b,Nw M (aG σ env ts) b->Nw M (aG σ env ts++tmp tt) b:=λb z=>fg z;have c:((some v,s):Ent)∈aG σ env ts++tmp tt:=Jg _ (Jk.mpr ⟨(v,s),m,rfl⟩);cases s with
 | fr d' =>
  cases e;obtain⟨v',e1,dn⟩:=hE.fr _ _ c;cases e1;exact dn.to λb _ _ z=>sub b z
 | ow ds =>
  cases e;obtain⟨a,vs,e1,e2,dn,f⟩:=hE.ow _ _ c;cases e1;refine .lst (SnL.of e2 ?_) (dn.to λb _ _ z=>sub b z);rintro(z|z)
  .exact hE.mt a z f
  .have nd:=hE.nd;rw[am] at nd;exact(Ju.mp nd).2.2 a z a (bh.mpr ⟨_,Jk.mpr ⟨_,m,rfl⟩,Jf.mpr rfl⟩) rfl
 | tr S d' =>
  cases e;obtain⟨v',e1,ot,f⟩:=hE.tr _ _ _ c;cases e1;refine ot.dn sub λa g=>?_;rintro(z|z)
  .exact hE.mt a z (f a g)
  .have nd:=hE.nd;rw[am] at nd;exact(Ju.mp nd).2.2 a z a (bh.mpr ⟨_,Jk.mpr ⟨_,m,rfl⟩,by rw[aS];exact g⟩) rfl
 | vw i =>
  have e:(env[i]?).bind slK=some d:=e;cases q:env[i]? with
  | none=>rw[q] at e;cases e
  | some s' =>
   rw[q] at e;cases s' with
   | fr d' =>
    cases e;obtain⟨x,e1,m1⟩:=h.slot q;rw[aC] at m1;obtain⟨v',e2,dn⟩:=hE.fr _ _ m1;have e3:=h.vw v i (Jg _ m);rw[e1,e2] at e3;cases e3;exact dn.to λb _ _ z=>sub b z
   | _=>cases e
 | _=>cases e
theorem Rel.keptAll(h:Rel K M P H0 σ0 σ env (ts++tt) H):∀{vs:List V}{ss:List Sl}{ds:List ah},vs.length=ss.length->(∀p∈vs.zip ss,p∈tt)->bw env ss=some ds->DNs K (Nw M (aG σ env ts)) H vs ds
 | [],[],_,_,_,e=>by cases e;exact .nil
 | v :: vs,s::ss,ds,a,b,e=>by
  unfold bw at e;cases e1:aL env s with
  | none=>rw[e1] at e;cases e
  | some d =>
   rw[e1] at e;cases e2:bw env ss with
   | none=>rw[e2] at e;cases e
   | some ds' =>
    rw[e2] at e;cases e;exact .cons (h.kept (b _ (!1)) e1) (h.keptAll (by simpa using a) (λp c=>b p (by simp[c])) e2)
 | [],_::_,_,a,_,_=>by simp at a
 | _::_,[],_,a,_,_=>by simp at a
def Rel.newAddr(h:Rel K M P H0 σ0 σ env ts H)(a:H p=none):¬Nw M (aG σ env ts) p:=by
 rintro(z|z)
 .exact h.e.live p (h.e.mt p z) a
 .obtain⟨vs,q,_⟩:=h.e.own z;rw[a] at q;cases q
def Rel.resTup(h:Rel K M P H0 σ0 σ env (ts++tt) H)(a:H p=none)(b:DNs K (Nw M (aG σ env ts)) H vs ds):Rel K M P H0 σ0 σ env (ts++[(.ref p,.fr (.tuple ds))]) (upd H p (.tup vs)) :=
 (h.drop.same (be.new a)).addFr (.tup (SnT.of aB (h.drop.newAddr a)) (b.keep (aX.same (be.new a))))
section
variable {X:Cx}{p pos:Pos}{e:bb}{es:List bb}{tl:DA}
def C7(t:DA):DE:=λenv R=>t env λss a=>∃ds,bw a ss=some ds/\ss.length<=sizeLine/\R (.fr (.tuple ds)) a
def FL(t:DA):DE:=λenv R=>t env λss a=>∃ds,bw a ss=some ds/\ss.length<=sizeLine/\R (.ow ds) a
def cQ(h:PA X es (upA K tl)):PE X (.Tuple es x1 pos) (up K (C7 tl)):=(Ea h).imp λσ H Q h=>by
 obtain⟨M,P,H0,σ0,env,ts,R,b,f,hq⟩:=h;refine⟨M,P,H0,σ0,env,ts,_,b,f,λss d vs H1 h1 g a=>?_⟩;obtain⟨ds,e,hz,hR⟩:=h1;exact⟨!0,λp c=>hq _ _ _ _ hR (a.resTup c (a.keptAll g (λp c=>c) e))⟩
def b7(h:PA X es (upA K tl)):PE X (.List es pos) (up K (FL tl)):=(uX h).imp λσ H Q h=>by
 obtain⟨M,P,H0,σ0,env,ts,R,b,f,hq⟩:=h;refine⟨M,P,H0,σ0,env,ts,_,b,f,λss d vs H1 h1 g a=>?_⟩;obtain⟨ds,e,hz,hR⟩:=h1;exact⟨!0,λp c=>hq _ _ _ _ hR (a.drop.addOw c (a.keptAll g (λp c=>c) e))⟩
end
end
def DJ(K:cb):R2:=λx y H Q=>∃l b xs a,x=.ref l/\y=.ref b/\SqL K H l xs/\SqL K H b a/\xs.length+a.length<=sizeLine/\∀p,H p=none->Q (.ref p) (upd H p (.lst (xs++a)))
def eB{X:Cx}{K:cb}(hK:X.K=K):OpR X (Qt .Add) (DJ K):=by
 subst hK;intro pins s σ H x y v u Q I k m h;obtain⟨l,b,xs,A,rfl,rfl,o,hB,hz,q⟩:=h;cases k;cases m;obtain⟨its,r,⟨⟨cls,dd,data,sl⟩,n,ho,hc,_,hd⟩,z⟩:=I.list o;obtain⟨a,i,⟨⟨j,f,data2,g⟩,p,c,d,_,e⟩,z2⟩:=I.list hB;simp only at hc hd d e;subst hc hd d e;have B:=r.length;have t:=i.length;refine Zu ⟨_,ho,rfl⟩ ⟨_,c,rfl⟩ noFill_list_add seq_list_add PySem.F.slot_list_add PySem.F.entry_list_add (PySem.F.args_list_add_2 _ _) (list_addW l b its.toArray a.toArray n p dd f sl g (by rw[Jw,Jw];omega)) ⟨ho,c,?_⟩;have w:its.toArray++a.toArray=(its++a).toArray:=!1
 rw[w];exact⟨.ref _,_,I.lnew (t':=s.toks) (r.append i) (by rw[Jz];omega),rfl,q _ I.fresh⟩
section
variable {K:cb}{M P N:ao->Prop}{H0 H H':Hp}{σ0 σ:St}{env:List Sl}{ts:List (V×Sl)}{v:V}{s:Sl}{d:ah}
variable {X:Cx}{x:bt}{p pos:Pos}{a b e:bb}{es:List bb}{ta tb:DE}{tl:DA}
def Ff(g:ah->ah->(List ah->Prop)->Prop)(ta tb:DE):DE:=λenv R=>ta env λs1 b=>tb b λs2 a=>∃d1 d2,aO a s1=some d1/\aO a s2=some d2/\g d1 d2 λds=>R (.ow ds) a
def wK(K:cb)(r:R2)(g:ah->ah->(List ah->Prop)->Prop):Prop:=∀(N:ao->Prop) (H:Hp) (x y:V) (d1 d2:ah) (R:List ah->Prop) (Q:VK),Vw K N H x d1->Vw K N H y d2->g d1 d2 R ->
 (∀ds vs p,R ds->DNs K N H vs ds->H p=none->Q (.ref p) (upd H p (.lst vs)))->r x y H Q
def En(m:wK K r g):∀σ H Q,up K (Ff g ta tb) σ H Q->tOp r (up K ta) (up K tb) σ H Q:=λσ H Q h=>by
 obtain⟨M,P,H0,σ0,env,ts,R,f,k,hq⟩:=h;refine⟨M,P,H0,σ0,env,ts,_,f,k,λs1 c v1 H1 h1 d=>⟨M,P,H0,σ0,c,ts++[(v1,s1)],_,d,h1,λs2 e j H2 h2 a=>?_⟩⟩;obtain⟨d1,d2,e1,e2,g⟩:=h2;refine m _ H2 v1 j d1 d2 _ Q (a.view (!1) e1) (a.view (!1) e2) g λds vs p hR i l=>hq _ _ _ _ hR ?_;have b:Rel K M P H0 σ0 σ e (ts++[(v1,s1),(j,s2)]) H2:=by simpa using a
 exact b.resOw l (by simpa using i)
def kF(ho:OpR X (Qt op) r)(m:wK K r g)(c:PE X a (up K ta))(d:PE X b (up K tb)):PE X (.BinOp a op b pos) (up K (Ff g ta tb)):=(Bt ho c d).imp (En m)
def FF:ah->ah->(List ah->Prop)->Prop:=λd e R=>∃xs ys,d=.list xs/\e=.list ys/\xs.length+ys.length<=sizeLine/\R (xs++ys)
def yc:wK K (DJ K) FF:=by rintro N H x y d e R Q a b ⟨xs,ys,rfl,rfl,hz,hR⟩ hq;obtain⟨a1,v1,rfl,s1,q1⟩:=a.list;obtain⟨a2,c,rfl,s2,q2⟩:=b.list;exact⟨a1,a2,v1,c,rfl,rfl,s1,s2,by rw[q1.len,q2.len];exact hz,λp f=>hq _ _ p hR (q1.app q2) f⟩
def yZ(ta tb:DE):DE:=λenv R=>ta env λs1 b=>tb b λs2 a=>∃xs ys,aO a s1=some (.tuple xs)/\aO a s2=some (.tuple ys)/\xs.length+ys.length<=sizeLine/\R (.fr (.tuple (xs++ys))) a
def uM(hK:X.K=K)(m:PE X a (up K ta))(n:PE X b (up K tb)):PE X (.BinOp a .Add b pos) (up K (yZ ta tb)):=(Bt (GK (K:=K) hK) m n).imp λσ H Q h=>by
 obtain⟨M,P,H0,σ0,env,ts,R,j,o,hq⟩:=h;refine⟨M,P,H0,σ0,env,ts,_,j,o,λs1 e v1 H1 h1 f=>⟨M,P,H0,σ0,e,ts++[(v1,s1)],_,f,h1,λs2 g i H2 h2 d=>?_⟩⟩;obtain⟨xs,ys,e1,e2,hz,hR⟩:=h2;have k:=d.view (v:=v1) (!1) e1;have l:=d.view (v:=i) (!1) e2;have c:Rel K M P H0 σ0 σ g (ts++[(v1,s1),(i,s2)]) H2:=by simpa using d
 have q:ts++[(v1,s1)]++[(i,s2)]=ts++[(v1,s1),(i,s2)]:=!1
 rw[q] at k l;obtain⟨a1,r,rfl,t1,q1⟩:=k.tuple;obtain⟨a2,s,rfl,t2,q2⟩:=l.tuple;refine⟨a1,a2,r,s,rfl,rfl,t1,t2,by rw[q1.len,q2.len];exact hz,λz=>?_,λ_ z=>?_,λ_ _ p t=>?_⟩
 .subst z;have:xs=[]:=by
   have:=q1.len;exact xn this.symm
  subst this;cases l with
  | dn dn=>exact hq _ _ _ _ hR (c.res (be.refl _) dn)
 .subst z;have:ys=[]:=by
   have:=q2.len;exact xn this.symm
  subst this;rw[JM] at hR;cases k with
  | dn dn=>exact hq _ _ _ _ hR (c.res (be.refl _) dn)
 .exact hq _ _ _ _ hR (c.resTup t ((q1.app q2).to λb _ _ z=>by rw[aC];exact fg z))
abbrev DO:=List Sl->(Option Int->List Sl->Prop)->Prop
inductive upO (K:cb) (t:DO) (σ:St) (H:Hp) (Q:Option Int->Hp->Prop):Prop
 | mk (M P:ao->Prop) (H0:Hp) (σ0:St) (env:List Sl) (ts:List (V×Sl)) (R:Option Int->List Sl->Prop):Rel K M P H0 σ0 σ env ts H->t env R ->
 (∀o env' H',R o env'->Rel K M P H0 σ0 σ env' ts H'->Q o H')->upO K t σ H Q
def PO.imp{e:Option bb}{t t':TO}(h:PO X e t)(k:∀σ H Q,t' σ H Q->t σ H Q):PO X e t':=λpins s σ H Q I hw=>h pins s σ H Q I (k σ H Q hw)
def lq:DO:=λenv R=>R none env
def yV(t:DE):DO:=λenv R=>t env λs a=>∃i,aO a s=some (.int i)/\R (some i) a
def fS:PO X none (upO K lq):=Bj.imp λσ H Q h=>by
 obtain⟨M,P,H0,σ0,env,ts,R,a,b,hq⟩:=h;exact hq _ _ _ b a
def fR(h:PE X e (up K ta)):PO X (some e) (upO K (yV ta)):=(Bi h).imp λσ H Q h=>by
 obtain⟨M,P,H0,σ0,env,ts,R,b,d,hq⟩:=h;refine⟨M,P,H0,σ0,env,ts,_,b,d,λs1 c v1 H1 h1 a=>?_⟩;obtain⟨i,e1,hR⟩:=h1;exact⟨i,(a.view (!1) e1).int,hq _ _ _ hR a.drop⟩
def tq{α:Type}(xs:List α)(lo hi:Option Int):List α:=(xs.drop (HT.sIx xs.length 0 lo)).take (HT.sIx xs.length xs.length hi - HT.sIx xs.length 0 lo)
theorem DNs.drop:∀{vs:List V}{ds:List ah} (n:Nat),DNs K N H vs ds->DNs K N H (vs.drop n) (ds.drop n)
 | _,_,0,q=>q
 | _,_,_+1,.nil=>.nil
 | _,_,n+1,.cons _ q=>q.drop n
theorem DNs.take:∀{vs:List V}{ds:List ah} (n:Nat),DNs K N H vs ds->DNs K N H (vs.take n) (ds.take n)
 | _,_,0,_=>.nil
 | _,_,_+1,.nil=>.nil
 | _,_,n+1,.cons h q=>.cons h (q.take n)
def DNs.cut(q:DNs K N H vs ds)(lo hi:Option Int):DNs K N H (C8 vs lo hi) (tq ds lo hi):=by unfold C8 tq;rw[q.len];exact(q.drop _).take _
def FH(te:DE)(tl th:DO):DE:=λenv R=>te env λs b=>tl b λl c=>th c λh a=>∃ds,aO a s=some (.list ds)/\R (.ow (tq ds l h)) a
variable {lo hi:Option bb}{tlo thi:DO}{p2:Pos}
def oJ(hK:X.K=K)(k:PE X e (up K ta))(m:PO X lo (upO K tlo))(n:PO X hi (upO K thi)):PE X (.Subscript e (.Slice lo hi none p2) pos) (up K (FH ta tlo thi)):=(xL (IP (K:=K) hK) k m n).imp λσ H Q h=>by
 obtain⟨M,P,H0,σ0,env,ts,R,i,o,hq⟩:=h;refine⟨M,P,H0,σ0,env,ts,_,i,o,λs1 c v1 H1 h1 d=>⟨M,P,H0,σ0,c,ts++[(v1,s1)],_,d,h1,λl f H2 h2 g=>⟨M,P,H0,σ0,f,ts++[(v1,s1)],_,g,h2,λu j s h3 b=>?_⟩⟩⟩;obtain⟨ds,e1,hR⟩:=h3;obtain⟨a,vs,rfl,sq,q⟩:=(b.view (v:=v1) (!1) e1).list;exact⟨a,vs,rfl,sq,λp r=>hq _ _ _ _ hR (b.resOw r (q.cut l u))⟩
def pH(t:DA):DE:=λenv R=>t env λss a=>∃s d ds,ss=[s]/\aO a s=some d/\fQ d=some ds/\R (.ow ds) a
def qM(hK:X.K=K)(hg:Gl X "list")(i:X.mg "list" = none)(j:PA X [e] (upA K tl))(k:j1 [e] X.env=[(false,eval e X.env)]:=by rfl):PE X (.Call (.Name "list" p) [e] [] pos) (up K (pH tl)) :=
 (mn (GG (K:=K) hK) hg i vb j (!2) (!2) k rfl).imp λσ H Q h=>by
 obtain⟨M,P,H0,σ0,env,ts,R,c,m,hq⟩:=h;refine⟨M,P,H0,σ0,env,ts,_,c,m,λss g vs H1 h1 n b=>?_⟩;obtain⟨s,d,ds,rfl,e1,e2,hR⟩:=h1;obtain⟨v,rfl⟩:=mP n;obtain⟨a,us,rfl,sq,q⟩:=(b.view (v:=v) (!1) e1).seq e2;exact⟨a,us,rfl,sq,λl f=>hq _ _ _ _ hR (b.resOw f q)⟩
def vX(t:DA):DE:=λenv R=>t env λss a=>∃s d ds,ss=[s]/\aO a s=some d/\fQ d=some ds/\R (.fr (.tuple ds)) a
def uJ(hK:X.K=K)(hg:Gl X "tuple")(j:X.mg "tuple" = none)(k:PA X [e] (upA K tl))(m:j1 [e] X.env=[(false,eval e X.env)]:=by rfl):PE X (.Call (.Name "tuple" p) [e] [] pos) (up K (vX tl)) :=
 (mn (EK (K:=K) hK) hg j PyProof.Rows.boot_tuple k (!2) (!2) m rfl).imp λσ H Q h=>by
 obtain⟨M,P,H0,σ0,env,ts,R,f,n,hq⟩:=h;refine⟨M,P,H0,σ0,env,ts,_,f,n,λss i vs H1 h1 o c=>?_⟩;obtain⟨s,d,ds,rfl,e1,e2,hR⟩:=h1;obtain⟨v,rfl⟩:=mP o;have w:=c.view (v:=v) (!1) e1;cases d <;> simp[fQ] at e2
 .subst e2;obtain⟨a,us,rfl,sq,q⟩:=w.list;exact⟨a,us,rfl,.inl ⟨sq,λl g=>hq _ _ _ _ hR (c.resTup g (q.to λb _ _ z=>by rw[aC];exact fg z))⟩⟩
 .subst e2;obtain⟨a,us,rfl,sq,q⟩:=w.tuple;refine⟨a,us,rfl,.inr ⟨sq,hq _ _ _ _ hR ?_⟩⟩;cases w with
  | dn dn=>exact c.res (be.refl _) dn
def cN:Sl->List ah->Option Sl
 | .ow _,ds=>some (.ow ds)
 | .io _,ds=>some (.io ds)
 | _,_=>none
def gQ:Sl->Option (List ah)
 | .ow ds=>some ds
 | .io ds=>some ds
 | _=>none
def jZ(h:cN s l=some s'):B7 s l s'/\gQ s'=some l:=by
 cases s with
 | ow _=>cases h;exact⟨rfl,rfl⟩
 | io _=>cases h;exact⟨rfl,rfl⟩
 | _=>cases h
def ur{s:Sl}{l d:List ah}(h:cN s l=some (.io d)):∃a,s=.io a:=by
 cases s with
 | io a=>exact⟨a,rfl⟩
 | _=>cases h
def qS(h:gQ s=some l):cN s l=some s/\∀a,a∈cK (some (.ref a),s):=by
 cases s with
 | ow _=>cases h;exact⟨rfl,λa=>Jf.mpr rfl⟩
 | io _=>cases h;exact⟨rfl,λa=>Jf.mpr rfl⟩
 | _=>cases h
theorem Rel.mut{i:Nat}{s s':Sl}{ds ds':List ah}(h:Rel K M P H0 σ0 σ env ts H)(e:env[i]? = some s)(es:cN s ds'=some s'){a:ao}(g:σ[i]? = some (some (.ref a))){vs':List V}(b:DNs K (Nw M (aG σ env ts)) H vs' ds') :
  Rel K M P H0 σ0 σ (env.set i s') ts (upd H a (.lst vs')):=by
 obtain⟨x,A,B,e1,q1,q2⟩:=h.split e;rw[g] at e1;cases e1;have r:=h.e;rw[q1] at r b;refine⟨by rw[q2];exact r.mut (jZ es).1 b,by simp[h.len],h.vw,λj c d=>?_⟩;by_cases hj:i=j
 .subst hj;have hi:i<env.length:=(Js.mp e).1;rw[JK hi] at d;cases d;obtain⟨f,rfl⟩:=ur es;exact h.ios i f e
 .rw[JJ hj] at d;exact h.ios j c d
def Rel.mine{i:Nat}{s:Sl}{ds:List ah}(h:Rel K M P H0 σ0 σ env ts H)(e:env[i]? = some s)(b:gQ s=some ds):∃a vs,σ[i]? = some (some (.ref a))/\H a=some (.lst vs)/\DNs K (Nw M (aG σ env ts)) H vs ds:=by
 obtain⟨x,e1,m⟩:=h.slot e;cases s with
 | ow d =>
  cases b;obtain⟨a,vs,z,q1,q2,_⟩:=h.e.ow _ _ m;subst z;exact⟨a,vs,e1,q1,q2⟩
 | io d =>
  cases b;obtain⟨a,vs,z,q1,q2,_⟩:=h.e.io _ _ m;subst z;exact⟨a,vs,e1,q1,q2⟩
 | _=>cases b
def FO(i:Nat)(te:DE):DE:=λenv R=>(∃ds,(env[i]?).bind gQ=some ds)/\te env λs a=>∃d b ds s',aL a s=some d/\a[i]? = some b/\gQ b=some ds/\ds.length<sizeLine/\cN b (ds++[d])=some s'/\R (.fr .none) (a.set i s')
def lF{i:Nat}{ds:List ah}(h:(env[i]?).bind gQ=some ds):∃s,env[i]? = some s/\gQ s=some ds:=by
 cases e:env[i]? with
 | none=>rw[e] at h;cases h
 | some s=>rw[e] at h;exact⟨s,rfl,h⟩
def gr(i:Nat){apos cpos npos:Pos}(hK:X.K=K)(hN:X.N[i]? = some y)(u:PE X e (up K ta))
  (hv:Vis X.env.scope y:=by first|exact lA rfl|exact di ci|exact di (di rfl)) (hd:(y==("__debug__" : bt))=false:=by decide)
  (o:(y==("__classdict__" : bt))=false:=by decide)
  (j:j1 [e] X.env=[(false,eval e X.env)]:=by rfl)
  (f:qb (.Name y npos) "append" X.env (eval (.Name y npos) X.env)=eval (.Name y npos) X.env:=by rfl)
  (l:((k6 cpos (j1 [e] X.env)).all (λx=>!x.1)&&(Qy cpos (Qi [] X.env)).all (λx=>x.1.isSome)&&decide ([e].length+([]:List Qd).length+(if ([]:List Qd).isEmpty then 0 else 1)<30))=true:=by rfl)
  (g:(apos.endLine==cpos.line)=true:=by rfl) (c:(k6 cpos (j1 [] X.env)).any (·.1)=false:=by rfl) :
  PE X (.Call (.Attribute (.Name y npos) "append" apos) [e] [] cpos) (up K (FO i ta)) :=
 (kBm (K:=K) hK ei nT nN jy (bG hN hv hd o) (cj u eK j) f l g j c).imp λσ H Q h=>by
 obtain⟨M,P,H0,σ0,env,ts,R,m,⟨⟨w,z⟩,A⟩,hq⟩:=h;obtain⟨G,B,C⟩:=lF z;obtain⟨a,vs,p,D,_⟩:=m.mine B C;refine⟨.ref a,p,.inl ⟨rfl,vs,SqL.of D⟩,M,P,H0,σ0,env,ts,_,m,A,λs1 t v1 H1 h1 b=>?_⟩;obtain⟨d,s2,ds,s',k,e2,E,hz,es,hR⟩:=h1;obtain⟨I,us,n,r,q⟩:=b.drop.mine e2 E;rw[p] at n;cases n;refine⟨a,us,v1,rfl,rfl,r,by rw[q.len];exact hz,?_⟩;have dn:=b.kept (v:=v1) (s:=s1) (!1) k;exact hq _ _ _ _ hR ((b.drop.mut (ds:=ds) e2 es p (q.app (.cons dn .nil))).addFr .non)
def FI(i:Nat):DE:=λenv R=>∃a ds d s',env[i]? = some a/\gQ a=some ds/\ds.getLast? = some d/\cN a ds.dropLast=some s'/\R (.fr d) (env.set i s')
theorem DNs.dropLast:∀{vs:List V}{ds:List ah},DNs K N H vs ds->DNs K N H vs.dropLast ds.dropLast:=λ{vs ds} q=>by
 rw[ro,ro,q.len];exact q.take _
def sH(i:Nat){apos cpos npos:Pos}(hK:X.K=K)(hN:X.N[i]? = some y)
  (hv:Vis X.env.scope y:=by first|exact lA rfl|exact di ci|exact di (di rfl)) (hd:(y==("__debug__" : bt))=false:=by decide)
  (j:(y==("__classdict__" : bt))=false:=by decide)
  (b:qb (.Name y npos) "pop" X.env (eval (.Name y npos) X.env)=eval (.Name y npos) X.env:=by rfl) (c:(apos.endLine==cpos.line)=true:=by rfl) :
  PE X (.Call (.Attribute (.Name y npos) "pop" apos) [] [] cpos) (up K (FI i)) :=
 (GL (K:=K) hK ei nf m5 zU (bG hN hv hd j) b c).imp λσ H Q h=>by
 obtain⟨M,P,H0,σ0,env,ts,R,e,⟨s,ds,d,s',l,p,k,es,hR⟩,hq⟩:=h;obtain⟨a,vs,n,o,q⟩:=e.mine l p;have hn:ds.length - 1<ds.length:=by
  cases ds with
  | nil=>simp at k
  | cons z r=>simp
 rw[List.getLast?_eq_getElem?] at k;have f:vs.length - 1<vs.length:=by rw[q.len];exact hn
 obtain⟨d',h1,dn⟩:=q.get (Ji f);rw[q.len,k] at h1;cases h1;refine⟨.ref a,n,.inl ⟨rfl,vs,SqL.of o⟩,a,vs,vs[vs.length - 1],rfl,rfl,o,Ji f,?_⟩;have g:=e.addFr dn;have m:=g.mut (ds:=ds) (vs':=vs.dropLast) (ds':=ds.dropLast) l es n (by
  have : Nw M (aG σ env (ts++[(vs[vs.length - 1],Sl.fr d)]))=Nw M (aG σ env ts):=by
   rw[aC];unfold Nw;have:oas (aG σ env ts++tmp [(vs[vs.length - 1],Sl.fr d)])=oas (aG σ env ts):=by
    rw[am];have:oas (tmp [(vs[vs.length - 1],Sl.fr d)])=[]:=by
     show oas [(some vs[vs.length - 1],Sl.fr d)]=[]
     rw[ar];cases vs[vs.length - 1] <;> rfl
    rw[this,JM]
   rw[this]
  rw[this];exact q.dropLast)
 exact hq _ _ _ _ hR m
end
abbrev DSp:=List Sl->(Sl->List Sl->Prop)->Prop
def mW:Sl->Bool
 | .fr _=>true
 | .ow _=>true
 | .tr _ _=>true
 | _=>false
def tz(vs:List V)(ss:List Sl):ao->Prop:=λa=>a∈oas (tmp (vs.zip ss))
def spD(K:cb)(sp:DSp):Sp:=λvs H Q _=>∃(M:ao->Prop) (ss:List Sl) (R:Sl->List Sl->Prop),vs.length=ss.length/\bN K M (tz vs ss) H (tmp (vs.zip ss)) H/\sp ss R /\
 ∀r a v H',R r a->mW r=true->bN K M (tz vs ss) H (tmp ((v,r)::vs.zip a)) H'->Q v H'
section
variable {K:cb}{M P N:ao->Prop}{H0 H H':Hp}{E:List Ent}{σ0 σ:St}{env:List Sl}{ts:List (V×Sl)}{v:V}{s:Sl}{d:ah}
theorem ka:∀(vs:List V) (ds:List ah),oas (tmp (vs.zip (ds.map Sl.fr)))=[]
 | [],_=>by simp[oas,tmp]
 | _::_,[]=>by simp[oas,tmp]
 | v::vs,d::ds=>by
  show oas ((some v,Sl.fr d)::tmp (vs.zip (ds.map Sl.fr)))=[]
  rw[ar,d9,ka vs ds];rfl
def gT(h:DNs K N H vs ds):(x,s)∈tmp (vs.zip (ds.map Sl.fr))->∃v d,x=some v/\s=.fr d/\DN K N H v d:=DNs.ind (C:=λvs ds=>(x,s)∈tmp (vs.zip (ds.map Sl.fr))->∃v d,x=some v/\s=.fr d/\DN K N H v d) (λm=>by simp[tmp] at m) (λ{v vs d ds} h _ i m=>by
  have m:(x,s)∈(some v,Sl.fr d)::tmp (vs.zip (ds.map Sl.fr)):=m;rcases Jo.mp m with m|m
  .cases m;exact⟨v,d,rfl,rfl,h⟩
  .exact i m) h
inductive dc (K:cb) (N:ao->Prop) (Hc H':Hp):V->Sl->Prop
 | fr {v:V}{d:ah}:DN K N H' v d->dc K N Hc H' v (.fr d)
 | ow {a:ao}{vs:List V}{ds:List ah}:H' a=some (.lst vs)->DNs K (λb=>N b\/b=a) H' vs ds->Hc a=none->¬N a->dc K N Hc H' (.ref a) (.ow ds)
 | tr {v:V}{d:ah}{S:List ao}:OT K (λb=>N b\/b∈S) H' v d S->(∀a∈S,Hc a=none/\¬N a)->S.Nodup->dc K N Hc H' v (.tr S d)
def bN.resOk(hc:bN K N Pc Hc ((some v,r)::T) H')(g:mW r=true):dc K N Hc H' v r:=by
 cases r with
 | fr d =>
  obtain⟨w,e,dn⟩:=hc.fr _ _ Jm;cases e;exact .fr (dn.to λb _ _ z=>.inl z)
 | ow ds =>
  obtain⟨a,vs,e,c,f,hn⟩:=hc.ow _ _ Jm;cases e;refine .ow c (f.to λb _ _ z=>?_) hn λz=>hc.mt a z hn;rcases z with z|z
  .exact .inl z
  .rw[z];exact .inr (by rw[ar];exact Jl _ (Jf.mpr rfl))
 | tr S d =>
  obtain⟨w,e,ot,hn⟩:=hc.tr _ _ _ Jm;cases e;refine .tr (ot.to λb _ _ z=>?_) (λa c=>⟨hn a c,λz=>hc.mt a z (hn a c)⟩) ?_
  .rcases z with z|z
   .exact .inl z
   .exact .inr (by rw[ar,aS];exact Jl _ z)
  .have nd:=hc.nd;rw[ar,aS] at nd;exact(Ju.mp nd).1
 | _=>cases g
theorem dc.to(h:dc K N Hc H' v r)(m:∀b,e b->N b):dc K e Hc H' v r:=by
 cases h with
 | fr dn=>exact .fr (dn.to λb _ _ z=>m b z)
 | ow c d hn f=>exact .ow c (d.to λb _ _ z=>z.elim (λz=>.inl (m b z)) .inr) hn λz=>f (m _ z)
 | tr ot hn nd=>exact .tr (ot.to λb _ _ z=>z.elim (λz=>.inl (m b z)) .inr) (λa c=>⟨(hn a c).1,λz=>(hn a c).2 (m a z)⟩) nd
def dc.own(h:dc K N Hc H' v r):(∀b∈cK (some v,r),Hc b=none/\¬N b)/\(cK (some v,r)).Nodup:=by
 cases h with
 | fr dn=>rw[d9];exact⟨λb a=>absurd a JR,Ki⟩
 | ow e c hn d=>exact⟨λb a=>by rw[Jf.mp a];exact⟨hn,d⟩,JO.mpr ⟨!1,Ki⟩⟩
 | tr ot hn nd=>rw[aS];exact⟨hn,nd⟩
def dc.frD(h:dc K N Hc H' v (.fr d)):DN K N H' v d:=by
 cases h with
 | fr dn=>exact dn
def dc.owD(h:dc K N Hc H' v (.ow ds)):∃a vs,v=.ref a/\H' a=some (.lst vs)/\DNs K (λb=>N b\/b=a) H' vs ds/\Hc a=none:=by
 cases h with
 | ow d c hn e=>exact⟨_,_,rfl,d,c,hn⟩
def dc.ioD(h:dc K N Hc H' v (.io ds)):False:=by cases h
def dc.trD(h:dc K N Hc H' v (.tr S d)):OT K (λb=>N b\/b∈S) H' v d S/\∀a∈S,Hc a=none/\¬N a:=by
 cases h with
 | tr ot hn nd=>exact⟨ot,hn⟩
def bN.getRes(h:bN K M P H0 E H')(j:∀b,H0 b≠none->Hc b≠none)(f:dc K (Nw M E) Hc H' v r)
  (frs:∀x d,(x,Sl.fr d)∈E->∃w,x=some w/\DN K (λb=>Nw M E b\/(b∈cK (some v,r)/\Hc b=none)) H' w d)
  (its:∀x s ds,(x,s)∈E->gQ s=some ds->∃a vs,x=some (.ref a)/\H' a=some (.lst vs)/\DNs K (λb=>Nw M E b\/(b∈cK (some v,r)/\Hc b=none)) H' vs ds)
  (ots:∀x S d,(x,Sl.tr S d)∈E->∃w,x=some w/\OT K (λb=>Nw M E b\/(b∈cK (some v,r)/\Hc b=none)) H' w d S):bN K M P H0 (E++[(some v,r)]) H':=by
 obtain⟨i,l⟩:=f.own;have y:oas (E++[(some v,r)])=oas E++cK (some v,r):=by rw[am,ar];simp[oas]
 have up:∀b,Nw M (E++[(some v,r)]) b->Nw M E b\/b∈cK (some v,r):=λb z=>by
  rcases z with z|z
  .exact .inl (.inl z)
  .rw[y] at z;rcases Jj.mp z with z|z
   .exact .inl (.inr z)
   .exact .inr z
 have g:∀b,Nw M (E++[(some v,r)]) b->Nw M E b\/(b∈cK (some v,r)/\Hc b=none):=λb z=>(up b z).elim .inl λz=>.inr ⟨z,(i b z).1⟩;have A:∀b,Hc b=none->H0 b=none:=λb hn=>by
  cases e:H0 b with
  | none=>rfl
  | some o=>exact absurd hn (j b (by rw[e];simp))
 refine⟨h.keep,h.live,h.mt,h.pm,λx d' m=>?_,λx d' m=>?_,λx d' m=>?_,λx S d' m=>?_,?_⟩
 .rcases Jj.mp m with m|m
  .obtain⟨w,e,dn⟩:=frs x d' m;exact⟨w,e,dn.to λb _ _ z=>g b z⟩
  .rw[Jf] at m;obtain⟨e1,rfl⟩:=ml m;exact⟨v,e1,f.frD.to λb _ _ z=>(up b z).elim id λz=>by rw[d9] at z;exact absurd z JR⟩
 .rcases Jj.mp m with m|m
  .obtain⟨b,us,e,e2,dn⟩:=its x _ d' m rfl;obtain⟨B,n,k,p,_,r⟩:=h.ow x d' m;rw[e] at k;cases k;exact⟨b,us,e,e2,dn.to λb _ _ z=>g b z,r⟩
  .rw[Jf] at m;obtain⟨e1,rfl⟩:=ml m;obtain⟨a,us,rfl,q,t,hn⟩:=f.owD;exact⟨a,us,e1,q,t.to λb _ _ z=>(up b z).elim .inl λz=>.inr (Jf.mp z),A _ hn⟩
 .rcases Jj.mp m with m|m
  .obtain⟨b,us,e,e2,dn⟩:=its x _ d' m rfl;obtain⟨B,n,k,p,_,r⟩:=h.io x d' m;rw[e] at k;cases k;exact⟨b,us,e,e2,dn.to λb _ _ z=>g b z,r⟩
  .rw[Jf] at m;obtain⟨e1,rfl⟩:=ml m;exact f.ioD.elim
 .rcases Jj.mp m with m|m
  .obtain⟨w,e,dn⟩:=ots x S d' m;obtain⟨w',k,_,r⟩:=h.tr x S d' m;exact⟨w,e,dn.to λb _ _ z=>g b z,r⟩
  .rw[Jf] at m;obtain⟨e1,rfl⟩:=ml m;exact⟨v,e1,f.trD.1.to λb _ _ z=>(up b z).elim .inl λz=>.inr (by rw[aS] at z;exact z),λa q=>A _ (f.trD.2 a q).1⟩
 .rw[y];exact Ju.mpr ⟨h.nd,l,λb C c u z=>(i c u).2 (.inr (z▸C))⟩
def DN.past(h:DN K N Hc v d)(c:∀b,a b->N b\/Hc b=none)(k:aX Pc Hc H')(f:∀b,Pc b->a b):DN K a H' v d :=
 (h.to λb o e z=>(c b z).elim id λz=>by rw[z] at e;cases e).keep (k.mono f)
def DNs.past(h:DNs K N Hc vs ds)(c:∀b,a b->N b\/Hc b=none)(k:aX Pc Hc H')(d:∀b,Pc b->a b):DNs K a H' vs ds :=
 (h.to λb o e z=>(c b z).elim id λz=>by rw[z] at e;cases e).keep (k.mono d)
def OT.past(h:OT K N Hc v d S)(g:∀b,c b->N b\/Hc b=none)(k:aX Pc Hc H')(i:∀b,Pc b->c b)(j:∀b∈S,¬Pc b):OT K c H' v d S :=
 (h.to λb o e z=>(g b z).elim id λz=>by rw[z] at e;cases e).keep (k.mono i) λa f=>by
  obtain⟨xs,z⟩:=h.lives a f;rw[k _ _ (j a f) z,z]
def bN.called(h:bN K M P H0 E H)(k:be H H')(c:dc K (Nw M E) H H' v r):bN K M P H0 (E++[(some v,r)]) H':=by
 refine(h.same k).getRes h.live c (λx d m=>?_) (λx s ds m f=>?_) λx S d m=>?_
 rotate_right
 .obtain⟨w,e,dn,_⟩:=h.tr x S d m;exact⟨w,e,dn.past (λb z=>z.elim .inl λz=>.inr z.2) (aX.same (N:=N0) k) (λb z=>z.elim) λb _ z=>z.elim⟩
 .obtain⟨w,e,dn⟩:=h.fr x d m;exact⟨w,e,dn.past (λb z=>z.elim .inl λz=>.inr z.2) (aX.same (N:=N0) k) λb z=>z.elim⟩
 .cases s with
  | ow l =>
   cases f;obtain⟨a,vs,e,e2,dn,_⟩:=h.ow x _ m;exact⟨a,vs,e,k _ _ e2,dn.past (λb z=>z.elim .inl λz=>.inr z.2) (aX.same (N:=N0) k) λb z=>z.elim⟩
  | io l =>
   cases f;obtain⟨a,vs,e,e2,dn,_⟩:=h.io x _ m;exact⟨a,vs,e,k _ _ e2,dn.past (λb z=>z.elim .inl λz=>.inr z.2) (aX.same (N:=N0) k) λb z=>z.elim⟩
  | _=>cases f
def Rel.withRes(h:Rel K M P H0 σ0 σ env ts H)(e:bN K M P H0 (aG σ env ts++[(some v,r)]) H')(a:mW r=true):Rel K M P H0 σ0 σ env (ts++[(v,r)]) H' :=
  ⟨by rw[aC];exact e,h.len,(λw i m=>by
    rcases Jj.mp m with m|m
    · exact h.vw w i m
    · rw[Jf] at m;cases m;cases a),h.ios⟩
def v9(sp:DSp)(t:DA):DE:=λenv R=>t env λss a=>∃ds,bw a ss=some ds/\sp (ds.map .fr) (dK (λr _=>R r a) ⟨⟩)
def Au(c:DNs K M' H vs ds)(f:∀a,M' a->H a≠none):bN K M' (tz vs (ds.map .fr)) H (tmp (vs.zip (ds.map .fr))) H:=by
 have e:=ka vs ds;have ne:∀b,Nw M' (tmp (vs.zip (ds.map .fr))) b->M' b:=λb z=>z.elim id λz=>by rw[e] at z;cases z
 refine⟨aX.refl,λa q=>q,f,λa z=>?_,λx d m=>?_,λx l m=>?_,λx l m=>?_,λx S l m=>?_,by rw[e];exact Ki⟩
 rotate_right
 .obtain⟨w,d',e1,e2,dn⟩:=gT c m;cases e2
 .have z:a∈oas (tmp (vs.zip (ds.map .fr))):=z;rw[e] at z;cases z
 .obtain⟨w,d',e1,e2,dn⟩:=gT c m;cases e2;exact⟨w,e1,dn.to λb _ _ z=>ne b z⟩
 .obtain⟨w,d',e1,e2,dn⟩:=gT c m;cases e2
 .obtain⟨w,d',e1,e2,dn⟩:=gT c m;cases e2
def CW:∀σ H Q,up K (v9 sp tl) σ H Q->sy (spD K sp) [] E0 (upA K tl) σ H Q:=λσ H Q h=>by
 obtain⟨M,P,H0,σ0,env,ts,R,i,m,hq⟩:=h;refine⟨M,P,H0,σ0,env,ts,_,i,m,λss d vs H1 h1 n c=>?_⟩;obtain⟨ds,o,j⟩:=h1;rw[JM];have g:=c.keptAll n (λp q=>q) o;have s:=ka vs ds;refine⟨Nw M (aG σ d ts),ds.map .fr,λr _=>R r d,by simp[g.len],Au g λa z hn=>c.drop.newAddr hn z,j,λr t v H' hR l f=>hq _ _ _ _ hR ?_⟩;have k:be H1 H':=(f.keep.mono (M:=N0) λb z=>by
  have z:b∈oas (tmp (vs.zip (ds.map .fr))):=z;rw[s] at z;cases z).none
 exact(c.drop).withRes (c.drop.e.called k (f.resOk l)) l
end
section
variable {K:cb}{M P:ao->Prop}{H0 H H':Hp}{E A B:List Ent}{σ0 σ:St}{env:List Sl}{ts tt:List (V×Sl)}{v:V}{s:Sl}{d:ah}
def fu(t:V×Sl)(ts:List (V×Sl)):tmp (t::ts)=(some t.1,t.2)::tmp ts:=rfl
def nY(ts tt:List (V×Sl)):tmp (ts++tt)=tmp ts++tmp tt:=by simp[tmp]
theorem lL{α β:Type}:∀{l1:List α}{m1:List β} (x:α) (y:β) (l2:List α) (m2:List β),l1.length=m1.length->(l1++x::l2).zip (m1++y::m2)=l1.zip m1++(x,y)::l2.zip m2
 | [],[],_,_,_,_,_=>rfl
 | a::l1,b::m1,x,y,l2,m2,h=>by
  show(a,b)::(l1++x::l2).zip (m1++y::m2)=_;rw[lL x y l2 m2 (by simpa using h)];rfl
 | [],_::_,_,_,_,_,h=>by simp at h
 | _::_,[],_,_,_,_,h=>by simp at h
def wC(q1:DNs K M' H v1 d1)(q2:DNs K M' H c d2)(i:∀a,M' a->H a≠none)(f:M' a)(j:H a=some (.lst us))(k:DNs K M' H us l) :
  oas (tmp ((v1++.ref a::c).zip (d1.map .fr++.io l::d2.map .fr)))=[a] /\
  bN K M' (tz (v1++.ref a::c) (d1.map .fr++.io l::d2.map .fr)) H (tmp ((v1++.ref a::c).zip (d1.map .fr++.io l::d2.map .fr))) H:=by
 have g:(v1++.ref a::c).zip (d1.map Sl.fr++.io l::d2.map .fr)=v1.zip (d1.map .fr)++(.ref a,.io l)::c.zip (d2.map .fr):=lL _ _ _ _ (by simp[q1.len]);have e:oas (tmp ((v1++.ref a::c).zip (d1.map .fr++.io l::d2.map .fr)))=[a]:=by rw[g,nY,fu,am,ar,ka,ka];rfl
 have ne:∀b,Nw M' (tmp ((v1++.ref a::c).zip (d1.map .fr++.io l::d2.map .fr))) b->M' b:=λb z=>z.elim id λz=>by rw[e,Jf] at z;rw[z];exact f
 have cs:∀x s,(x,s)∈tmp ((v1++.ref a::c).zip (d1.map .fr++.io l::d2.map .fr))->(∃w d,x=some w/\s=.fr d/\DN K M' H w d)\/(x=some (.ref a)/\s=.io l):=λx s m=>by
  rw[g,nY,fu] at m;rcases Jj.mp m with m|m
  .exact .inl (gT q1 m)
  .rcases Jo.mp m with m|m
   .cases m;exact .inr ⟨rfl,rfl⟩
   .exact .inl (gT q2 m)
 refine⟨e,aX.refl,λa q=>q,i,λb z=>?_,λx d m=>?_,λx h m=>?_,λx h m=>?_,λx S h m=>?_,by rw[e];simp⟩
 rotate_right
 .rcases cs x _ m with⟨w,d',e1,e2,dn⟩|⟨_,e2⟩
  .cases e2
  .cases e2
 .have z:b∈oas (tmp ((v1++.ref a::c).zip (d1.map .fr++.io l::d2.map .fr))):=z;rw[e,Jf] at z;rw[z];exact f
 .rcases cs x _ m with⟨w,d',e1,e2,dn⟩|⟨_,e2⟩
  .cases e2;exact⟨w,e1,dn.to λb _ _ z=>ne b z⟩
  .cases e2
 .rcases cs x _ m with⟨w,d',e1,e2,dn⟩|⟨_,e2⟩
  .cases e2
  .cases e2
 .rcases cs x _ m with⟨w,d',e1,e2,dn⟩|⟨e1,e2⟩
  .cases e2
  .cases e2;exact⟨a,us,e1,j,k.to λb _ _ z=>ne b z,by show a∈oas _;rw[e];simp⟩
def bN.lost(h:bN K M P H0 (E++[(some (.ref a),.ow l)]) H)(k:aX (λb=>b=a) H H')(t:∀b,H b≠none->H' b≠none):bN K M P H0 E H' /\
  (∀x d,(x,Sl.fr d)∈E->∃w,x=some w/\∀c:ao->Prop,(∀b,c b->Nw M (E++[(some (.ref a),.ow l)]) b\/H b=none)->c a->DN K c H' w d) /\
  (∀x s ds,(x,s)∈E->gQ s=some ds->∃b vs,x=some (.ref b)/\H' b=some (.lst vs)/\∀c:ao->Prop,(∀b,c b->Nw M (E++[(some (.ref a),.ow l)]) b\/H b=none)->c a->DNs K c H' vs ds) /\
  (∀x S d,(x,Sl.tr S d)∈E->∃w,x=some w/\∀c:ao->Prop,(∀b,c b->Nw M (E++[(some (.ref a),.ow l)]) b\/H b=none)->c a->OT K c H' w d S):=by
 have p:oas (E++[(some (.ref a),Sl.ow l)])=oas E++[a]:=by rw[am];rfl
 have nd:=h.nd;rw[p] at nd;obtain⟨u,_,y⟩:=Ju.mp nd;have A:Nw M (E++[(some (.ref a),Sl.ow l)]) a:=.inr (by rw[p];simp);obtain⟨_,_,z,_,_,B⟩:=h.ow _ _ (Jg _ Jm);cases z;have sub:∀b,Nw M E b->Nw M (E++[(some (.ref a),Sl.ow l)]) b:=λb z=>fg z;have j:∀b,b=a->Nw M (E++[(some (.ref a),Sl.ow l)]) b:=λb z=>by rw[z];exact A
 have other:∀b x s,(x,s)∈E->b∈cK (x,s)->b≠a:=λb x s m i z=>y b (bh.mpr ⟨_,m,i⟩) a (!1) z;refine⟨⟨?_,λb q=>t b (h.live b q),h.mt,h.pm,λx d m=>?_,λx d m=>?_,λx d m=>?_,λx S d m=>?_,u⟩,λx d m=>?_,λx s ds m i=>?_,λx S d m=>?_⟩
 rotate_right
 .obtain⟨v,e,dn,r⟩:=h.tr x S d (Jl _ m);subst e;exact⟨v,rfl,λc g f=>dn.past g k (λb z=>by rw[z];exact f) λb n z=>other b _ _ m (by rw[aS];exact n) z⟩
 rotate_right 3
 .obtain⟨v,e,dn,r⟩:=h.tr x S d (Jl _ m);subst e;refine⟨v,rfl,(dn.keep (k.mono j) λb n=>?_).to λb _ _ z=>sub b z,r⟩;obtain⟨xs,z⟩:=dn.lives b n;rw[k _ _ (other b _ _ m (by rw[aS];exact n)) z,z]
 rotate_left 2
 .intro b o C e;refine k b o (λz=>?_) (h.keep b o C e);rw[z,B] at e;cases e
 .obtain⟨v,e,dn⟩:=h.fr x d (Jl _ m);exact⟨v,e,(dn.keep (k.mono j)).to λb _ _ z=>sub b z⟩
 .obtain⟨b,us,e,e2,dn,r⟩:=h.ow x d (Jl _ m);subst e;exact⟨b,us,rfl,k _ _ (other b _ _ m (Jf.mpr rfl)) e2,(dn.keep (k.mono j)).to λb _ _ z=>sub b z,r⟩
 .obtain⟨b,us,e,e2,dn,r⟩:=h.io x d (Jl _ m);subst e;exact⟨b,us,rfl,k _ _ (other b _ _ m (Jf.mpr rfl)) e2,(dn.keep (k.mono j)).to λb _ _ z=>sub b z,r⟩
 .obtain⟨v,e,dn⟩:=h.fr x d (Jl _ m);exact⟨v,e,λc g f=>dn.past g k λb z=>by rw[z];exact f⟩
 .cases s with
  | ow D =>
   cases i;obtain⟨b,us,e,e2,dn,r⟩:=h.ow x _ (Jl _ m);subst e;exact⟨b,us,rfl,k _ _ (other b _ _ m (Jf.mpr rfl)) e2,λc g f=>dn.past g k λb z=>by rw[z];exact f⟩
  | io D =>
   cases i;obtain⟨b,us,e,e2,dn,r⟩:=h.io x _ (Jl _ m);subst e;exact⟨b,us,rfl,k _ _ (other b _ _ m (Jf.mpr rfl)) e2,λc g f=>dn.past g k λb z=>by rw[z];exact f⟩
  | _=>cases i
def rW(sp:DSp)(t:DA):DE:=λenv R=>t env λss a=>∃l b ds,ss=.ow l::b/\bw a b=some ds/\sp (.io l::ds.map .fr) (dK (λr _=>R r a) ⟨⟩)
def za:∀σ H Q,up K (rW sp tl) σ H Q->sy (spD K sp) [] E0 (upA K tl) σ H Q:=λσ H Q h=>by
 obtain⟨M,P,H0,σ0,env,ts,R,y,L,hq⟩:=h;refine⟨M,P,H0,σ0,env,ts,_,y,L,λss c vs H1 h1 F o=>?_⟩;obtain⟨l,A,ds,rfl,N,B⟩:=h1;rw[JM];obtain⟨v1,vs',rfl⟩:=Fx F;have i:Rel K M P H0 σ0 σ c ((ts++[(v1,.ow l)])++vs'.zip A) H1:=by simpa using o
 have n:=i.keptAll (by simpa using F) (λp O=>O) N;have g:=i.drop;have hE:=g.e;rw[aC] at hE;obtain⟨a,us,T,U,V,h0⟩:=hE.ow (some v1) l (Jg _ (by simp[tmp]));cases T;have hE:bN K M P H0 (aG σ c ts++[(some (.ref a),.ow l)]) H1:=hE;have q:Nw M (aG σ c (ts++[(.ref a,.ow l)]))=Nw M (aG σ c ts++[(some (.ref a),.ow l)]):=by rw[aC];rfl
 rw[q] at n;have G:Nw M (aG σ c ts++[(some (.ref a),.ow l)]) a:=.inr (by rw[am];exact Jg _ (bh.mpr ⟨_,Jf.mpr rfl,Jf.mpr rfl⟩));have t:=wC (v1:=[]) (d1:=[]) (l:=l) (us:=us) (a:=a) (K:=K) (M':=Nw M (aG σ c ts++[(some (.ref a),.ow l)])) (H:=H1) .nil n (λb z hn=>g.newAddr hn (by rw[q];exact z)) G U V;refine⟨_,.io l::ds.map .fr,λr _=>R r c,by simp[n.len],t.2,B,λr W v H' hR I j=>hq _ _ _ _ hR ?_⟩;have k:aX (λb=>b=a) H1 H':=j.keep.mono λb z=>by
  have z:b∈oas (tmp ((.ref a::vs').zip (.io l::ds.map .fr))):=z;have J:=t.1;simp only[ra,Kv] at J;rw[J,Jf] at z;exact z
 obtain⟨u,X,Y,Z⟩:=hE.lost k j.live;have rk:=j.resOk I;have C:dc K (Nw M (aG σ c ts)) H1 H' v r:=rk.to λb z=>fg z;have D:∀b,((Nw M (aG σ c ts) b\/(b∈cK (some v,r)/\H1 b=none))\/b=a)->Nw M (aG σ c ts++[(some (.ref a),.ow l)]) b\/H1 b=none:=λb z=>by
  rcases z with (z|z)|z
  .exact .inl (fg z)
  .exact .inr z.2
  .rw[z];exact .inl G
 refine g.drop.withRes ?_ I;refine u.getRes g.e.live C (λx d m=>?_) (λx s ds' m eo=>?_) λx S d m=>?_
 rotate_right
 .obtain⟨w,e,f⟩:=Z x S d m;exact⟨w,e,(f (λb=>(Nw M (aG σ c ts) b\/(b∈cK (some v,r)/\H1 b=none))\/b=a) D (.inr rfl)).to λb _ _ z=>.inl z⟩
 .obtain⟨w,e,f⟩:=X x d m;exact⟨w,e,(f (λb=>(Nw M (aG σ c ts) b\/(b∈cK (some v,r)/\H1 b=none))\/b=a) D (.inr rfl)).to λb _ _ z=>.inl z⟩
 .obtain⟨b,E,e,e2,f⟩:=Y x s ds' m eo;exact⟨b,E,e,e2,(f (λb=>(Nw M (aG σ c ts) b\/(b∈cK (some v,r)/\H1 b=none))\/b=a) D (.inr rfl)).to λb _ _ z=>.inl z⟩
def nq(sp:DSp)(m:Nat)(t:DA):DE:=λenv R=>t env λss a=>∃i b l d1 d2,ss[m]? = some (.vw i)/\a[i]? = some b/\gQ b=some l/\bw a (ss.take m)=some d1/\bw a (ss.drop (m+1))=some d2 /\
 sp (d1.map .fr++.io l::d2.map .fr) (dK (λr as=>∃c s',as[m]? = some (.io c)/\cN b c=some s'/\R r (a.set i s')) ⟨⟩)
def xh{α β:Type}(l:List α)(m:List β)(n:Nat):∀p∈(l.take n).zip (m.take n),p∈l.zip m:=λp a=>by
 rw[pd,<-List.take_zipWith] at a;exact rr a
def yP{α β:Type}(l:List α)(m:List β)(n:Nat):∀p∈(l.drop n).zip (m.drop n),p∈l.zip m:=λp a=>by
 rw[pd,<-List.drop_zipWith] at a;exact KZ a
def Fi{α:Type}{l:List α}{m:Nat}{x:α}(h:l[m]? = some x):l=l.take m++x::l.drop (m+1):=by obtain⟨a,e⟩:=Js.mp h;rw[<-e,List.getElem_cons_drop,List.take_append_drop]
def zb:∀σ H Q,up K (nq sp m tl) σ H Q->sy (spD K sp) [] E0 (upA K tl) σ H Q:=λσ H Q h=>by
 obtain⟨M,P,H0,σ0,env,ts,R,Z,ht,hq⟩:=h;refine⟨M,P,H0,σ0,env,ts,_,Z,ht,λss f vs H1 h1 hl n=>?_⟩;obtain⟨i,G,l,d1,d2,em,I,J,k1,k2,a0⟩:=h1;rw[JM];have c:=n.drop;obtain⟨a,us,ea,hH,ql⟩:=c.mine I J;have hm:m<ss.length:=(Js.mp em).1;have a3:m<vs.length:=!0
 have va:vs[m]? = some (.ref a):=by
  have mz:(vs[m],ss[m])∈vs.zip ss:=by
   have hz:m<(vs.zip ss).length:=by rw[KD];omega
   have:=JF hz;rwa [ph] at this
  rw[(Js.mp em).2] at mz;have q:=n.vw _ _ (Jg _ mz);rw[ea] at q;rw[Ji a3];exact congrArg some (dm (dm q)).symm
 have ev:=Fi va;have q1:=n.keptAll (vs:=vs.take m) (ss:=ss.take m) (by simp;omega) (xh _ _ _) k1;have q2:=n.keptAll (vs:=vs.drop (m+1)) (ss:=ss.drop (m+1)) (by simp;omega) (yP _ _ _) k2;have hE:=c.e;have ma:Nw M (aG σ f ts) a:=by obtain⟨x,e1,g⟩:=c.slot I;rw[ea] at e1;cases e1;refine .inr (bh.mpr ⟨_,g,?_⟩);exact(qS J).2 a
 have C:=wC (l:=l) (us:=us) (a:=a) q1 q2 (λb z hn=>c.newAddr hn z) ma hH ql;rw[<-ev] at C;have b2:=q1.len;have ld2:=q2.len;refine⟨_,d1.map .fr++.io l::d2.map .fr,_,?_,C.2,a0,λr D v H' hR hr o=>?_⟩
 .rw[ev];simp only[Jz,JX,Je];omega
 obtain⟨L,s',e2,es,hR⟩:=hR;refine hq _ _ _ _ hR ?_;have k:aX (λb=>b=a) H1 H':=o.keep.mono λb z=>by
  have z:b∈oas (tmp (vs.zip (d1.map .fr++.io l::d2.map .fr))):=z;rw[C.1,Jf] at z;exact z
 have mp:((some (.ref a),.io L):Ent)∈tmp ((v,r)::vs.zip D):=by
  rw[fu];refine Jq _ (Jk.mpr ⟨(.ref a,.io L),?_,rfl⟩);have h2:m<D.length:=(Js.mp e2).1;have hz:m<(vs.zip D).length:=by rw[KD];omega
  have:=JF hz;rw[ph,(Js.mp va).2,(Js.mp e2).2] at this;exact this
 obtain⟨a',N,z,O,T,_⟩:=o.io _ _ mp;cases z;obtain⟨x,A,B,e3,s,E⟩:=c.split I;rw[ea] at e3;cases e3;have p:B7 G L s':=(jZ es).1;rw[s] at hE;have a4:DNs K (Nw M (A++(some (.ref a),G)::B)) H' N L:=T.to λb _ _ z=>.inl (by rw[s];exact z);have hM:=hE.muted p k o.live O a4;have u:Nw M (aG σ (f.set i s') ts)=Nw M (aG σ f ts):=by
  rw[s,E];have oa:cK (some (.ref a),G)=[a]/\cK (some (.ref a),s')=[a]:=by exact gE p
  unfold Nw;rw[am,am,ar,ar,oa.1,oa.2]
 rw[<-E] at hM;have rk:dc K (Nw M (aG σ (f.set i s') ts)) H1 H' v r:=by rw[u];exact o.resOk hr
 have U:Rel K M P H0 σ0 σ (f.set i s') ts H':=⟨hM,by simp[c.len],c.vw,λj V W=>by
  by_cases hj:i=j
  .subst hj;have hi:i<f.length:=(Js.mp I).1;rw[JK hi] at W;cases W;obtain⟨a5,rfl⟩:=ur es;exact c.ios i a5 I
  .rw[JJ hj] at W;exact c.ios j V W⟩
 refine U.withRes ?_ hr;have old:∀x t,(x,t)∈aG σ (f.set i s') ts->(x,t)=(some (.ref a),s')\/((x,t)∈A\/(x,t)∈B):=λx t m=>by
  rw[E] at m;rcases Jj.mp m with m|m
  .exact .inr (.inl m)
  .rcases Jo.mp m with m|m
   .exact .inl m
   .exact .inr (.inr m)
 have back:∀x t,(x,t)∈A\/(x,t)∈B->(x,t)∈A++(some (.ref a),G)::B:=λx t m=>by
  rcases m with m|m
  .exact Jl _ m
  .exact Jg _ (Jq _ m)
 have X:∀b,(Nw M (aG σ (f.set i s') ts) b\/(b∈cK (some v,r)/\H1 b=none))->Nw M (A++(some (.ref a),G)::B) b\/H1 b=none:=λb z=>by
  rw[u,s] at z;exact z.elim .inl λz=>.inr z.2
 have Y:∀b,b=a->(Nw M (aG σ (f.set i s') ts) b\/(b∈cK (some v,r)/\H1 b=none)):=λb z=>by rw[z,u];exact .inl ma
 have a6:cK (some (.ref a),G)=[a]:=(gE p).1;have nd:=hE.nd;rw[am,ar,a6] at nd;obtain⟨_,a7,b0⟩:=Ju.mp nd;obtain⟨b1,_⟩:=JO.mp a7;have other:∀x t b,(x,t)∈A\/(x,t)∈B->b∈cK (x,t)->b≠a:=λx t b m J z=>by
  subst z;rcases m with m|m
  .exact b0 b (bh.mpr ⟨_,m,J⟩) b Jm rfl
  .exact b1 (bh.mpr ⟨_,m,J⟩)
 refine hM.getRes c.e.live rk (λx d g=>?_) (λx t ds' g y=>?_) λx S d g=>?_
 rotate_right
 .rcases old _ _ g with g|g
  .rcases dq p with⟨_,_,e⟩|⟨_,_,e⟩ <;> (rw[e] at g;cases g)
  .obtain⟨w,e,dn,_⟩:=hE.tr x S d (back _ _ g);subst e;exact⟨w,rfl,dn.past X k Y λb hb z=>other _ _ b g (by rw[aS];exact hb) z⟩
 .rcases old _ _ g with g|g
  .rcases dq p with⟨_,_,e⟩|⟨_,_,e⟩ <;> (rw[e] at g;cases g)
  .obtain⟨w,e,dn⟩:=hE.fr x d (back _ _ g);exact⟨w,e,dn.past X k Y⟩
 .rcases old _ _ g with g|g
  .cases g;have el:ds'=L:=dm (y.symm.trans (jZ es).2);subst el;refine⟨a,N,rfl,O,T.to λb _ _ z=>?_⟩;rcases z with z|z
   .exact .inl (by rw[<-u];exact z)
   .exact .inr (by rw[fu,ar];exact Jl _ z.1)
  .cases t with
   | ow l2 =>
    cases y;obtain⟨b,us2,e,F,dn,_⟩:=hE.ow x _ (back _ _ g);subst e;exact⟨b,us2,rfl,k _ _ (other _ _ b g (Jf.mpr rfl)) F,dn.past X k Y⟩
   | io l2 =>
    cases y;obtain⟨b,us2,e,F,dn,_⟩:=hE.io x _ (back _ _ g);subst e;exact⟨b,us2,rfl,k _ _ (other _ _ b g (Jf.mpr rfl)) F,dn.past X k Y⟩
   | _=>cases y
end
structure ig where
 nx : List Sl->Prop
 rt : Sl->List Sl->Prop
 bk : List Sl->Prop:=λ_=>False
 ct : List Sl->Prop:=λ_=>False
abbrev DS:=ig->List Sl->Prop
def zj(ts:List (V×Sl)):Prop:=∀v i,(v,Sl.vw i) ∉ ts
structure Fq(K:cb)(M P:ao->Prop)(H0:Hp)(σ0:St)(ts:List (V×Sl))(DD:ig)(D:de):Prop where
 nx : ∀σ' env' H',DD.nx env'->Rel K M P H0 σ0 σ' env' ts H'->D.nx σ' H'
 rt : ∀s env' v σ' H',DD.rt s env'->Rel K M P H0 σ0 σ' env' (ts++[(v,s)]) H'->D.rt v H'
 bk : ∀σ' env' H',DD.bk env'->Rel K M P H0 σ0 σ' env' ts H'->D.bk σ' H'
 ct : ∀σ' env' H',DD.ct env'->Rel K M P H0 σ0 σ' env' ts H'->D.ct σ' H'
inductive upS (K:cb) (t:DS) (D:de) (σ:St) (H:Hp):Prop
 | mk (M P:ao->Prop) (H0:Hp) (σ0:St) (env:List Sl) (ts:List (V×Sl)) (DD:ig):zj ts->Rel K M P H0 σ0 σ env ts H->t DD env->Fq K M P H0 σ0 ts DD D->upS K t D σ H
def PS.imp(h:PS X e t)(k:∀D σ H,t' D σ H->t D σ H):PS X e t':=λpins s σ H D I hw=>h pins s σ H D I (k D σ H hw)
def PSs.imp(h:PSs X e t)(k:∀D σ H,t' D σ H->t D σ H):PSs X e t':=λpins s σ H D I hw=>h pins s σ H D I (k D σ H hw)
section
variable {K:cb}{M P:ao->Prop}{H0 H:Hp}{σ0 σ:St}{env:List Sl}{ts tt:List (V×Sl)}{v:V}{s:Sl}{d:ah}
def jP(env:List Sl):Sl->Option Sl
 | .fr d=>some (.fr d)
 | .ow ds=>some (.ow ds)
 | .tr S d=>some (.tr S d)
 | .vw i=>((env[i]?).bind slK).map .fr
 | _=>none
def Rel.unVw(h:Rel K M P H0 σ0 σ env (ts++[(v,s)]) H)(e:jP env s=some s'):Rel K M P H0 σ0 σ env (ts++[(v,s')]) H/\mW s'=true:=by
 cases s with
 | fr d=>cases e;exact⟨h,rfl⟩
 | ow ds=>cases e;exact⟨h,rfl⟩
 | tr S d=>cases e;exact⟨h,rfl⟩
 | vw i =>
  have e:((env[i]?).bind slK).map Sl.fr=some s':=e;cases q:(env[i]?).bind slK with
  | none=>rw[q] at e;cases e
  | some d =>
   rw[q] at e;cases e;exact⟨h.drop.addFr (h.kept (tt:=[(v,.vw i)]) (s:=.vw i) (!1) q),rfl⟩
 | _=>cases e
def wW:(σ.set i x).zip (env.set i s')=(σ.zip env).set i (x,s'):=by
 apply su;intro j;rw[eO];by_cases hj:i=j
 .subst hj;rw[KN,KN,KN,eO];cases σ[i]? <;> cases env[i]? <;> rfl
 .rw[JJ hj,JJ hj,JJ hj,eO]
def Rel.store(h:Rel K M P H0 σ0 σ env (ts++[(v,s)]) H)(nv:zj ts)(hi:i<env.length)(b:mW s=true):Rel K M P H0 σ0 (σ.set i (some v)) (env.set i s) ts H:=by
 have a:i<(σ.zip env).length:=by rw[KD,h.len];omega
 obtain⟨A,B,q1,q2⟩:=gx (Ji a);refine⟨?_,by simp[h.len],λw j m=>absurd m (nv w j),λj ds e=>?_⟩
 .have hE:=h.e;unfold aG at hE ⊢;rw[q1,nY,J5] at hE;rw[wW,q2,J5];have e2:((σ.zip env)[i]::B)++(tmp ts++tmp [(v,s)])=(σ.zip env)[i]::((B++tmp ts)++[(some v,s)]):=by simp[tmp]
  rw[e2] at hE;have:=hE.move;simpa using this
 .by_cases hj:i=j
  .subst hj;rw[JK hi] at e;cases e;cases b
  .rw[JJ hj] at e;rw[JJ hj];exact h.ios j ds e
end
section
variable {X:Cx}{K:cb}{pos:Pos}{st:Stmt}{rest a b:List Stmt}{t u:DS}{e c:bb}{te:DE}{tc:DT}
def CJ:DS:=λDD env=>DD.nx env
def Fd(t u:DS):DS:=λDD env=>t { DD with nx:=u DD } env
def IY(t u:DS):DS:=λDD env=>∃R:List Sl->Prop,t { DD with nx:=dI R ⟨⟩ } env/\∀env',R env'->u DD env'
def bS:PSs X [] (upS K CJ):=Be.imp λD σ H h=>by
 obtain⟨M,P,H0,σ0,env,ts,DD,nv,a,b,ok⟩:=h;exact ok.nx _ _ _ b a
def bB(h1:PS X st (upS K t))(h2:PSs X rest (upS K u)):PSs X (st::rest) (upS K (Fd t u)):=(kH h1 h2).imp λD σ H h=>by
 obtain⟨M,P,H0,σ0,env,ts,DD,nv,a,b,ok⟩:=h;exact⟨M,P,H0,σ0,env,ts,_,nv,a,b,⟨λσ' env' H' q r=>⟨M,P,H0,σ0,env',ts,DD,nv,r,q,ok⟩,ok.rt,ok.bk,ok.ct⟩⟩
def uI(h1:PS X st (upS K t))(h2:PSs X rest (upS K u)):PSs X (st::rest) (upS K (IY t u)):=(Bf h1 h2).imp λD σ H h=>by
 obtain⟨M,P,H0,σ0,env,ts,DD,nv,a,⟨R,b,hR⟩,ok⟩:=h;exact⟨λσ' H'=>∃env',R env'/\Rel K M P H0 σ0 σ' env' ts H',⟨M,P,H0,σ0,env,ts,_,nv,a,b,⟨λσ' env' H' q r=>⟨env',q,r⟩,ok.rt,ok.bk,ok.ct⟩⟩,
  λσ' H' ⟨env',q,r⟩=>⟨M,P,H0,σ0,env',ts,DD,nv,r,hR env' q,ok⟩⟩
def aj(h1:PS X st (upS K t)):PSs X [st] (upS K t):=kG h1
def CS:DS:=λDD env=>DD.ct env
def sI:PS X (.Continue pos) (upS K CS):=oN.imp λD σ H h=>by
 obtain⟨M,P,H0,σ0,env,ts,DD,nv,a,b,ok⟩:=h;exact ok.ct _ _ _ b a
def v7(te:DE):DS:=λDD env=>te env λ_ a=>DD.nx a
def b9(d:PE X e (up K te))(f:Q4 e none pos.line X.env=pure false:=by rfl):PS X (.Expr e pos) (upS K (v7 te)):=(oM d f).imp λD σ H h=>by
 obtain⟨M,P,H0,σ0,env,ts,DD,nv,b,g,ok⟩:=h;exact⟨M,P,H0,σ0,env,ts,_,b,g,λs1 c v1 H1 h1 a=>ok.nx _ _ _ h1 a.drop⟩
def Fe(te:DE):DS:=λDD env=>te env DD.rt
def a9(d:PE X e (up K te)):PS X (.Return (some e) pos) (upS K (Fe te)):=(zP d).imp λD σ H h=>by
 obtain⟨M,P,H0,σ0,env,ts,DD,nv,b,f,ok⟩:=h;exact⟨M,P,H0,σ0,env,ts,_,b,f,λs1 c v1 H1 h1 a=>ok.rt _ _ _ _ _ h1 a⟩
def FM(c:DT)(t u:DS):DS:=λDD env=>c env λk a=>if k=true then t DD a else u DD a
def gP(hc:PT X c (upT K tc))(g:PSs X a (upS K t))(i:PSs X b (upS K u)):PS X (.If c a b pos) (upS K (FM tc t u)):=(Gr hc g i).imp λD σ H h=>by
 obtain⟨M,P,H0,σ0,env,ts,DD,nv,f,j,ok⟩:=h;refine⟨M,P,H0,σ0,env,ts,_,f,j,λk d H1 h1 e=>?_⟩;cases k with
 | true=>exact⟨M,P,H0,σ0,d,ts,DD,nv,e,h1,ok⟩
 | false=>exact⟨M,P,H0,σ0,d,ts,DD,nv,e,h1,ok⟩
def Ah(i:Nat)(te:DE):DS:=λDD env=>te env λs a=>∃s',i<a.length/\jP a s=some s'/\DD.nx (a.set i s')
def aw{i:Nat}{x:bt}{a:Pos}(hN:X.N.Nodup)(hi:X.N[i]? = some x)(hx:Loc X.env.scope x)(f:PE X e (up K te))(g:Q4 e (some (.Name x a)) pos.line X.env=pure false:=by rfl)(j:X.fn x=true\/X.env.scope.names.lookup x=some .local:=by first|exact .inl rfl|exact .inr rfl|assumption):PS X (.Assign [.Name x a] e pos) (upS K (Ah i te)) :=
 (zO hN hi hx f g j).imp λD σ H h=>by
 obtain⟨M,P,H0,σ0,env,ts,DD,nv,c,k,ok⟩:=h;refine⟨M,P,H0,σ0,env,ts,_,c,k,λs1 d v1 H1 h1 b=>?_⟩;obtain⟨s',l,es,hR⟩:=h1;obtain⟨r,cs⟩:=b.unVw es;exact ok.nx _ _ _ hR (r.store nv l cs)
end
abbrev DG:=ah->List Sl->(List Sl->Prop)->Prop
abbrev DGs:=List ah->List Sl->(List Sl->Prop)->Prop
inductive upG (K:cb) (g:DG) (v:V) (σ:St) (H:Hp) (Q:St->Hp->Prop):Prop
 | mk (M P:ao->Prop) (H0:Hp) (σ0:St) (env:List Sl) (ts:List (V×Sl)) (d:ah) (R:List Sl->Prop):zj ts->Rel K M P H0 σ0 σ env ts H->DN K (Nw M (aG σ env ts)) H v d->g d env R ->
 (∀σ' env' H',R env'->Rel K M P H0 σ0 σ' env' ts H'->Q σ' H')->upG K g v σ H Q
inductive Dm (K:cb) (g:DGs) (vs:List V) (σ:St) (H:Hp) (Q:St->Hp->Prop):Prop
 | mk (M P:ao->Prop) (H0:Hp) (σ0:St) (env:List Sl) (ts:List (V×Sl)) (ds:List ah) (R:List Sl->Prop):zj ts->Rel K M P H0 σ0 σ env ts H->DNs K (Nw M (aG σ env ts)) H vs ds->g ds env R ->
 (∀σ' env' H',R env'->Rel K M P H0 σ0 σ' env' ts H'->Q σ' H')->Dm K g vs σ H Q
def PG.imp(h:PG X e t)(k:∀v σ H Q,t' v σ H Q->t v σ H Q):PG X e t':=λpins s σ H v u Q I r hw=>h pins s σ H v u Q I r (k v σ H Q hw)
def PGs.imp(h:PGs X e t)(k:∀v σ H Q,t' v σ H Q->t v σ H Q):PGs X e t':=λpins s σ H v u Q I r hw=>h pins s σ H v u Q I r (k v σ H Q hw)
section
variable {K:cb}{M P N:ao->Prop}{H0 H H':Hp}{σ0 σ:St}{env:List Sl}{ts kp:List (V×Sl)}{v:V}{s:Sl}{d:ah}{X:Cx}{pos:Pos}{e:bb}{es:List bb}
def vj(v:V)(d:ah):oas (tmp [(v,Sl.fr d)])=[]:=by
 show oas [(some v,Sl.fr d)]=[]
 rw[ar];cases v <;> rfl
def xT:Nw M (E++tmp [(v,Sl.fr d)])=Nw M E:=by unfold Nw;rw[am,vj,JM]
def kj(i:Nat):DG:=λd env R=>i<env.length/\R (env.set i (.fr d))
def ak(hN:X.N.Nodup)(hi:X.N[i]? = some x)(hx:Loc X.env.scope x)(b:X.fn x=true\/X.env.scope.names.lookup x=some .local:=by first|exact .inl rfl|exact .inr rfl|assumption):PG X (.Name x pos) (upG K (kj i)) :=
 (oO hN hi hx b).imp λv σ H Q h=>by
 obtain⟨M,P,H0,σ0,env,ts,d,R,nv,a,dn,⟨c,hR⟩,hq⟩:=h;exact hq _ _ _ hR ((a.addFr dn).store nv c rfl)
def yS:DGs:=λds env R=>ds=[]/\R env
def nj(g:DG)(b:DGs):DGs:=λds env R=>∃d r,ds=d::r/\g d env λa=>b r a R
def cB:PGs X [] (Dm K yS):=Bs.imp λv σ H Q h=>by
 obtain⟨M,P,H0,σ0,env,ts,ds,R,nv,a,dn,⟨rfl,hR⟩,hq⟩:=h;cases dn;exact⟨rfl,hq _ _ _ hR a⟩
theorem rq(env:List Sl):∀ds:List ah,bw env (ds.map .fr)=some ds
 | []=>rfl
 | d::ds=>by
  show(aL env (Sl.fr d)).bind _=_;rw[rq env ds];rfl
def BI(vs:List V)(ds:List ah)(nv:zj ts):zj (ts++vs.zip (ds.map .fr)):=λw i m=>by
 rcases Jj.mp m with m|m
 .exact nv w i m
 .obtain⟨d,_,e⟩:=Jk.mp (Lb m).2;cases e
theorem Rel.addFrs:∀{vs:List V}{ds:List ah}{ts:List (V×Sl)},Rel K M P H0 σ0 σ env ts H->DNs K (Nw M (aG σ env ts)) H vs ds->Rel K M P H0 σ0 σ env (ts++vs.zip (ds.map .fr)) H
 | _,_,ts,a,.nil=>by simpa using a
 | _,_,ts,a,@DNs.cons _ _ _ v vs d ds h q=>by
  have r:=a.addFr h;have q':DNs K (Nw M (aG σ env (ts++[(v,.fr d)]))) H vs ds:=q.to λb _ _ z=>by rw[aC,xT] at z;exact z
  have:=Rel.addFrs r q';simpa using this
def aK(h1:PG X e (upG K g))(h2:PGs X es (Dm K j))(k:(Qg (e::es) X.env).map (·.2)=QE e X.env::(Qg es X.env).map (·.2):=by rfl):PGs X (e::es) (Dm K (nj g j)) :=
 (xK h1 h2 k).imp λvs σ H Q h=>by
 obtain⟨M,P,H0,σ0,env,ts,ds,R,nv,f,dn,⟨d,r,rfl,hg⟩,hq⟩:=h;cases dn with
 | @cons v vs _ _ h q =>
  have c:=f.addFrs q;have hN:DN K (Nw M (aG σ env (ts++vs.zip (r.map .fr)))) H v d:=h.to λb _ _ z=>by
   rw[aC] at z;rcases z with z|z
   .exact .inl z
   .rw[am,ka,JM] at z;exact .inr z
  refine⟨v,vs,rfl,M,P,H0,σ0,env,ts++vs.zip (r.map .fr),d,_,BI _ _ nv,c,hN,hg,λσ' env' H' i a=>?_⟩;exact⟨M,P,H0,σ0,env',ts,r,R,nv,a.drop,a.keptAll (by simp[q.len]) (λp l=>l) (rq _ _),i,hq⟩
def yR(n:Nat)(a:DGs):DG:=λd env R=>∃ds,d=.tuple ds/\ds.length=n/\a ds env R
def dM{k:Nat}{e:DGs}{n:Nat}(hK:X.K=K)(hc:X.calm=true)(h:PGs X es (Dm K e))(hn:(Qg es X.env).length=n:=by rfl)(b:(Qg es X.env).findIdx? (·.1)=none:=by rfl):PG X (.Tuple es k pos) (upG K (yR n e)) :=
 (GE (K:=K) hK hc h hn b).imp λv σ H Q h=>by
 obtain⟨M,P,H0,σ0,env,ts,d,R,nv,c,dn,⟨ds,rfl,f,hg⟩,hq⟩:=h;obtain⟨a,xs,rfl,g,q⟩:=dn.tuple;exact⟨a,xs,rfl,g.sq,by rw[q.len];exact f,M,P,H0,σ0,env,ts,ds,R,nv,c,q,hg,hq⟩
def Hj(te:DE)(g:DG):DS:=λDD env=>te env λs a=>∃d,aL a s=some d/\g d a DD.nx
def D1(f:PE X e (up K te))(hg:PG X tg (upG K g))(i:Q1 [tg] e pos.line X.env=pure false:=by rfl)(hw:Q2 [tg] e X.env=pure none:=by rfl)
  (h1:(Qg [tg] X.env).map (·.2)=[QE tg X.env]:=by rfl):PS X (.Assign [tg] e pos) (upS K (Hj te g)):=(qP f hg i hw h1).imp λD σ H h=>by
 obtain⟨M,P,H0,σ0,env,ts,DD,nv,c,j,ok⟩:=h;refine⟨M,P,H0,σ0,env,ts,_,c,j,λs1 b v1 H1 h1 a=>?_⟩;obtain⟨d,k,hg⟩:=h1;exact⟨M,P,H0,σ0,b,ts,d,_,nv,a.drop,a.kept (v:=v1) (s:=s1) (!1) k,hg,λσ' env' H' hR r=>ok.nx _ _ _ hR r⟩
structure jL(K:cb)(J:It)(kp:List (V×Sl))(ds:List ah):Prop where
 go : ∀{M P:ao->Prop}{H0 H:Hp}{σ0 σ:St}{env:List Sl}{ts:List (V×Sl)},Rel K M P H0 σ0 σ env (ts++kp) H->∀i,i<ds.length->J.go i H
 yld:∀{M P:ao->Prop}{H0 H:Hp}{σ0 σ:St}{env:List Sl}{ts:List (V×Sl)},Rel K M P H0 σ0 σ env (ts++kp) H->∀i x H',(hi:i<ds.length)->J.yld i H x H'->be H H'/\DN K (Nw M (aG σ env (ts++kp))) H' x ds[i]
 stop:∀{M P:ao->Prop}{H0 H:Hp}{σ0 σ:St}{env:List Sl}{ts:List (V×Sl)},Rel K M P H0 σ0 σ env (ts++kp) H->J.stop ds.length H
 nv : zj kp
abbrev DI:=List Sl->(List ah->List Sl->Prop)->Prop
inductive upI (K:cb) (t:DI) (σ:St) (H:Hp) (R:It->Hp->Prop):Prop
 | mk (M P:ao->Prop) (H0:Hp) (σ0:St) (env:List Sl) (ts:List (V×Sl)) (RR:List ah->List Sl->Prop):Rel K M P H0 σ0 σ env ts H->t env RR ->
 (∀ds env' J H' kp,RR ds env'->Rel K M P H0 σ0 σ env' (ts++kp) H'->jL K J kp ds->R J H')->upI K t σ H R
def PI.imp(h:PI X tg iter t)(k:∀σ H R,t' σ H R->t σ H R):PI X tg iter t':=λpins s σ H R I hw=>h pins s σ H R I (k σ H R hw)
def bj(c:Rel K M P H0 σ0 σ env ts H)(m:(.ref a,.fr (if b then .tuple ds else .list ds))∈ts):∃xs,SqB K H b a xs/\DNs K (Nw M (aG σ env ts)) H xs ds:=by
 obtain⟨v,e,dn⟩:=c.e.fr _ _ (fh m);cases e;cases b with
 | false =>
  obtain⟨f,xs,e,d,q⟩:=DN.list dn;cases e;exact⟨xs,d.sq,q⟩
 | true =>
  obtain⟨f,xs,e,d,q⟩:=DN.tuple dn;cases e;exact⟨xs,d.sq,q⟩
def DNs.item(q:DNs K N H vs ds)(hi:i<ds.length):∃x,vs[i]? = some x/\DN K N H x ds[i]:=by
 have hv:i<vs.length:=by rw[q.len];exact hi
 obtain⟨e,h1,h2⟩:=q.get (Ji hv);rw[Ji hi] at h1;cases h1;exact⟨vs[i],Ji hv,h2⟩
def xW:zj [(v,Sl.fr d)]:=λw i m=>by rw[Jf] at m;cases m
def vC:jL K (Itl K a) [(.ref a,.fr (.list ds))] ds where
 go := λc i hi=>by
  obtain⟨xs,s,q⟩:=bj (b:=false) (a:=a) (ds:=ds) c (Jg _ (!1));obtain⟨x,e,_⟩:=q.item hi;exact⟨xs,x,s,e⟩
 yld:=λc i x H' hi y=>by
  obtain⟨xs,s,q⟩:=bj (b:=false) (a:=a) (ds:=ds) c (Jg _ (!1));obtain⟨e,y⟩:=y;subst e;obtain⟨f,d,dn⟩:=q.item hi;rw[y xs s] at d;cases d;exact⟨be.refl _,dn⟩
 stop:=λc=>by
  obtain⟨xs,s,q⟩:=bj (b:=false) (a:=a) (ds:=ds) c (Jg _ (!1));exact⟨xs,s,by rw[q.len];exact Jx _⟩
 nv := xW
def ik(lo:Int)(n:Nat):List ah:=(cu n).map λ(k:Nat)=>eb (lo+k)
def aA(lo:Int)(n:Nat):(ik lo n).length=n:=by simp[ik]
def bf(lo:Int)(n i:Nat)(h:i<(ik lo n).length):(ik lo n)[i]=.int (lo+i):=by simp[ik]
def sY{lo:Int}{n:Nat}:jL K (Itr lo n) [] (ik lo n) where
 go := λa i hi=>by rw[aA] at hi;exact hi
 yld:=λa i x H' hi y=>by
  obtain⟨e,y⟩:=y;subst e;rw[bf,y];exact⟨be.refl _,.int _⟩
 stop:=λa=>by rw[aA];exact Jx _
 nv := λw i m=>by cases m
def lh(ds:List ah):List ah:=ds.zipIdx.map λ(p:ah×Nat)=>hZ [.int p.2,p.1]
def aP(ds:List ah):(lh ds).length=ds.length:=by simp[lh]
def cH(ds:List ah)(i:Nat)(h:i<(lh ds).length):(lh ds)[i]=.tuple [.int i,ds[i]'(by rw[aP] at h;exact h)]:=by simp[lh]
def vD:jL K (Ite K b a) [(.ref a,.fr (if b then .tuple ds else .list ds))] (lh ds) where
 go := λc i hi=>by
  rw[aP] at hi;obtain⟨xs,s,q⟩:=bj (b:=b) (a:=a) (ds:=ds) c (Jg _ (!1));obtain⟨x,e,_⟩:=q.item hi;exact⟨xs,x,s,e⟩
 yld:=λ{M P H0 H σ0 σ env ts} c i x H' hi y=>by
  rw[cH];rw[aP] at hi;obtain⟨xs,s,q⟩:=bj (b:=b) (a:=a) (ds:=ds) c (Jg _ (!1));obtain⟨p,x1,rfl,d,rfl,y⟩:=y;obtain⟨g,f,dn⟩:=q.item hi;rw[y xs s] at f;cases f;exact⟨be.new d,DN.of2 (SnT.of aB (c.newAddr d)) (.int _) (dn.keep (aX.same (be.new d)))⟩
 stop:=λc=>by
  obtain⟨xs,s,q⟩:=bj (b:=b) (a:=a) (ds:=ds) c (Jg _ (!1));exact⟨xs,s,by rw[q.len,aP]⟩
 nv := xW
def wY(ds es:List ah):List ah:=List.zipWith (λd e=>hZ [d,e]) ds es
def df(ds es:List ah):(wY ds es).length=min ds.length es.length:=by simp[wY]
def yw{b c:Bool}{a g:ao}{ds es:List ah}:jL K (Itz K b c a g) [(.ref a,.fr (if b then .tuple ds else .list ds)),(.ref g,.fr (if c then .tuple es else .list es))] (wY ds es) where
 go := λd i hi=>by
  rw[df] at hi;obtain⟨xs,s,q⟩:=bj (b:=b) (a:=a) (ds:=ds) d (Jg _ (!1));obtain⟨f,s',q'⟩:=bj (b:=c) (a:=g) (ds:=es) d (Jg _ (!1));obtain⟨x,e,_⟩:=q.item (i:=i) (!0);obtain⟨n,o,_⟩:=q'.item (i:=i) (!0);exact⟨xs,f,x,n,s,s',e,o⟩
 yld:=λ{M P H0 H σ0 σ env ts} d i x H' hi y=>by
  have j:=hi;rw[df] at j;obtain⟨xs,s,q⟩:=bj (b:=b) (a:=a) (ds:=ds) d (Jg _ (!1));obtain⟨f,s',q'⟩:=bj (b:=c) (a:=g) (ds:=es) d (Jg _ (!1));obtain⟨p,x1,u,rfl,h,rfl,y1,r⟩:=y;obtain⟨v,e1,k⟩:=q.item (i:=i) (!0);obtain⟨z,e2,l⟩:=q'.item (i:=i) (!0);rw[y1 xs s] at e1;rw[r f s'] at e2;cases e1;cases e2;have t:(wY ds es)[i]=.tuple [ds[i]'(!0),es[i]'(!0)]:=by simp[wY]
  rw[t];exact⟨be.new h,DN.of2 (SnT.of aB (d.newAddr h)) (k.keep (aX.same (be.new h))) (l.keep (aX.same (be.new h)))⟩
 stop:=λd=>by
  obtain⟨xs,s,q⟩:=bj (b:=b) (a:=a) (ds:=ds) d (Jg _ (!1));obtain⟨f,s',q'⟩:=bj (b:=c) (a:=g) (ds:=es) d (Jg _ (!1));refine⟨xs,f,s,s',?_⟩;rw[q.len,q'.len,df];omega
 nv := λw i m=>by
  simp only[Jo,JR,or_false] at m;rcases m with m|m <;> cases m
end
section
variable {K:cb}{M P:ao->Prop}{H0 H H':Hp}{σ0 σ:St}{env:List Sl}{ts kp:List (V×Sl)}{v:V}{s:Sl}{X:Cx}{pos p:Pos}{e e1 tg iter:bb}{es:List bb}{te:DE}{tl:DA}
def rR(te:DE):DI:=λenv RR=>te env λs a=>∃ds,aL a s=some (.list ds)/\RR ds a
def aH(hK:X.K=K)(h:PE X e (up K te)):PI X tg e (upI K (rR te)):=(Ey (K:=K) hK h).imp λσ H R h=>by
 obtain⟨M,P,H0,σ0,env,ts,RR,c,f,hq⟩:=h;refine⟨M,P,H0,σ0,env,ts,_,c,f,λs1 d v1 H1 h1 b=>?_⟩;obtain⟨ds,k,hR⟩:=h1;have dn:=b.kept (v:=v1) (s:=s1) (!1) k;obtain⟨a,xs,rfl,g,q⟩:=dn.list;exact⟨a,rfl,⟨xs,g.sq⟩,hq _ _ _ _ _ hR (b.drop.addFr dn) vC⟩
def yT(ta:DA):DI:=λenv RR=>ta env λss a=>∃s j,ss=[s]/\aO a s=some (.int j)/\-4611686018427387904<=j/\j<4611686018427387904/\RR (ik 0 j.toNat) a
def cJ(hg:Gl X "range")(d:X.mg "range" = none)(f:PA X [e] (upA K tl))(g:j1 [e] X.env=[(false,eval e X.env)]:=by rfl):PI X tg (.Call (.Name "range" p) [e] [] pos) (upI K (yT tl)):=(uS hg d f g).imp λσ H R h=>by
 obtain⟨M,P,H0,σ0,env,ts,RR,b,i,hq⟩:=h;refine⟨M,P,H0,σ0,env,ts,_,b,i,λss c vs H1 h1 k a=>?_⟩;obtain⟨s,j,rfl,e1,l,m,hR⟩:=h1;obtain⟨v,rfl⟩:=mP k;have w:=(a.view (v:=v) (!1) e1).int;exact⟨j,by rw[w],l,m,hq _ _ _ _ [] hR (by simpa using a.drop) sY⟩
def sqD(b:Bool)(ds:List ah):ah:=if b then .tuple ds else .list ds
def yX(b:Bool)(ta:DA):DI:=λenv RR=>ta env λss a=>∃s ds,ss=[s]/\aL a s=some (sqD b ds)/\RR (lh ds) a
def fT(b:Bool)(hK:X.K=K)(hg:Gl X "enumerate")(l:X.mg "enumerate" = none)(m:PA X [e] (upA K tl))(n:j1 [e] X.env=[(false,eval e X.env)]:=by rfl) :
  PI X (.Tuple es j d) (.Call (.Name "enumerate" p) [e] [] pos) (upI K (yX b tl)):=(Ez (K:=K) hK b hg l m n).imp λσ H R h=>by
 obtain⟨M,P,H0,σ0,env,ts,RR,f,o,hq⟩:=h;refine⟨M,P,H0,σ0,env,ts,_,f,o,λss g vs H1 h1 q c=>?_⟩;obtain⟨s,ds,rfl,k,hR⟩:=h1;obtain⟨v,rfl⟩:=mP q;have dn:=c.kept (v:=v) (s:=s) (!1) k;have i:=c.drop.addFr dn;have hv:∃a,v=.ref a:=by
  cases b with
  | false=>obtain⟨a,_,e,_⟩:=DN.list dn;exact⟨a,e⟩
  | true=>obtain⟨a,_,e,_⟩:=DN.tuple dn;exact⟨a,e⟩
 obtain⟨a,rfl⟩:=hv;obtain⟨xs,sq,_⟩:=bj (b:=b) (a:=a) (ds:=ds) i (Jg _ (by simp[sqD]));exact⟨a,xs,rfl,sq,hq _ _ _ _ _ hR i vD⟩
def Ha(b c:Bool)(ta:DA):DI:=λenv RR=>ta env λss a=>∃s s' ds es,ss=[s,s']/\aL a s=some (sqD b ds)/\aL a s'=some (sqD c es)/\RR (wY ds es) a
def Rel.dropMid(h:Rel K M P H0 σ0 σ env (ts++kp++[t]) H):Rel K M P H0 σ0 σ env (ts++[t]) H:=by
 refine⟨?_,h.len,λw i m=>h.vw w i (by
  rcases Jj.mp m with m|m
  .exact Jl _ (Jl _ m)
  .exact Jg _ m),h.ios⟩
 have hE:=h.e;rw[aC,aC] at hE;rw[aC];refine hE.sub (λx s m=>.inl ?_) ?_
 .rcases Jj.mp m with m|m
  .exact Jl _ (Jl _ m)
  .exact Jg _ m
 .have nd:=hE.nd;rw[am,am] at nd;rw[am];obtain⟨a,b,c⟩:=Ju.mp nd;exact Ju.mpr ⟨(Ju.mp a).1,b,λx hx y d=>c x (Jl _ hx) y d⟩
def FD(ds:List ah)(g:DG)(tb:DS):DS:=λDD env=>∃W:Nat->List Sl->Prop,W 0 env /\
 (∀i env,(h:i<ds.length)->W i env->g ds[i] env λa=>tb { DD with nx:=dI (W (i+1)) ⟨⟩,ct:=dI (W (i+1)) ⟨⟩,bk:=DD.nx } a)/\∀env,W ds.length env->DD.nx env
def FN(it:DI)(g:DG)(tb:DS):DS:=λDD env=>it env λds a=>FD ds g tb DD a
def dD(o:PassesOwn (kw X.prog X.w) X.A X.env X.xe)(hc:X.calm=true)(hi:PI X tg iter (upI K it))(hg:PG X tg (upG K g))(p:PSs X body (upS K tb))(t:∀x,Qm iter X.env x=pure x:=by intro _;rfl) :
  PS X (.For tg iter body [] pos) (upS K (FN it g tb)):=(uO o hc hi hg p t).imp λD σ H h=>by
 obtain⟨M,P,H0,σ0,env,ts,DD,nv,l,u,ok⟩:=h;refine⟨M,P,H0,σ0,env,ts,_,l,u,λds d J H1 kp hF f io=>?_⟩;obtain⟨W,z,turn,done⟩:=hF;have j:zj (ts++kp):=λw i m=>by
  rcases Jj.mp m with m|m
  .exact nv w i m
  .exact io.nv w i m
 refine⟨λi m σ H=>m=ds.length - i/\i<=ds.length/\∃env,W i env/\Rel K M P H0 σ0 σ env (ts++kp) H,⟨_,rfl,JD _,d,z,f⟩,?_⟩;rintro i m B H2 ⟨rfl,C,c,n,a⟩;by_cases b:i<ds.length
 .refine .inr ⟨io.go a i b,λσ' H'=>∃env',W (i+1) env'/\Rel K M P H0 σ0 σ' env' (ts++kp) H',λσ' H' ⟨env',w',E⟩=>⟨ds.length - (i+1),!0,rfl,b,env',w',E⟩,λx F y=>?_⟩;obtain⟨G,dn⟩:=io.yld a i x F b y;have k:=a.same G;refine⟨M,P,H0,σ0,c,ts++kp,ds[i],_,j,k,dn,turn i c b n,λσ' env' H' hR r=>?_⟩;refine⟨M,P,H0,σ0,env',ts++kp,_,j,r,hR,⟨λσ' env' H' q r=>⟨env',q,r⟩,λs env' v σ' H' q r=>ok.rt s env' v σ' H' q r.dropMid,λσ' env' H' q r=>ok.nx _ _ _ q r.drop,λσ' env' H' q r=>⟨env',q,r⟩⟩⟩
 .have e:i=ds.length:=!0
  subst e;exact .inl ⟨io.stop a,ok.nx _ _ _ (done _ n) a.drop⟩
def Ag(c:DT)(tb:DS):DS:=λDD env=>∃W:Nat->List Sl->Prop,(∃m,W m env)/\∀m env,W m env ->
 c env λk a=>if k=true then tb { DD with nx:=dI (λenv'=>∃b,b<m/\W b env') ⟨⟩,ct:=dI (λenv'=>∃b,b<m/\W b env') ⟨⟩,bk:=DD.nx } a else DD.nx a
def cg(i:PassesOwn (kw X.prog X.w) X.A X.env X.xe)(hc:PT X c (upT K tc))(j:PSs X body (upS K tb)):PS X (.While c body [] pos) (upS K (Ag tc tb)):=(xJ i hc j).imp λD σ H h=>by
 obtain⟨M,P,H0,σ0,env,ts,DD,nv,g,⟨W,⟨l,n⟩,turn⟩,ok⟩:=h;refine⟨λm σ H=>∃env,W m env/\Rel K M P H0 σ0 σ env ts H,⟨l,env,n,g⟩,?_⟩;rintro m o H2 ⟨a,p,d⟩;refine⟨M,P,H0,σ0,a,ts,_,d,turn m a p,λk e u h3 b=>?_⟩;cases k with
 | false=>exact ok.nx _ _ _ h3 b
 | true =>
  refine⟨λσ' H'=>∃env',(∃f,f<m/\W f env')/\Rel K M P H0 σ0 σ' env' ts H',λσ' H' ⟨env',⟨f,s,w'⟩,t⟩=>⟨f,s,env',w',t⟩,?_⟩;exact⟨M,P,H0,σ0,e,ts,_,nv,b,h3,⟨λσ' env' H' q r=>⟨env',q,r⟩,ok.rt,λσ' env' H' q r=>ok.nx _ _ _ q r,λσ' env' H' q r=>⟨env',q,r⟩⟩⟩
end
def nC:Option Sl->Sl
 | some (.fr d)=>.fr d
 | _=>.un
def Hn(env:List Sl):Option Nat->Sl
 | none=>.un
 | some j=>nC env[j]?
def iH(ix:List (Option Nat))(env:List Sl):List Sl:=ix.map (Hn env)
theorem iu{α β b:Type}{f:α->β}{g:α->b}:∀{l:List α}{x:β}{y:b},(x,y)∈(l.map f).zip (l.map g)->∃o∈l,x=f o/\y=g o
 | [],_,_,h=>by simp at h
 | a :: l,x,y,h=>by
  have h:(x,y)∈(f a,g a)::(l.map f).zip (l.map g):=h;rcases Jo.mp h with h|h
  .cases h;exact⟨a,Jm,rfl,rfl⟩
  .obtain⟨o,ho,e⟩:=iu h;exact⟨o,Jq _ ho,e⟩
def Af:DT:=λenv R=>R true env
def PIf.imp(h:PIf X ifs t)(k:∀σ H Q,t' σ H Q->t σ H Q):PIf X ifs t':=λpins s σ H Q I hw=>h pins s σ H Q I (k σ H Q hw)
def aM{X:Cx}{K:cb}:PIf X [] (upT K Af):=Bp.imp λσ H Q h=>by
 obtain⟨M,P,H0,σ0,env,ts,R,a,b,hq⟩:=h;exact hq _ _ _ b a
def dB{X:Cx}{K:cb}{c:bb}{t:DT}(h:PT X c (upT K t)):PIf X [c] (upT K t):=Bo h
section
variable {K:cb}{M P:ao->Prop}{H0 H:Hp}{σ0 σ:St}{env:List Sl}{ts:List (V×Sl)}{v:V}{s:Sl}{d:ah}
def eH(a:Rel K M P H0 σ0 σ env ts H)(m:(x,s)∈(eN σ ix).zip (iH ix env)):s=.un\/∃d v,s=.fr d/\x=some v/\DN K (Nw M (aG σ env ts)) H v d:=by
 obtain⟨o,_,e1,e2⟩:=iu m;cases o with
 | none=>exact .inl e2
 | some j =>
  have e2:s=nC env[j]?:=e2;cases q:env[j]? with
  | none=>rw[q] at e2;exact .inl e2
  | some s' =>
   rw[q] at e2;cases s' with
   | fr d =>
    obtain⟨c,e3,b⟩:=a.slot q;obtain⟨v,e4,dn⟩:=a.e.fr _ _ b;refine .inr ⟨d,v,e2,?_,dn⟩;rw[e1];show(σ[j]?).join=_;rw[e3,e4];rfl
   | _=>exact .inl e2
def pL(a:Rel K M P H0 σ0 σ env ts H):oas ((eN σ ix).zip (iH ix env))=[]:=by
 unfold oas;rw[pp];rintro⟨x,s⟩ m;rcases eH a m with e|⟨d,v,e,e2,_⟩
 .subst e;exact gR _
 .subst e e2;exact d9 _ _
def wj(c:Rel K M P H0 σ0 σ env ts H):Rel K (Nw M (aG σ env ts)) (λ_=>False) H (eN σ ix) (eN σ ix) (iH ix env) [] H:=by
 have g:=pL (ix:=ix) c;have f:aG (eN σ ix) (iH ix env) []=(eN σ ix).zip (iH ix env):=by simp[aG,tmp]
 refine⟨⟨aX.refl,λa q=>q,λa z hn=>c.newAddr hn z,λa z=>z.elim,λx d m=>?_,λx l m=>?_,λx l m=>?_,λx S l m=>?_,by rw[f,g];exact Ki⟩,by simp[eN,iH],λw i m=>(by cases m),λi l e=>rfl⟩
 rotate_right
 .rw[f] at m;rcases eH c m with e|⟨d',v,e,e2,dn⟩ <;> cases e
 .rw[f] at m;rcases eH c m with e|⟨d',v,e,e2,dn⟩
  .cases e
  .cases e;refine⟨v,e2,dn.to λb _ _ z=>?_⟩;rcases z with z|z
   .exact z
   .rw[f,g] at z;cases z
 .rw[f] at m;rcases eH c m with e|⟨d',v,e,e2,dn⟩ <;> cases e
 .rw[f] at m;rcases eH c m with e|⟨d',v,e,e2,dn⟩ <;> cases e
def y7(c:Rel K M P H0 σ0 σ env ts H)(hk:ix[k]? = some (some j))(p:env[j]? = some o)(r:gQ o=some l)(s:σ[j]? = some (some (.ref a))) :
  Rel K (Nw M (aG σ env ts)) (λb=>b=a) H (eN σ ix) (eN σ ix) ((iH ix env).set k (.io l)) [] H:=by
 have n:=pL (ix:=ix) c;have D:=wj (ix:=ix) c;have E:k<ix.length:=(Js.mp hk).1;have F:(iH ix env)[k]? = some .un:=by unfold iH;rw[JE,hk];show some (nC env[j]?)=_;rw[p];cases o <;> first|rfl|cases r
 have es:(eN σ ix)[k]? = some (some (.ref a)):=by unfold eN;rw[JE,hk];show some ((σ[j]?).join)=_;rw[s];rfl
 obtain⟨x,A,B,e1,q1,q2⟩:=D.split F;rw[es] at e1;cases e1;have y:aG (eN σ ix) (iH ix env) []=(eN σ ix).zip (iH ix env):=by simp[aG,tmp]
 have f:oas A=[]/\oas B=[]:=by rw[<-y,q1,am,ar] at n;have n:oas A++oas B=[]:=n;exact List.append_eq_nil_iff.mp n
 obtain⟨L,us,g,G,I⟩:=c.mine p r;rw[s] at g;cases g;have C:Nw M (aG σ env ts) a:=by obtain⟨x,e1,J⟩:=c.slot p;rw[s] at e1;cases e1;refine .inr (bh.mpr ⟨_,J,?_⟩);exact(qS r).2 a
 have h:oas (A++(some (.ref a),Sl.io l)::B)=[a]:=by rw[am,ar,f.1,f.2];rfl
 have ne:∀b,Nw (Nw M (aG σ env ts)) (A++(some (.ref a),Sl.io l)::B) b->Nw M (aG σ env ts) b:=λb z=>by
  rcases z with z|z
  .exact z
  .rw[h,Jf] at z;rw[z];exact C
 have old:∀x t,(x,t)∈A++(some (.ref a),Sl.io l)::B->(x,t)=(some (.ref a),Sl.io l)\/(x,t)∈(eN σ ix).zip (iH ix env):=λx t m=>by
  rw[<-y,q1];rcases Jj.mp m with m|m
  .exact .inr (Jl _ m)
  .rcases Jo.mp m with m|m
   .exact .inl m
   .exact .inr (Jg _ (Jq _ m))
 refine⟨⟨aX.refl,λa q=>q,λa z hn=>c.newAddr hn z,λb z=>by rw[z];exact C,λx d m=>?_,λx u m=>?_,λx u m=>?_,λx S u m=>?_,by rw[q2,h];simp⟩,by simp[eN,iH],λw i m=>(by cases m),λi u e=>rfl⟩
 rotate_right
 .rw[q2] at m;rcases old _ _ m with m|m
  .cases m
  .rcases eH c m with e|⟨d',v,e,e2,dn⟩ <;> cases e
 .rw[q2] at m ⊢;rcases old _ _ m with m|m
  .cases m
  .rcases eH c m with e|⟨d',v,e,e2,dn⟩
   .cases e
   .cases e;exact⟨v,e2,dn.to λb _ _ z=>ne b z⟩
 .rw[q2] at m;rcases old _ _ m with m|m
  .cases m
  .rcases eH c m with e|⟨d',v,e,e2,dn⟩ <;> cases e
 .rw[q2] at m ⊢;rcases old _ _ m with m|m
  .cases m;exact⟨a,us,rfl,G,I.to λb _ _ z=>ne b z,rfl⟩
  .rcases eH c m with e|⟨d',v,e,e2,dn⟩ <;> cases e
end
def CD(ds:List ah)(ix:List (Option Nat))(g:DG)(tt:DT)(te:DE)(env:List Sl)(R:Sl->List Sl->Prop):Prop:=∃W:Nat->List ah->Prop,W 0 [] /\
 (∀i rs,(h:i<ds.length)->W i rs->rs.length<sizeLine/\g ds[i] (iH ix env) λa=>tt a λk b=>if k=true then te b λs c=>∃d,aL c s=some d/\W (i+1) (rs++[d]) else W (i+1) rs)/\∀rs,W ds.length rs->R (.ow rs) env
def tp(it:DI)(ix:List (Option Nat))(g:DG)(tt:DT)(te:DE):DE:=λenv R=>it env λds a=>CD ds ix g tt te a (dK R ⟨⟩)
def CD1(k j:Nat)(ds:List ah)(ix:List (Option Nat))(g:DG)(tt:DT)(te:DE)(env:List Sl)(R:Sl->List Sl->Prop):Prop:=∃W:Nat->List ah->List ah->Prop,∃b c,env[j]? = some b/\gQ b=some c/\W 0 [] c /\
 (∀i rs l,(h:i<ds.length)->W i rs l->rs.length<sizeLine/\∃s,cN b l=some s/\g ds[i] ((iH ix (env.set j s)).set k (.io l)) λm=>tt m λn e=>if n=true then te e λs f=>∃d a,aL f s=some d/\f[k]? = some (.io a)/\W (i+1) (rs++[d]) a else ∃a,e[k]? = some (.io a)/\W (i+1) rs a) /\
 ∀rs l,W ds.length rs l->∃s,cN b l=some s/\R (.ow rs) (env.set j s)
def rT(k j:Nat)(it:DI)(ix:List (Option Nat))(g:DG)(tt:DT)(te:DE):DE:=λenv R=>it env λds a=>CD1 k j ds ix g tt te a (dK R ⟨⟩)
section
variable {K:cb}
def wg:∀σ H Q,up K (tp it ix g tt te) σ H Q->xj (upI K it) ix (upG K g) (upT K tt) (up K te) σ H Q:=λσ H Q h=>by
 obtain⟨M,P,H0,σ0,env,ts,R,B,L,hq⟩:=h;refine⟨M,P,H0,σ0,env,ts,_,B,L,λds f J H1 kp hF t io=>?_⟩;obtain⟨W,N,turn,done⟩:=hF;refine⟨λi m ys H=>m=ds.length - i/\i<=ds.length/\∃rs,W i rs/\DNs K (Nw M (aG σ f (ts++kp))) H ys rs/\Rel K M P H0 σ0 σ f (ts++kp) H,⟨_,rfl,JD _,[],N,.nil,t⟩,?_⟩;rintro i m ys H2 ⟨rfl,O,rs,F,l,j⟩;by_cases n:i<ds.length
 .obtain⟨hz,tr⟩:=turn i rs n F;refine .inr ⟨io.go j i n,by rw[l.len];exact hz,λu H'=>∃o,W (i+1) o/\DNs K (Nw M (aG σ f (ts++kp))) H' u o/\Rel K M P H0 σ0 σ f (ts++kp) H',λu H' ⟨o,a,b,c⟩=>⟨ds.length - (i+1),!0,rfl,n,o,a,b,c⟩,λx C y=>?_⟩;obtain⟨D,dn⟩:=io.yld j i x C n y;have k:=j.same D;have S:=wj (ix:=ix) k;have T:=pL (ix:=ix) k;have U:∀b,Nw (Nw M (aG σ f (ts++kp))) (aG (eN σ ix) (iH ix f) []) b->Nw M (aG σ f (ts++kp)) b:=λb z=>by
   rcases z with z|z
   .exact z
   .have V:aG (eN σ ix) (iH ix f) []=(eN σ ix).zip (iH ix f):=by simp[aG,tmp]
    rw[V,T] at z;cases z
  refine⟨_,_,_,_,iH ix f,[],ds[i],_,λw i m=>(by cases m),S,dn.to λb _ _ z=>U b z,tr,λX Y H4 h4 A=>?_⟩;refine⟨_,_,_,_,Y,[],_,A,h4,λZ b2 H5 h5 q=>?_⟩;cases Z with
  | false =>
   have G:be C H5:=(q.e.keep.mono (M:=N0) λb z=>z).none;exact⟨rs,h5,l.keep (aX.same (D.trans G)),k.same G⟩
  | true =>
   refine⟨_,_,_,_,b2,[],_,q,h5,λs b3 v H6 h6 r=>?_⟩;obtain⟨d,kd,w6⟩:=h6;have I:be C H6:=(r.e.keep.mono (M:=N0) λb z=>z).none;have E:=r.kept (ts:=[]) (tt:=[]++[(v,s)]) (v:=v) (s:=s) (!1) kd;exact⟨rs++[d],w6,(l.keep (aX.same (D.trans I))).app (.cons (E.to λb _ _ z=>.inl z) .nil),k.same I⟩
 .have e:i=ds.length:=!0
  subst e;exact .inl ⟨io.stop j,λp hp=>hq _ _ _ _ (done _ F) (j.resOw hp l)⟩
def y3(hk:ix[k]? = some (some j)):∀σ H Q,up K (rT k j it ix g tt te) σ H Q->xj (upI K it) ix (upG K g) (upT K tt) (up K te) σ H Q:=λσ H Q h=>by
 obtain⟨M,P,H0,σ0,env,ts,R,b0,ht,hq⟩:=h;refine⟨M,P,H0,σ0,env,ts,_,b0,ht,λds f J H1 kp hF o io=>?_⟩;obtain⟨W,C,l0,Z,eo,w0,turn,done⟩:=hF;have L:j<f.length:=(Js.mp Z).1;have a0:cN C l0=some C:=(qS eo).1;have env0:f.set j C=f:=by rw[<-(Js.mp Z).2];exact List.set_getElem_self L
 obtain⟨a,e0,ea,_,_⟩:=o.mine Z eo;have N:∀{ls:List ah}{s:Sl},cN C ls=some s->Nw M (aG σ (f.set j s) (ts++kp))=Nw M (aG σ f (ts++kp)):=λ{ls s} es=>by
  obtain⟨x,A,B,e3,D,O⟩:=o.split Z;rw[ea] at e3;cases e3;rw[D,O];have oa:cK (some (.ref a),C)=[a]/\cK (some (.ref a),s)=[a]:=by exact gE (jZ es).1
  unfold Nw;rw[am,am,ar,ar,oa.1,oa.2]
 refine⟨λi m ys H=>m=ds.length - i/\i<=ds.length/\∃rs l s,cN C l=some s/\W i rs l/\DNs K (Nw M (aG σ f (ts++kp))) H ys rs/\Rel K M P H0 σ0 σ (f.set j s) (ts++kp) H,⟨_,rfl,JD _,[],l0,C,a0,w0,.nil,by rw[env0];exact o⟩,?_⟩;rintro i m ys H2 ⟨rfl,f0,rs,l,s,es,w2,S,r⟩;by_cases E:i<ds.length
 .obtain⟨hz,s',n,tr⟩:=turn i rs l E w2;rw[es] at n;cases n;have a3:gQ s=some l:=(jZ es).2;have T:(f.set j s)[j]? = some s:=JK L;refine .inr ⟨io.go r i E,by rw[S.len];exact hz,λa4 H'=>∃F u s',cN C u=some s'/\W (i+1) F u/\DNs K (Nw M (aG σ f (ts++kp))) H' a4 F/\Rel K M P H0 σ0 σ (f.set j s') (ts++kp) H',
   λa4 H' ⟨F,u,s',z,a,b,c⟩=>⟨ds.length - (i+1),!0,rfl,E,F,u,s',z,a,b,c⟩,λx H3 y=>?_⟩
  obtain⟨sm,dn⟩:=io.yld r i x H3 E y;have t:=r.same sm;have rb:=y7 (ix:=ix) t hk T a3 ea;have ma:Nw M (aG σ (f.set j s) (ts++kp)) a:=by obtain⟨x,e1,mm⟩:=t.slot T;rw[ea] at e1;cases e1;refine .inr (bh.mpr ⟨_,mm,?_⟩);exact(qS a3).2 a
  have nb:∀b,Nw (Nw M (aG σ (f.set j s) (ts++kp))) (aG (eN σ ix) ((iH ix (f.set j s)).set k (.io l)) []) b->Nw M (aG σ (f.set j s) (ts++kp)) b:=λb z=>by
   rcases z with z|z
   .exact z
   .obtain⟨_,_,hP⟩:=rb.e.own z;rcases hP with q|q
    .obtain⟨vs,q2,_⟩:=rb.e.own z;rw[q] at q2;cases q2
    .rw[q];exact ma
  have after:∀{U:St}{b3:List Sl}{t3:List (V×Sl)}{X:Hp}{u:List ah},Rel K (Nw M (aG σ (f.set j s) (ts++kp))) (λb=>b=a) H3 (eN σ ix) U b3 t3 X->b3[k]? = some (.io u) ->
    ∃s',cN C u=some s'/\Rel K M P H0 σ0 σ (f.set j s') (ts++kp) X/\∀{ys:List V}{rs:List ah},DNs K (Nw M (aG σ f (ts++kp))) H3 ys rs->DNs K (Nw M (aG σ f (ts++kp))) X ys rs:=λ{U b3 t3 X u} Y e6=>by
   obtain⟨x6,e7,m7⟩:=Y.slot e6;have e8:=Y.ios _ _ e6;have a5:(eN σ ix)[k]? = some (some (.ref a)):=by unfold eN;rw[JE,hk];show some ((σ[j]?).join)=_;rw[ea];rfl
   rw[e7,a5] at e8;cases e8;obtain⟨a',b4,z,b5,b6,_⟩:=Y.e.io _ _ m7;cases z;obtain⟨x,A,B,e3,D,O⟩:=t.split T;rw[ea] at e3;cases e3;have c3:∃s',cN C u=some s'/\B7 s u s':=by
    obtain⟨d0,rfl⟩|⟨d0,rfl⟩:(∃d0,C=.ow d0)\/∃d0,C=.io d0:=(dq (jZ es).1).imp (λ⟨d,e,_⟩=>⟨d,e⟩) λ⟨d,e,_⟩=>⟨d,e⟩
    .cases es;exact⟨_,rfl,rfl⟩
    .cases es;exact⟨_,rfl,rfl⟩
   obtain⟨s',n,c4⟩:=c3;have hE:=t.e;rw[D] at hE;have c5:DNs K (Nw M (A++(some (.ref a),s)::B)) X b4 u:=b6.to λb _ _ z=>.inl (by rw[D];exact z);have hM:=hE.muted c4 Y.e.keep Y.e.live b5 c5;rw[<-O] at hM;have e9:(f.set j s).set j s'=f.set j s':=List.set_set ..;refine⟨s',n,⟨by rw[<-e9];exact hM,by simp[o.len],t.vw,λq l2 e'=>?_⟩,λ{ys rs} q=>q.keep (Y.e.keep.mono λb z=>?_)⟩
   .by_cases hj:j=q
    .subst hj;rw[JK L] at e';cases e';obtain⟨c6,rfl⟩:=ur n;exact o.ios _ c6 Z
    .rw[JJ hj] at e';exact o.ios q l2 e'
   .rw[z,<-N es];exact ma
  have a6:=S.keep (aX.same sm);refine⟨_,_,_,_,_,[],ds[i],_,λw i m=>(by cases m),rb,dn.to λb _ _ z=>nb b z,tr,λU b1 H4 h4 a7=>?_⟩;refine⟨_,_,_,_,b1,[],_,a7,h4,λkk b2 H5 h5 G=>?_⟩;cases kk with
  | false =>
   obtain⟨u,e5,w5⟩:=h5;obtain⟨s',n,r',kd⟩:=after G e5;exact⟨rs,u,s',n,w5,kd a6,r'⟩
  | true =>
   refine⟨_,_,_,_,b2,[],_,G,h5,λs6 b3 v X h6 I=>?_⟩;obtain⟨d,u,d3,e6,w6⟩:=h6;obtain⟨s',n,r',kd⟩:=after I e6;have d4:=I.kept (ts:=[]) (tt:=[]++[(v,s6)]) (v:=v) (s:=s6) (!1) d3;exact⟨rs++[d],u,s',n,w6,(kd a6).app (.cons (d4.to λb _ _ z=>.inl (by rw[N es];exact z)) .nil),r'⟩
 .have e:i=ds.length:=!0
  subst e;refine .inl ⟨io.stop r,λp hp=>?_⟩;obtain⟨s',n,hR⟩:=done _ _ w2;rw[es] at n;cases n;exact hq _ _ _ _ hR (r.resOw hp (by rw[N es];exact S))
end
section
variable {K:cb}{X:Cx}{N':List bt}{ix:List (Option Nat)}{sc:Qn}{tg iter elt:bb}{ifs:List bb}{pos:Pos}{it:DI}{g:DG}{tt:DT}{te:DE}
def bF(hc:X.calm=true)(S:cI X.N X.env N' ix sc)(hi:PI X tg iter (upI K it))
  (hg:∀s H C fp,PG (bCx X N' sc s H C fp) tg (upG K g)) (a:∀s H C fp,PIf (bCx X N' sc s H C fp) ifs (upT K tt)) (b:∀s H C fp,PE (bCx X N' sc s H C fp) elt (up K te))
  (c:∀x,Qm iter X.env x=pure x:=by intro _;rfl):PE X (.ListComp elt [⟨tg,iter,ifs,0⟩] sc pos) (up K (tp it ix g tt te)):=(Bw hc S hi hg a b c).imp wg
def zJ(h:∀σ H Q,up K c σ H Q->t σ H Q):∀D σ H,upS K (Ah i c) D σ H->Du t (pC i) D σ H:=λD σ H e=>by
 obtain⟨M,P,H0,σ0,env,ts,DD,nv,b,f,ok⟩:=e;refine h _ _ _ ⟨M,P,H0,σ0,env,ts,_,b,f,λs1 d v1 H1 h1 a=>?_⟩;obtain⟨s',g,es,hR⟩:=h1;obtain⟨r,cs⟩:=a.unVw es;exact ok.nx _ _ _ hR (r.store nv g cs)
def bV{a d:Pos}(hN:X.N.Nodup)(b:X.N[i]? = some y)(e:X.env.scope.names.lookup y=some .local)(hc:X.calm=true)(S:cI X.N X.env N' ix sc)(hi:PI X tg iter (upI K it))
  (hg:∀s H C fp,PG (bCx X N' sc s H C fp) tg (upG K g)) (f:∀s H C fp,PIf (bCx X N' sc s H C fp) ifs (upT K tt)) (h:∀s H C fp,PE (bCx X N' sc s H C fp) elt (up K te))
  (c:Q4 (.ListComp elt [⟨tg,iter,ifs,0⟩] sc pos) (some (.Name y d)) a.line X.env=pure true:=by rfl)
  (j:∀x,Qm iter X.env x=pure x:=by intro _;rfl):PS X (.Assign [.Name y d] (.ListComp elt [⟨tg,iter,ifs,0⟩] sc pos) a) (upS K (Ah i (tp it ix g tt te))):=(j8 hN b e hc S hi hg f h c j).imp (zJ wg)
def gO{a d:Pos}(k j:Nat)(hk:ix[k]? = some (some j))(hN:X.N.Nodup)(b:X.N[i]? = some y)(e:X.env.scope.names.lookup y=some .local)(hc:X.calm=true)(S:cI X.N X.env N' ix sc)(hi:PI X tg iter (upI K it))
  (hg:∀s H C fp,PG (bCx X N' sc s H C fp) tg (upG K g)) (f:∀s H C fp,PIf (bCx X N' sc s H C fp) ifs (upT K tt)) (h:∀s H C fp,PE (bCx X N' sc s H C fp) elt (up K te))
  (c:Q4 (.ListComp elt [⟨tg,iter,ifs,0⟩] sc pos) (some (.Name y d)) a.line X.env=pure true:=by rfl)
  (l:∀x,Qm iter X.env x=pure x:=by intro _;rfl):PS X (.Assign [.Name y d] (.ListComp elt [⟨tg,iter,ifs,0⟩] sc pos) a) (upS K (Ah i (rT k j it ix g tt te))):=(j8 hN b e hc S hi hg f h c l).imp (zJ (y3 hk))
end
def zn:ah->Option Bool
 | .none=>some false
 | .bool b=>some b
 | .int i=>some (i != 0)
 | .list ds=>some (!ds.isEmpty)
 | .tuple ds=>some (!ds.isEmpty)
 | _=>none
section
variable {K:cb}{M P N:ao->Prop}{H0 H:Hp}{σ0 σ:St}{env:List Sl}{ts:List (V×Sl)}{v:V}{s:Sl}{d:ah}{X:Cx}{pos:Pos}{e e1 e2 a:bb}{es:List bb}{te tj:DE}
def DNs.emp(q:DNs K N H vs ds):vs.isEmpty=ds.isEmpty:=by cases q <;> rfl
def Vw.tru(w:Vw K N H v d)(e:zn d=some k):FQ K v H k:=by
 cases d with
 | none=>cases e;rw[w.none];rfl
 | bool b=>cases e;rw[w.bool];rfl
 | int b=>cases e;rw[w.int];rfl
 | list ds =>
  cases e;obtain⟨a,vs,rfl,s,q⟩:=w.list;exact .inl ⟨vs,s,by rw[q.emp]⟩
 | tuple ds =>
  cases e;obtain⟨a,vs,rfl,s,q⟩:=w.tuple;exact .inr (.inl ⟨vs,s,by rw[q.emp]⟩)
 | _=>cases e
def rQ(te:DE):DT:=λenv R=>te env λs a=>∃d k,aO a s=some d/\zn d=some k/\R k a
def gp(hK:X.K=K)(g:PE X a (up K te))(i:∀b,Zg a X.env b=(do let v <-b;QV a.pos;Qk [v] (ZO v)):=by intro _;rfl):PT X a (upT K (rQ te)):=(zZ (K:=K) hK g i).imp λσ H Q h=>by
 obtain⟨M,P,H0,σ0,env,ts,R,e,j,hq⟩:=h;refine⟨M,P,H0,σ0,env,ts,_,e,j,λs1 f v1 H1 h1 c=>?_⟩;obtain⟨d,k,e1,e2,hR⟩:=h1;exact⟨k,(c.view (v:=v1) (!1) e1).tru e2,hq _ _ _ hR c.drop⟩
def vY(i:Nat)(tj te:DE):DS:=λDD env=>te env λs b=>(∃ds,(b[i]?).bind gQ=some ds)/\tj b λe a=>∃d c ds z j s',aL a s=some d/\aO a e=some (.int z)/\a[i]? = some c/\gQ c=some ds/\ixN ds.length z=some j /\
 cN c (ds.set j d)=some s'/\DD.nx (a.set i s')
theorem DNs.set:∀{vs:List V}{ds:List ah}{x:V}{d:ah} (j:Nat),DNs K N H vs ds->DN K N H x d->DNs K N H (vs.set j x) (ds.set j d)
 | _,_,_,_,_,.nil,_=>.nil
 | _,_,_,_,0,.cons _ q,h=>.cons h q
 | _,_,_,_,j+1,.cons g q,h=>.cons g (q.set j h)
def uK(i:Nat){y:bt}{npos b:Pos}{j:bb}(hN:X.N[i]? = some y)(hj:PE X j (up K tj))(x:PE X e (up K te))
  (hv:Vis X.env.scope y:=by first|exact lA rfl|exact di ci|exact di (di rfl)) (hd:(y==("__debug__" : bt))=false:=by decide)
  (o:(y==("__classdict__" : bt))=false:=by decide)
  (A:∀v,QE (.Subscript (.Name y npos) j b) X.env v=(do
   let ov <-Qk [v] (eval (.Name y npos) X.env)
   let iv <-Qk [v,ov] (eval j X.env)
   QV b
   Qk [v,ov,iv] (Q7 ov iv v)
   ZK [v,ov,iv] []):=by intro _;rfl)
  (B:Q1 [.Subscript (.Name y npos) j b] e pos.line X.env=pure false:=by rfl) (hw:Q2 [.Subscript (.Name y npos) j b] e X.env=pure none:=by rfl)
  (h1:(Qg [.Subscript (.Name y npos) j b] X.env).map (·.2)=[QE (.Subscript (.Name y npos) j b) X.env]:=by rfl):PS X (.Assign [.Subscript (.Name y npos) j b] e pos) (upS K (vY i tj te)) :=
 (qP x (uU (bG hN hv hd o) hj xy A) B hw h1).imp λD σ H h=>by
 obtain⟨M,P,H0,σ0,env,ts,DD,nv,p,C,ok⟩:=h;refine⟨M,P,H0,σ0,env,ts,_,p,C,λs1 l v1 H1 h1 f=>?_⟩;obtain⟨⟨E,F⟩,h1⟩:=h1;obtain⟨O,G,I⟩:=lF F;obtain⟨a,vs,r,Q,_⟩:=f.mine G I;refine⟨.ref a,r,M,P,H0,σ0,l,ts++[(v1,s1)],_,f,h1,λs2 m u H2 h2 g=>?_⟩;obtain⟨d,R,ds,z,w,s',k,J,e2,L,ix,es,hR⟩:=h2;have c:Rel K M P H0 σ0 σ m (ts++[(v1,s1),(u,s2)]) H2:=by simpa using g
 obtain⟨S,us,n,t,q⟩:=c.drop.mine e2 L;rw[r] at n;cases n;have dn:=c.kept (v:=v1) (s:=s1) (!1) k;refine⟨a,us,z,w,rfl,(g.view (v:=u) (!1) J).int,t,by rw[q.len];exact ix,ok.nx _ _ _ hR (c.drop.mut (ds:=ds) e2 es r (q.set w dn))⟩
def oG(env:List Sl):Sl->Option Sl
 | .fr d=>some (.fr d)
 | .ow l=>some (.ow l)
 | .tr S d=>some (.tr S d)
 | .vw i=>(env[i]?).bind λs=>match s with
  | .fr d=>some (.fr d)
  | .ow l=>some (.ow l)
  | _=>none
 | _=>none
def iB:Sl->Sl
 | .io l=>.io l
 | _=>.un
def jS(n:Nat)(env:List Sl):List Sl:=(env.take n).map iB
def pE(n:Nat)(R:Sl->List Sl->Prop):ig where
 nx := λenv=>R (.fr .none) (jS n env)
 rt := λs env=>∃r,oG env s=some r/\R r (jS n env)
def cU(n:Nat)(ss:List Sl):List Sl:=ss++Ko (n - ss.length) .un
theorem i6(m:Nat):∀{vs:List V}{ss:List Sl},vs.length=ss.length->(vs.map some++Ko m none).zip (ss++Ko m Sl.un)=tmp (vs.zip ss)++Ko m (none,Sl.un)
 | [],[],_=>by simp[tmp]
 | v::vs,s::ss,h=>by
  show(some v,s)::(vs.map some++Ko m none).zip (ss++Ko m Sl.un)=_;rw[i6 m (by simpa using h)];rfl
 | [],_::_,h=>by simp at h
 | _::_,[],h=>by simp at h
def vk(m:Nat):oas (Ko m ((none,Sl.un):Ent))=[]:=by unfold oas;rw[pp];intro e a;rw[(sb.mp a).2];rfl
theorem vM:∀{vs:List V}{σ:St}{env:List Sl},σ.length=env.length->(∀(j:Nat) (l:List ah),env[j]? = some (.io l)->j<vs.length->σ[j]? = (vs[j]?).map some)->(oas (tmp (vs.zip (jS vs.length env)))).Sublist (oas (σ.zip env))
 | [],σ,env,_,_=>by simp[tmp,oas]
 | v::vs,[],[],_,_=>by simp[tmp,oas,jS]
 | v :: vs,x::σ,s::env,a,h=>by
  have b:=vM (vs:=vs) (σ:=σ) (env:=env) (by simpa using a) λj l e hj=>by
   have:=h (j+1) l (by simpa using e) (by simpa using hj);simpa using this
  show(oas ((some v,iB s)::tmp (vs.zip (jS vs.length env)))).Sublist (oas ((x,s)::σ.zip env));rw[ar,ar];cases s with
  | io l =>
   have c:=h 0 l rfl (!1);simp at c;subst c;exact List.Sublist.append (List.Sublist.refl _) b
  | _ =>
   simp only[iB,gR];exact b.trans (List.sublist_append_right _ _)
 | _::_,[],_::_,a,_=>by simp at a
 | _::_,_::_,[],a,_=>by simp at a
def Rel.fin(a:Rel K M P H0 (start N' vs) σ env [(v,r)] H)(hn:n=vs.length)(u:mW r=true):bN K M P H0 (tmp ((v,r)::vs.zip (jS n env))) H:=by
 subst hn;have b:∀(j:Nat) (l:List ah),env[j]? = some (.io l)->j<vs.length->σ[j]? = (vs[j]?).map some:=λj l e hj=>by
  rw[a.ios j l e];unfold start;rw[JV (by simpa using hj),JE]
 have hE:=a.e;refine hE.sub (λx s m=>?_) ?_
 .rw[fu] at m;rcases Jo.mp m with m|m
  .cases m;exact .inl (fh (!1))
  .obtain⟨⟨w,s'⟩,m1,e⟩:=Jk.mp m;cases e;obtain⟨j,hj,e⟩:=J8 m1;rw[ph] at e;have c:=hj;rw[KD] at c;have e1:vs[j]'(!0)=w:=(ml e).1;have e2:(jS vs.length env)[j]'(!0)=s':=(ml e).2;have d:j<env.length:=by
    have:(jS vs.length env).length=min vs.length env.length:=by simp[jS]
    omega
   have e3:s'=iB env[j]:=by rw[<-e2];simp[jS]
   cases q:env[j] with
   | io l =>
    rw[q] at e3;subst e3;have f:env[j]? = some (.io l):=by rw[Ji d,q]
    have e4:=b j l f (!0);obtain⟨x,g,h⟩:=a.slot f;rw[g,Ji (by omega:j<vs.length),e1] at e4;have e4:x=some w:=dm e4;subst e4;exact .inl h
   | _=>rw[q] at e3;subst e3;exact .inr (.inl rfl)
 .have nd:=hE.nd;have i:aG σ env [(v,r)]=σ.zip env++[(some v,r)]:=rfl;rw[i,am] at nd;obtain⟨k,o,p⟩:=Ju.mp nd;have sub:=vM a.len b;rw[fu,show((some (v,r).1,(v,r).2):Ent)::tmp (vs.zip (jS vs.length env))=[(some v,r)]++tmp (vs.zip (jS vs.length env)) from rfl,am];exact Ju.mpr ⟨o,k.sublist sub,λx hx y t z=>p y (sub.subset t) x hx z.symm⟩
end
section
variable {K:cb}{M P:ao->Prop}{H0 H:Hp}{σ0 σ:St}{env:List Sl}{v:V}{s:Sl}
def Rel.take(h:Rel K M P H0 σ0 σ env [(v,.vw i)] H)(e:env[i]? = some (.ow l)):Rel K M P H0 σ0 σ (env.set i .un) [(v,.ow l)] H:=by
 obtain⟨x,A,B,e1,q1,q2⟩:=h.split e;have ev:=h.vw v i (!1);rw[e1] at ev;have ev:x=some v:=dm ev;subst ev;have z1:aG σ env [(v,.vw i)]=σ.zip env++[(some v,.vw i)]:=rfl;obtain⟨E,e3,m2⟩:=tI h.len e;have d:(σ.zip env)[i]? = some (some v,.ow l):=by rw[eO,e1,e];rfl
 obtain⟨f,g,k,n⟩:=gx d;have hE:=h.e;rw[z1,k] at hE;have o:aG σ (env.set i .un) [(v,.ow l)]=(f++(some v,.un)::g)++[(some v,.ow l)]:=by show σ.zip (env.set i .un)++[(some v,.ow l)]=_;rw[tH e1,n]
 refine⟨?_,by simp[h.len],λw j m=>(by rw[Jf] at m;cases m),λj p a=>?_⟩
 .rw[o];refine hE.sub (λx s m=>?_) ?_
  .rcases Jj.mp m with m|m
   .rcases Jj.mp m with m|m
    .exact .inl (Jl _ (Jl _ m))
    .rcases Jo.mp m with m|m
     .cases m;exact .inr (.inl rfl)
     .exact .inl (Jl _ (Jg _ (Jq _ m)))
   .rw[Jf] at m;cases m;exact .inl (Jl _ (Jg _ Jm))
  .have nd:=hE.nd;have ov:oas [(some v,Sl.vw i)]=[]:=by rw[ar,ju];rfl
   rw[am,am,ar,ov,JM] at nd;have q:oas [(some v,Sl.ow l)]=cK (some v,Sl.ow l):=by rw[ar];simp[oas]
   rw[am,am,ar,gR,q];obtain⟨r,t,c⟩:=Ju.mp nd;obtain⟨u,C,D⟩:=Ju.mp t;refine Ju.mpr ⟨Ju.mpr ⟨r,C,λx hx y b=>c x hx y (Jg _ b)⟩,u,λx hx y b z=>?_⟩;subst z;rcases Jj.mp hx with hx|hx
   .exact c x hx x (Jl _ b) rfl
   .exact D x b x hx rfl
 .by_cases hj:i=j
  .subst hj;rw[JK (Js.mp e).1] at a;cases a
  .rw[JJ hj] at a;exact h.ios j p a
def Ci(e:env[i]? = some (.ow l)):jS n (env.set i .un)=jS n env:=by
 unfold jS;apply su;intro j;rw[JE,JE,LU,LU];by_cases hj:i=j
 .subst hj;rw[JK (Js.mp e).1,e];split <;> rfl
 .rw[JJ hj]
def Rel.told(h:Rel K M P H0 σ0 σ env [(v,s)] H)(e:oG env s=some r):∃env',Rel K M P H0 σ0 σ env' [(v,r)] H/\jS n env'=jS n env/\mW r=true:=by
 cases s with
 | fr d=>cases e;exact⟨env,h,rfl,rfl⟩
 | tr S d=>cases e;exact⟨env,h,rfl,rfl⟩
 | ow l=>cases e;exact⟨env,h,rfl,rfl⟩
 | vw i =>
  have e:(env[i]?).bind _=some r:=e;cases q:env[i]? with
  | none=>rw[q] at e;cases e
  | some s' =>
   rw[q] at e;cases s' with
   | fr d =>
    cases e;have a:jP env (.vw i)=some (.fr d):=by show((env[i]?).bind slK).map Sl.fr=_;rw[q];rfl
    have:=(Rel.unVw (ts:=[]) (by simpa using h) a).1;exact⟨env,by simpa using this,rfl,rfl⟩
   | ow l=>cases e;exact⟨env.set i .un,h.take q,Ci q,rfl⟩
   | _=>cases e
 | _=>cases e
end
section
variable {P:ky}{w:k3}{K:cb}{mg:bt->Option av}{base:bg}
def okD{x:bt}{st:Stmt}{f:ao}{fd:ki}{N ps:List bt}{k:Nat}{sp:DSp}(F:Fun K x x st f fd)(S:ax N ps (ad st))(len:∀ss R,sp ss R->ss.length=ps.length)(hN:ps.length<=N.length)
  (p:∀(cdv:av) (A:Around) (outer:List Env) (s:az) (H:Hp) (E:XK),eM k (A.deeper (Q3 x (ad st) s.heap.objs.size f cdv)) ->
   ∃t:DS,PSs (tD CX0 P w K mg base N x (ad st) f cdv A outer s H E).nox (cE st) (upS K t)/\∀ss R,sp ss R->t (pE ps.length R) (cU N.length ss)):ca P w K mg base CX0 (k+1) f fd ps (spD K sp):=by
 refine F.ok S (λvs H Q E h=>?_) λcdv A outer s H vs Q E u h=>?_
 .obtain⟨M,ss,R,b,_,a,_⟩:=h;rw[b];exact len ss R a
 obtain⟨M,ss,R,b,hE,a,hq⟩:=h;have hn:=len ss R a;obtain⟨t,y,j⟩:=p cdv A outer s H E u;have z:aG (start N vs) (cU N.length ss) []=tmp (vs.zip ss)++Ko (N.length - vs.length) (none,Sl.un):=by show(start N vs).zip (cU N.length ss)++[]=_;unfold start cU;rw[JM,<-b];exact i6 _ b
 refine⟨_,y,M,tz vs ss,H,start N vs,cU N.length ss,[],pE ps.length R,λw i m=>(by cases m),⟨?_,by simp[start,cU,b],λw i m=>(by cases m),λi l e=>rfl⟩,j ss R a,⟨λσ' env' H' q r=>?_,λs env' v σ' H' q r=>?_,λσ' env' H' q r=>(show False from q),λσ' env' H' q r=>(show False from q)⟩⟩
 .rw[z];refine hE.sub (λx s m=>?_) (by rw[am,vk,JM];exact hE.nd);rcases Jj.mp m with m|m
  .exact .inl m
  .have:=(sb.mp m).2;cases this;exact .inr (.inl rfl)
 .have c:=(Rel.addFr r (v:=.non) (d:=.none) .non)
  have c:Rel K M (tz vs ss) H (start N vs) σ' env' [(.non,.fr .none)] H':=by simpa using c
  exact hq _ _ _ _ q rfl (c.fin (!0) rfl)
 .obtain⟨B,C,hR⟩:=q;have D:Rel K M (tz vs ss) H (start N vs) σ' env' [(v,s)] H':=by simpa using r
  obtain⟨o,c,G,g⟩:=D.told (n:=ps.length) C;exact hq B _ v H' hR g (by rw[<-G];exact c.fin (!0) g)
def IG{x:bt}{st:Stmt}{f:ao}{N ps:List bt}{k:Nat}{sp:DSp}{kV doc pm cdv ct oc:av}{an od:Option ao}{osl:Array (Option av)}
  (u:∀(A:Around) (outer:List Env) (s:az) (H:Hp) (E:XK),eM k (A.deeper (Q3 x (ad st) s.heap.objs.size f cdv)) ->
   ∃t:DS,PSs (tD CX0 P w K mg base N x (ad st) f cdv A outer s H E).nox (cE st) (upS K t)/\∀ss R,sp ss R->t (pE ps.length R) (cU N.length ss))
  (y:K.lookup f=some ⟨oc,od,.func (gs x x (eG st) (cE st) (ad st) .none kV doc pm an cdv ct),osl⟩) (j:m3 K cdv x=true) (S:ax N ps (ad st)) (len:∀ss R,sp ss R->ss.length=ps.length) (hN:ps.length<=N.length):ca P w K mg base CX0 (k+1) f (gs x x (eG st) (cE st) (ad st) .none kV doc pm an cdv ct) ps (spD K sp):=by
 refine EV y j S (λvs H Q E h=>?_) λA outer s H vs Q E z h=>?_
 .obtain⟨M,ss,R,b,_,a,_⟩:=h;rw[b];exact len ss R a
 obtain⟨M,ss,R,b,hE,a,hq⟩:=h;have hn:=len ss R a;obtain⟨t,B,o⟩:=u A outer s H E z;have C:aG (start N vs) (cU N.length ss) []=tmp (vs.zip ss)++Ko (N.length - vs.length) (none,Sl.un):=by show(start N vs).zip (cU N.length ss)++[]=_;unfold start cU;rw[JM,<-b];exact i6 _ b
 refine⟨_,B.nox,M,tz vs ss,H,start N vs,cU N.length ss,[],pE ps.length R,λw i m=>(by cases m),⟨?_,by simp[start,cU,b],λw i m=>(by cases m),λi l e=>rfl⟩,o ss R a,⟨λσ' env' H' q r=>?_,λs env' v σ' H' q r=>?_,λσ' env' H' q r=>(show False from q),λσ' env' H' q r=>(show False from q)⟩⟩
 .rw[C];refine hE.sub (λx s m=>?_) (by rw[am,vk,JM];exact hE.nd);rcases Jj.mp m with m|m
  .exact .inl m
  .have:=(sb.mp m).2;cases this;exact .inr (.inl rfl)
 .have c:=(Rel.addFr r (v:=.non) (d:=.none) .non)
  have c:Rel K M (tz vs ss) H (start N vs) σ' env' [(.non,.fr .none)] H':=by simpa using c
  exact hq _ _ _ _ q rfl (c.fin (!0) rfl)
 .obtain⟨D,F,hR⟩:=q;have G:Rel K M (tz vs ss) H (start N vs) σ' env' [(v,s)] H':=by simpa using r
  obtain⟨p,c,I,g⟩:=G.told (n:=ps.length) F;exact hq D _ v H' hR g (by rw[<-I];exact c.fin (!0) g)
def HS{x:bt}{st:Stmt}{f:ao}{fd:ki}{k:Nat}{ps:List bt}{sp:DSp}(F:Fun K x x st f fd)(m:mg x=some (.ref f))(b:gH K fd ps [])(G:ca P w K mg base CX0 k f fd ps (spD K sp)):Cal P w K mg base x k (spD K sp):=Cal.mk F m b G
end
section
variable {X:Cx}{x:bt}{p pos:Pos}{e:bb}{es:List bb}{k:Nat}{sp:DSp}{K:cb}{tl:DA}
def aD(C:Cal X.prog X.w X.K X.mg X.base x k (spD K sp))(b:eM k X.A)(hg:Gl X x)(c:PA X (e::es) (upA K tl))(hd:(x==("__debug__" : bt))=false:=by decide)
  (d:j1 (e::es) X.env=(false,eval e X.env)::j1 es X.env:=by rfl) (a:(k6 pos (j1 es X.env)).any (·.1)=false:=by rfl):PE X (.Call (.Name x p) (e::es) [] pos) (up K (v9 sp tl)):=(qR C b hg c hd d a).imp CW
def dE(m:Nat)(C:Cal X.prog X.w X.K X.mg X.base x k (spD K sp))(b:eM k X.A)(hg:Gl X x)(c:PA X (e::es) (upA K tl))(hd:(x==("__debug__" : bt))=false:=by decide)
  (d:j1 (e::es) X.env=(false,eval e X.env)::j1 es X.env:=by rfl) (a:(k6 pos (j1 es X.env)).any (·.1)=false:=by rfl):PE X (.Call (.Name x p) (e::es) [] pos) (up K (nq sp m tl)):=(qR C b hg c hd d a).imp zb
def Bb(C:Cal X.prog X.w X.K X.mg X.base x k (spD K sp))(b:eM k X.A)(hg:Gl X x)(c:PA X (e::es) (upA K tl))(hd:(x==("__debug__" : bt))=false:=by decide)
  (d:j1 (e::es) X.env=(false,eval e X.env)::j1 es X.env:=by rfl) (a:(k6 pos (j1 es X.env)).any (·.1)=false:=by rfl):PE X (.Call (.Name x p) (e::es) [] pos) (up K (rW sp tl)):=(qR C b hg c hd d a).imp za
end
def FA:G1:=λd R=>∃i,d=.int i/\R (.int (-i))
def zW{K:cb}:∀(N:ao->Prop) (H:Hp) (x:V) (d1:ah) (R:ah->Prop) (Q:VK),Vw K N H x d1->FA d1 R->(∀d v,R d->DN K N H v d->Q v H)->(rU λi=>.int (-i)) x H Q:=by rintro N H x d R Q w ⟨i,rfl,hR⟩ hq;exact⟨i,w.int,hq _ _ hR (.int _)⟩
abbrev li(a:List Int):List ah:=a.map .int
def cR(W:Nat->List Sl->Prop)(b:W 0 env)
  (c:∀i env,(h:i<ds.length)->W i env->g ds[i] env λa=>tb { DD with nx:=dI (W (i+1)) ⟨⟩,ct:=dI (W (i+1)) ⟨⟩,bk:=DD.nx } a) (hd:∀env,W ds.length env->DD.nx env):FD ds g tb DD env:=⟨W,b,c,hd⟩
def bT(f:Nat->ah)(hz:ds.length<=1000000)
  (h : ∀i,(h:i<ds.length)->∀Q:ah->Prop,Q (f i)->g ds[i] (iH ix env) λa=>te a λs b=>∃d,aL b s=some d/\Q d) (hR:R (.ow ((cu ds.length).map f)) env):CD ds ix g Af te env R:=by refine⟨λi rs=>rs=(cu i).map f/\i<=ds.length,⟨rfl,JD _⟩,λi rs hi w=>?_,λrs w=>by rw[w.1];exact hR⟩;obtain⟨rfl,_⟩:=w;refine⟨by rw[Je,Kh];exact Jp (!0) af,?_⟩;have:=h i hi (λd=>(cu i).map f++[d]=(cu (i+1)).map f/\i+1<=ds.length) ⟨by rw[Lc,Jy];rfl,hi⟩;simpa only[Af,if_true] using this
def bY(p:Nat->Bool)(f:Nat->ah)(hz:ds.length<=1000000)
  (h : ∀i,(h:i<ds.length)->∀(Q:ah->Prop) (a:Prop),(p i=true->Q (f i))->(p i=false->a)->g ds[i] (iH ix env) λb=>tt b λk c=>if k=true then te c λs j=>∃d,aL j s=some d/\Q d else a)
  (hR:R (.ow (((cu ds.length).filter p).map f)) env):CD ds ix g tt te env R:=by
 refine⟨λi rs=>rs=((cu i).filter p).map f/\i<=ds.length,⟨rfl,JD _⟩,λi rs hi w=>?_,λrs w=>by rw[w.1];exact hR⟩;obtain⟨rfl,_⟩:=w;refine⟨?_,?_⟩
 .have:=JQ p (cu i);rw[Kh] at this;rw[Je];exact Jp (!0) af
 .refine h i hi _ _ (λe=>⟨?_,hi⟩) (λe=>⟨?_,hi⟩)
  .rw[Lc,Kb,Jy];simp[e]
  .rw[Lc,Kb,Jy];simp[e]
def Bg(i:Int):Prop:=i.natAbs<2 ^ 8000
def Hy(i j:Int):Prop:=0<j/\Bg j
def Bg.log(h:Bg j):j.natAbs.log2<9000:=by
 by_cases a:j.natAbs=0
 .rw[a];decide
 .have h1:=Nat.log2_self_le a;have h:j.natAbs<2 ^ 8000:=h;have h2:(2:Nat) ^ j.natAbs.log2<2 ^ 8000:=Kj h1 h;have h3:=(Nat.pow_lt_pow_iff_right (by decide:1<2)).mp h2;exact Nat.lt_trans h3 (!2)
section
variable {X:Cx}{K:cb}
def qU:OpR X (Qt .FloorDiv) (rI Hy λi j=>.int (i / j)):=opI λi j _ _ _ _ _ hc q=>by
 refine floordiv_int (Int.ne_of_gt hc.1) ?_ (.inl (PyProof.noPylong_of_log2 hc.2.log));rw[Lg _ (Int.le_of_lt hc.1)];exact q
theorem js(a:List Int):∀n,n<=a.length->preSum (λi=>a.getD i 0) n=(a.take n).sum
 | 0,_=>rfl
 | n+1,h=>by
  rw[preSum,js a n (!0),J6,List.sum_append,Ji (by omega:n<a.length)];simp[Jh,Ji (by omega:n<a.length)]
def jF(hK:X.K=K)(hc:X.calm=true):eJ X (.builtin "sum") (λxs H Q=>∃(p:ao) (a:List Int),xs=[.ref p]/\SqL K H p (a.map V.int)/\Q (.int a.sum) H):=by
 subst hK;intro pins s σ H xs us Q I r h;obtain⟨p,a,rfl,l,q⟩:=h;obtain⟨u,rfl,m⟩:=gK r;cases (show u=cn p from m);obtain⟨its,rv,n,_⟩:=I.list l;have f:=n.isList;have j:p<s.heap.objs.size:=by obtain⟨_,e,_⟩:=f;exact Jv e
 have hsz:its.toArray.size=a.length:=by have:=rv.length;simp at this ⊢;omega
 have W:=(Walks.list (prog:=X.prog) (w:=X.w) (A:=X.A.in1) (I.ok.hd hc) s.heap.objs.size p (JH j) its.toArray).toS;rw[hsz] at W;refine call_sum_walkAnyS (Qu f ?_);refine⟨s.heap.objs.size,_,_,_,_,_,_,λi=>a.getD i 0,rfl,W,⟨⟨_,JA _ rfl,rfl,rfl⟩,f.push _⟩,λb c=>?_,λi v hP=>?_,λs' t' g=>?_⟩
 .rcases Jo.mp c with rfl|c
  .exact Jv (JA _ rfl)
  .obtain rfl:=Jf.mp c;exact Jv (Jn _ (id f).choose_spec.1)
 .have hP:its.toArray[i]? = some v:=hP;have hP:its[i]? = some v:=by simpa using hP
  have hi:i<its.length:=(Js.mp hP).1;have d:i<a.length:=by simp at hsz;omega
  obtain⟨u,e1,⟨t,e2⟩⟩:=rv.get (i:=i) (x:=.int a[i]) (by rw[JE,Ji d];rfl);rw[hP] at e1;cases e1;refine⟨t,?_⟩;rw[e2];show _=eC (a.getD i 0) t;rw[Jh,Ji d];rfl
 .obtain⟨h',g',d',y,k⟩:=s';have e1:g'=s.gens:=g.gens;have e2:d'=s.drawn:=g.drawn;have e3:k=s.os:=g.os;subst e1 e2 e3;have ep:=js a a.length (Jx _);rw[Ke] at ep;rw[ep];exact⟨.int a.sum,H,I.kept λb o e=>g.heap b o (λc=>absurd (Jv e) ((Jf.mp c)▸Kn _)) (Jn _ e),⟨_,rfl⟩,q⟩
def GP:GB:=λds R=>∃es a,ds=[.list es]/\fi es=some a/\R (.int a.sum)
def Gw:gG K (λxs H Q=>∃(p:ao) (b:List Int),xs=[.ref p]/\SqL K H p (b.map V.int)/\Q (.int b.sum) H) GP:=by
 rintro N H xs ds R Q w ⟨es,b,rfl,e1,hR⟩ hq;cases w with
 | cons c d =>
  cases d;obtain⟨a,vs,rfl,s,q⟩:=c.list;rw[cC e1] at q;rw[q.ints] at s;exact⟨a,b,rfl,s,hq _ _ hR (.int _)⟩
end
end _L
namespace _L
open PySem
end _L
namespace _L
open PySem PySem.Spec PyProof.Rows
section
variable (env:List Sl) (d:ah) (l:List ah) (i n:Nat) (s:Sl) (R:Sl->List Sl->Prop)
def pY:aO env (.fr d)=some d:=rfl
def pW:aO env (.ow l)=some (.list l):=rfl
def pX:aO env (.io l)=some (.list l):=rfl
def pU:aO env (.vw i)=(env[i]?).bind slD:=rfl
def zI:slD (.fr d)=some d:=rfl
def zG:slD (.ow l)=some (.list l):=rfl
def zH:slD (.io l)=some (.list l):=rfl
def zE:slD .un=none:=rfl
def zF:slD (.tr S (.dict kvs))=some (.dict kvs):=rfl
def pV:aO env (.tr S (.dict kvs))=some (.dict kvs):=rfl
def zD:slK (.fr d)=some d:=rfl
def zB:slK (.ow l)=none:=rfl
def zC:slK (.io l)=none:=rfl
def zA:slK .un=none:=rfl
def mT:aL env (.fr d)=some d:=rfl
def mS:aL env (.ow l)=some (.list l):=rfl
def mQ:aL env (.vw i)=(env[i]?).bind slK:=rfl
def qk:jP env (.fr d)=some (.fr d):=rfl
def qj:jP env (.ow l)=some (.ow l):=rfl
def qi:jP env (.tr S d)=some (.tr S d):=rfl
def qF:oG env (.tr S d)=some (.tr S d):=rfl
def mR:aL env (.tr S d)=some d:=rfl
def qh:jP env (.vw i)=((env[i]?).bind slK).map .fr:=rfl
def Gb:Sl->Option Sl
 | .fr d=>some (.fr d)
 | .ow l=>some (.ow l)
 | _=>none
def qI:oG env (.fr d)=some (.fr d):=rfl
def qG:oG env (.ow l)=some (.ow l):=rfl
def qE:oG env (.vw i)=(env[i]?).bind Gb:=by
 show(env[i]?).bind _=_
 congr 1
def uA:Gb (.fr d)=some (.fr d):=rfl
def uz:Gb (.ow l)=some (.ow l):=rfl
def m9:iB (.fr d)=.un:=rfl
def m6:iB (.ow l)=.un:=rfl
def m8:iB (.io l)=.io l:=rfl
def m4:iB .un=.un:=rfl
def rL:(pE n R).rt s env=∃r,oG env s=some r/\R r (jS n env):=rfl
def rM:(pE n R).nx env=R (.fr .none) (jS n env):=rfl
def qz:cN (.ow l) d'=some (.ow d'):=rfl
def qA:cN (.io l) d'=some (.io d'):=rfl
def u4:gQ (.ow l)=some l:=rfl
def u5:gQ (.io l)=some l:=rfl
def u6:gQ (.fr d)=none:=rfl
def u3:gQ .un=none:=rfl
def se:nC (some (.fr d))=.fr d:=rfl
def sa:nC (some (.ow l))=.un:=rfl
def sd:nC (some (.io l))=.un:=rfl
def r9:nC (some .un)=.un:=rfl
def nF:Hn env none=.un:=rfl
def nE:Hn env (some i)=nC env[i]?:=rfl
def j5:fQ (.list l)=some l:=rfl
def jg:fQ (.tuple l)=some l:=rfl
def lQ:zn .none=some false:=rfl
def lS(b:Bool):zn (.bool b)=some b:=rfl
def pZ(i:Int):zn (.int i)=some (i != 0):=rfl
def lR:zn (.list l)=some (!l.isEmpty):=rfl
def jW:zn (.tuple l)=some (!l.isEmpty):=rfl
def mX:k4 .none=true:=rfl
def rz(i:Int):k4 (.int i)=false:=rfl
def mZ(i:Bool):k4 (.bool i)=false:=rfl
def mY:k4 (.list l)=false:=rfl
def kf:k4 (.tuple l)=false:=rfl
def jA:bw env []=some []:=rfl
def iz(s:Sl)(ss:List Sl):bw env (s::ss)=(aL env s).bind λd=>(bw env ss).bind λds=>some (d::ds):=rfl
def jV:gb env []=some []:=rfl
def i7(s:Sl)(ss:List Sl):gb env (s::ss)=(aO env s).bind λd=>(gb env ss).bind λds=>some (d::ds):=rfl
def lg(i j:Int):eA (.int i) (.int j)=decide (i=j):=by show(i==j)=_;by_cases h:i=j <;> simp[h]
end
def At(x:α)(l:List α):atI (x::l) 0=some x:=cp (j:=0) rfl
def wB(x y:α)(l:List α):atI (x::y::l) 1=some y:=cp (j:=1) rfl
def As(x y z:α)(l:List α):atI (x::y::z::l) 2=some z:=cp (j:=2) rfl
def Aq(a b c d x:α)(l:List α):atI (a::b::c::d::x::l) 4=some x:=cp (j:=4) rfl
def Ap(a b c d e x:α)(l:List α):atI (a::b::c::d::e::x::l) 5=some x:=cp (j:=5) rfl
def Ao(a b c d e f x:α)(l:List α):atI (a::b::c::d::e::f::x::l) 6=some x:=cp (j:=6) rfl
def An(a b c d e f g x:α)(l:List α):atI (a::b::c::d::e::f::g::x::l) 7=some x:=cp (j:=7) rfl
def rK:eA .none .none=true:=rfl
def z9(i:Int):eA .none (.int i)=false:=rfl
def Ab(i:Int):eA (.int i) .none=false:=rfl
def um(i:Int):shp (.int i)=True:=by simp[shp,lx,dV,lu]
def qw:shp .none=True:=by simp[shp,lx,dV,lu]
def qx(b:Bool):shp (.bool b)=True:=by simp[shp,lx,dV,lu]
def Ar(x y z u:α)(l:List α):atI (x::y::z::u::l) 3=some u:=cp (j:=3) rfl
def Ew{K:cb}{H:Hp}{a:ao}{b:List Int}{E:XK}(f:SqL K H a (b.map V.int)){sp:DSp}(h:sp [.fr (.list (li b))] (λr _=>r=.fr (.bool true))):spD K sp [.ref a] H (λv _=>v=.bl true) E:=by have d:DNs K (λ_=>False) H [.ref a] [.list (li b)]:=.cons (DN.sqL f) .nil;refine⟨λ_=>False,[.fr (.list (li b))],_,rfl,Au (ds:=[.list (li b)]) d (λa z=>z.elim),h,λr g v H' hR _ c=>?_⟩;subst hR;obtain⟨w,e,dn⟩:=c.fr _ _ Jm;cases e;cases dn;rfl
def FT{l:o0}{q:ky}{e:List bt}{o:(bt->Option av)->bg->Prop}{p:k3->bg->Prop}{d:DefRec}{K:Params->cb}{sp:DSp}{k:Nat}(hk:k<=40)(hn:l.most=some 63)(i:d.params.defaults=[])
  (j:∀g:List Int,g.length<=63->sp [.fr (.list (li g))] (λr _=>r=.fr (.bool true)))
  (m:∀(w:k3) (s₀:az) (mg mb:bt->Option av) (h:bg),v2 q e [] o w s₀ mg mb h->(K w.params).In h->∃tb:List (ao×bt),(∀b q,tb.lookup b=some q->h.get? b=some { cls:=.none,data:=.fields #[] }/\(K w.params).lookup b=none/\∃c,h.TableAt c b #[])/\∀T q,jK (K w.params) T q->tb.lookup T=some q)
  (hY:∀(w:k3) (h:bg),p w h->(K w.params).In h)
  (F : ∀(w:k3) (mg:bt->Option av) (fa:ao) (h:bg),(K w.params).In h->h.Ns kq mg->mg d.name=some (.ref fa) ->
   ∃fd:ki,(∀(s:az) (u:av),Zl s fd ⟨[u],[]⟩ [("_law_script",u)])/\∀base:bg,(K w.params).In base->base.Ns kq mg->ca l.prog w (K w.params) mg base CX0 k fa fd ["_law_script"] (spD (K w.params) sp)) :
  LZ q e o p l.row.toRowW d [] (λf vs=>B2 f vs):=by refine _L.AD (n:=63) (k:=40) (x := "_law_script") (CX:=λ_=>CX0) (sp:=λw=>spD (K w.params) sp) hn (!2) i ⟨rfl,!2,!2⟩ m hY (λw mg fa h a b c=>?_) (λw H a g t _ v=>Ew v (j g t)) λ_ _ _ _ _ z=>z;obtain⟨fd,h1,h2⟩:=F w mg fa h a b c;exact⟨fd,h1,λbase x y=>(h2 base x y).mono hk⟩
def Sh(n:Nat)(d:ah):Prop:=d.canLay0=true/\d.depth<=n
theorem Sh.int(n:Nat)(i:Int):Sh n (.int i):=⟨by simp[dV],by simp[lu]⟩
theorem Sh.none(n:Nat):Sh n .none:=⟨by simp[dV],by simp[lu]⟩
theorem Sh.all:∀{ds:List ah},(∀x∈ds,Sh n x)->ew ds=true/\ir ds<=n
 | [],_=>⟨by simp[ew],by simp[ir]⟩
 | d::ds,h=>by
  have h1:=h d Jm;have h2:=Sh.all λx hx=>h x (Jq _ hx);refine⟨by rw[ew,h1.1,h2.1];rfl,?_⟩;rw[ir];have a:=h1.2;have b:=h2.2;omega
theorem Sh.list(h:∀x∈ds,Sh n x):Sh (n+1) (.list ds):=by obtain⟨a,b⟩:=Sh.all h;exact⟨by rw[dV];exact a,by rw[lu];omega⟩
theorem Sh.tuple(h:∀x∈ds,Sh n x):Sh (n+1) (.tuple ds):=by obtain⟨a,b⟩:=Sh.all h;exact⟨by rw[dV];exact a,by rw[lu];omega⟩
def Sh.ints(n:Nat)(a:List Int):Sh (n+1) (.list (li a)):=Sh.list λx hx=>by
 obtain⟨i,_,rfl⟩:=Jk.mp hx;exact Sh.int _ _
theorem Sh.shp(h:Sh n d)(hn:n<=64):shp d:=by show lx d=true;unfold lx;rw[h.1,decide_eq_true (Jt h.2 hn)];rfl
def dP{a:List Int}(h:k<a.length):atI (li a) (k:Int)=some (.int (a.getD k 0)):=cp (by
 rw[JE,Ji h,Jh,Ji h];rfl)
def c7(h:i<(li a).length):(li a)[i]=.int (a.getD i 0):=by
 have h':i<a.length:=by simpa using h
 simp[Jh,Ji h']
def Eu(a:List Int)(i:Nat)(x:Int):(li a).set i (.int x)=li (a.set i x):=by simp[Mx]
def kX(a:List Int)(x:Int):li a++[.int x]=li (a++[x]):=!1
def iS(n:Nat)(f:Nat->Int):(cu n).map (λi=>eb (f i))=li ((cu n).map f):=by show _=eT _ (eT _ _);rw[JI];rfl
def nB(a:-18446744073709551616<i)(h1:i<18446744073709551616):wO i j:=.inl ⟨a,h1⟩
def km(a:-18446744073709551616<j)(h1:j<18446744073709551616):wO i j:=.inr ⟨a,h1⟩
@[irreducible] def dNx (u:DS):DS:=u
def Ai(u:DS):dNx u=u:=by unfold dNx;rfl
def nx(h:u DD env):dNx u DD env:=by rw[Ai];exact h
def ae{X:Cx}{K:cb}{st:Stmt}{rest:List Stmt}{t u:DS}(h1:PS X st (upS K t))(h2:PSs X rest (upS K u)):PSs X (st::rest) (upS K (Fd t (dNx u))):=by rw[Ai];exact bB h1 h2
end _L
namespace _L
end _L
namespace _L
open PySem PySem.Spec PyProof.Rows
theorem kn(a:Nat->Nat->Bool)(val:Nat->Int)(c:∀i j,a i j=decide (val i<val j)):∀n,QL a n<=n/\∀i,i<=n->val (QL a n)<=val i
 | 0=>⟨Jx _,λi hi=>by rw[show i=0 by omega];exact KK _⟩
 | n + 1=>by
  obtain⟨h1,h2⟩:=kn a val c n;show(if a (n+1) (QL a n) then n+1 else QL a n)<=_/\_;cases e:a (n+1) (QL a n) with
  | true =>
   rw[c,decide_eq_true_eq] at e;refine⟨!1,λi hi=>?_⟩;have d:QL a (n+1)=n+1:=by show(if a (n+1) (QL a n) then n+1 else QL a n)=_;rw[c,decide_eq_true e,Mz rfl]
   rw[d];by_cases b:i=n+1
   .rw[b];exact KK _
   .have:=h2 i (!0);omega
  | false =>
   rw[c,decide_eq_false_iff_not] at e;refine⟨by simp;omega,λi hi=>?_⟩;have d:QL a (n+1)=QL a n:=by show(if a (n+1) (QL a n) then n+1 else QL a n)=_;rw[c,decide_eq_false e];rfl
   rw[d];by_cases b:i=n+1
   .rw[b];omega
   .exact h2 i (!0)
section
variable {X:Cx}{K:cb}
def wn(hK:X.K=K)(hc:X.calm=true):eJ X (.builtin "min") (λxs H Q=>∃(p:ao) (a:List Int),xs=[.ref p]/\SqL K H p (a.map V.int)/\a≠[]/\∀m,m∈a->(∀x∈a,m<=x)->Q (.int m) H):=by
 subst hK;intro pins s σ H xs us Q I r h;obtain⟨p,a,rfl,z,n,q⟩:=h;obtain⟨u,rfl,B⟩:=gK r;cases (show u=cn p from B);obtain⟨its,rv,C,_⟩:=I.list z;have l:=C.isList;have y:p<s.heap.objs.size:=by obtain⟨_,e,_⟩:=l;exact Jv e
 have hsz:its.toArray.size=a.length:=by have:=rv.length;simp at this ⊢;omega
 have f:0<a.length:=KL.mpr n;have W:=(Walks.list (prog:=X.prog) (w:=X.w) (A:=X.A.in1) (I.ok.hd hc) s.heap.objs.size p (JH y) its.toArray)
 rw[hsz] at W;have c:∀(i:Nat) (v:av),its.toArray[i]? = some v->∃t,v=eC (a.getD i 0) t:=λi v hP=>by
  have hP:its[i]? = some v:=by simpa using hP
  have hi:i<its.length:=(Js.mp hP).1;have g:i<a.length:=by simp at hsz;omega
  obtain⟨u,e1,⟨t,e2⟩⟩:=rv.get (i:=i) (x:=.int a[i]) (by rw[JE,Ji g];rfl);rw[hP] at e1;cases e1;refine⟨t,?_⟩;rw[e2,Jh,Ji g];rfl
 refine call_min_walk (Qu l ?_);refine⟨s.heap.objs.size,_,_,_,_,_,λi j=>decide (a.getD i 0<a.getD j 0),rfl,W,⟨⟨_,JA _ rfl,rfl,rfl⟩,l.push _⟩,λb k=>?_,f,CmpOf.ints_lt (λi=>a.getD i 0) c,λv h' tk hP hk=>?_⟩
 .rcases Jo.mp k with rfl|k
  .exact Jv (JA _ rfl)
  .obtain rfl:=Jf.mp k;exact Jv (Jn _ (id l).choose_spec.1)
 .obtain⟨t,rfl⟩:=c _ _ hP;obtain⟨E,D⟩:=kn (λi j=>decide (a.getD i 0<a.getD j 0)) (λi=>a.getD i 0) (λ_ _=>rfl) (a.length - 1);have d:QL (λi j=>decide (a.getD i 0<a.getD j 0)) (a.length - 1)<a.length:=!0
  refine⟨.int _,H,I.kept λb o e=>hk b o (λk=>absurd (Jv e) ((Jf.mp k)▸Kn _)) (Jn _ e),⟨_,rfl⟩,q _ ?_ λx hx=>?_⟩
  .rw[Jh,Ji d];exact JF d
  .obtain⟨j,hj,rfl⟩:=J8 hx;have:=D j (!0);rwa [show a.getD j 0=a[j] by rw[Jh,Ji hj];rfl] at this
def Ce:GB:=λds R=>∃es a,ds=[.list es]/\fi es=some a/\a≠[]/\∀m,m∈a->(∀x∈a,m<=x)->R (.int m)
def Gy:gG K (λxs H Q=>∃(p:ao) (b:List Int),xs=[.ref p]/\SqL K H p (b.map V.int)/\b≠[]/\∀m,m∈b->(∀x∈b,m<=x)->Q (.int m) H) Ce:=by
 rintro N H xs ds R Q w ⟨es,b,rfl,e1,c,hR⟩ hq;cases w with
 | cons d e =>
  cases e;obtain⟨a,vs,rfl,s,q⟩:=d.list;rw[cC e1] at q;rw[q.ints] at s;exact⟨a,b,rfl,s,c,λm h1 h2=>hq _ _ (hR m h1 h2) (.int _)⟩
end
def Pl:Nat->ah->Prop
 | 0,d=>∃i,d=.int i
 | n+1,d=>(∃i,d=.int i)\/∃ds:List ah,(d=.list ds\/d=.tuple ds)/\ds.length<=1000000/\∀x∈ds,Pl n x
mutual
def noL:ah->Bool
 | .none=>true
 | .bool _=>true
 | .int _=>true
 | .str _=>true
 | .tuple ds=>o6 ds
 | _=>false
def o6:List ah->Bool
 | []=>true
 | d::ds=>noL d&&o6 ds
end
section
variable {K:cb}{M P N:ao->Prop}{H0 H:Hp}{E T:List Ent}{σ0 σ:St}{env:List Sl}{ts tt:List (V×Sl)}{v:V}{s:Sl}{d:ah}
def DN.ot(h:DN K N H v d):noL d=true->OT K N H v d [] :=
 DN.rec (motive_1:=λv d _=>noL d=true->OT K N H v d []) (motive_2:=λv d _=>o6 d=true->OTs K N H v d [])
 (λ_=>.non) (λb _=>.bl b) (λi _=>.int i)
 (λ_ _ _ e=>by simp[noL] at e) (λh _ i e=>.tup h (i (by simpa[noL] using e)))
 (λ_ _ _ _ _ _ _ e=>by simp[noL] at e) (λ_ _ _ _ _ e=>by simp[noL] at e) (λ_ _ e=>by simp[noL] at e) (λ_=>.nil)
 (λ{_ _ d ds} _ _ i j e=>by
  have e:(noL d&&o6 ds)=true:=e;rw[JT] at e;exact .cons (S:=[]) (S':=[]) (i e.1) (j e.2)) h
def DNs.ots{v:List V}{d:List ah}(h:DNs K N H v d):o6 d=true->OTs K N H v d []:=DNs.ind (C:=λv d=>o6 d=true->OTs K N H v d []) (λ_=>.nil) (λ{_ _ d ds} h _ j e=>by
  have e:(noL d&&o6 ds)=true:=e;rw[JT] at e;exact .cons (S:=[]) (S':=[]) (h.ot e.1) (j e.2)) h
def fzs:List ah->Option (List ah)
 | []=>some []
 | .list l::ds=>(fzs ds).map (fzD l::·)
 | _::_=>none
theorem DNs.fzs:∀{vs:List V}{ds ds':List ah},DNs K N H vs ds->fzs ds=some ds'->OTs K N H vs ds' []
 | _,_,_,.nil,e=>by cases e;exact .nil
 | _, d::ds,_,.cons h q,e=>by
  cases d with
  | list l =>
   have e:(_L.fzs ds).map (fzD l::·)=some _:=e;cases e2:_L.fzs ds with
   | none=>rw[e2] at e;cases e
   | some ds2 =>
    rw[e2] at e;cases e;exact .cons (S:=[]) (S':=[]) (.fz h) (DNs.fzs q e2)
  | _=>cases e
def slF(s:Sl):Option ah:=match s with
 | .fr d=>if noL d=true then some d else none
 | _=>none
def jO(env:List Sl):Sl->Option ah
 | .fr d=>if noL d=true then some d else none
 | .ow ds=>if o6 ds=true then some (.list ds) else (fzs ds).map .list
 | .tr _ d=>some d
 | .vw i=>(env[i]?).bind slF
 | _=>none
def i8(env:List Sl):List Sl->Option (List ah)
 | []=>some []
 | s::ss=>(jO env s).bind λd=>(i8 env ss).bind λds=>some (d::ds)
def Rel.tree(h:Rel K M P H0 σ0 σ env ts H)(m:(v,s)∈ts)(e:jO env s=some d):OT K (Nw M (aG σ env ts)) H v d (cK (some v,s))/\∀a∈cK (some v,s),H0 a=none:=by
 have g:((some v,s):Ent)∈aG σ env ts:=fh m;cases s with
 | fr d' =>
  by_cases c:noL d'=true
  .have e:(if noL d'=true then some d' else none)=some d:=e;rw[Mz c] at e;cases e;obtain⟨v',e1,dn⟩:=h.e.fr _ _ g;cases e1;rw[d9];exact⟨dn.ot c,λa j=>by cases j⟩
  .have e:(if noL d'=true then some d' else none)=some d:=e;rw[MA c] at e;cases e
 | ow ds =>
  have e:(if o6 ds=true then some (dy ds) else (fzs ds).map .list)=some d:=e;by_cases c:o6 ds=true
  .rw[Mz c] at e;cases e;obtain⟨a,vs,e1,e2,dn,f⟩:=h.e.ow _ _ g;cases e1;exact⟨.lst e2 (dn.ots c),λb k=>by rw[Jf.mp k];exact f⟩
  .rw[MA c] at e;cases e3:fzs ds with
   | none=>rw[e3] at e;cases e
   | some ds' =>
    rw[e3] at e;cases e;obtain⟨a,vs,e1,e2,dn,f⟩:=h.e.ow _ _ g;cases e1;exact⟨.lst e2 (dn.fzs e3),λb k=>by rw[Jf.mp k];exact f⟩
 | tr S d' =>
  cases e;obtain⟨v',e1,ot,f⟩:=h.e.tr _ _ _ g;cases e1;rw[aS];exact⟨ot,f⟩
 | vw i =>
  have e:(env[i]?).bind slF=some d:=e;cases q:env[i]? with
  | none=>rw[q] at e;cases e
  | some s' =>
   rw[q] at e;cases s' with
   | fr d' =>
    have e:(if noL d'=true then some d' else none)=some d:=e;by_cases c:noL d'=true
    .rw[Mz c] at e;cases e;obtain⟨x,e1,m1⟩:=h.slot q;obtain⟨v',e2,dn⟩:=h.e.fr _ _ m1;have e3:=h.vw v i m;rw[e1,e2] at e3;cases e3;rw[ju];exact⟨dn.ot c,λa j=>by cases j⟩
    .rw[MA c] at e;cases e
   | _=>cases e
 | _=>cases e
theorem Rel.trees(h:Rel K M P H0 σ0 σ env ts H):∀{vs:List V}{ss:List Sl}{ds:List ah},vs.length=ss.length->(∀p∈vs.zip ss,p∈ts)->i8 env ss=some ds->OTs K (Nw M (aG σ env ts)) H vs ds (oas (tmp (vs.zip ss)))/\∀a∈oas (tmp (vs.zip ss)),H0 a=none
 | [],[],_,_,_,e=>by cases e;exact⟨.nil,λa c=>by cases c⟩
 | v :: vs,s::ss,ds,b,f,e=>by
  unfold i8 at e;cases e1:jO env s with
  | none=>rw[e1] at e;cases e
  | some d =>
   rw[e1] at e;cases e2:i8 env ss with
   | none=>rw[e2] at e;cases e
   | some ds' =>
    rw[e2] at e;cases e;obtain⟨a1,a2⟩:=h.tree (v:=v) (f (v,s) (!1)) e1;obtain⟨g,i⟩:=h.trees (vs:=vs) (ss:=ss) (by simpa using b) (λp j=>f p (by simp[j])) e2;have k:oas (tmp ((v::vs).zip (s::ss)))=cK (some v,s)++oas (tmp (vs.zip ss)):=ar _ _;rw[k];exact⟨.cons a1 g,λa c=>(Jj.mp c).elim (a2 a) (i a)⟩
 | [],_::_,_,b,_,_=>by simp at b
 | _::_,[],_,b,_,_=>by simp at b
def BA(q:OTs K N H vs ds S)(b:H p=none):OTs K N (upd H p o) vs ds S:=q.keep (aX.same (be.new b)) λa c=>by
 obtain⟨xs,z⟩:=q.lives a c;rw[be.new b _ _ z,z]
def bN.foldL(h:bN K M P H0 (E++T) H)(c:H p=none)(q:OTs K (Nw M (E++T)) H vs ds (oas T))(hq:∀a∈oas T,H0 a=none):bN K M P H0 (E++[(some (.ref p),.tr (p::oas T) (.list ds))]) (upd H p (.lst vs)):=by
 have i:oas (E++[(some (.ref p),Sl.tr (p::oas T) (.list ds))])=oas E++p::oas T:=by rw[am,ar,aS];simp[oas]
 have g:p ∉ oas (E++T):=λz=>by
  obtain⟨vs',q,_⟩:=h.own z;rw[c] at q;cases q
 have j:H0 p=none:=by
  cases e:H0 p with
  | none=>rfl
  | some o=>exact absurd c (h.live p (by rw[e];simp))
 have up:∀b o,H b=some o->Nw M (E++[(some (.ref p),Sl.tr (p::oas T) (.list ds))]) b->Nw M (E++T) b:=λb o e z=>by
  rcases z with z|z
  .exact .inl z
  .rw[i] at z;rcases Jj.mp z with z|z
   .exact .inr (by rw[am];exact Jl _ z)
   .rcases Jo.mp z with z|z
    .rw[z,c] at e;cases e
    .exact .inr (by rw[am];exact Jg _ z)
 have old:∀x s,(x,s)∈E++[(some (.ref p),Sl.tr (p::oas T) (.list ds))]->(x,s)∈E++T\/(x,s)=(some (.ref p),Sl.tr (p::oas T) (.list ds)):=λx s m=>by
  rcases Jj.mp m with m|m
  .exact .inl (Jl _ m)
  .exact .inr (Jf.mp m)
 have h':=h.same (be.new (o:=.lst vs) c);refine⟨h'.keep,h'.live,h.mt,h.pm,λx d' m=>?_,λx d' m=>?_,λx d' m=>?_,λx S d' m=>?_,?_⟩
 .rcases old _ _ m with m|m
  .obtain⟨v,e,dn⟩:=h.fr x d' m;exact⟨v,e,(dn.to up).keep (aX.same (be.new c))⟩
  .cases m
 .rcases old _ _ m with m|m
  .obtain⟨a,ws,e,e2,dn,r⟩:=h.ow x d' m;exact⟨a,ws,e,be.new c _ _ e2,(dn.to up).keep (aX.same (be.new c)),r⟩
  .cases m
 .rcases old _ _ m with m|m
  .obtain⟨a,ws,e,e2,dn,r⟩:=h.io x d' m;exact⟨a,ws,e,be.new c _ _ e2,(dn.to up).keep (aX.same (be.new c)),r⟩
  .cases m
 .rcases old _ _ m with m|m
  .obtain⟨v,e,dn,r⟩:=h.tr x S d' m;exact⟨v,e,(dn.to up).keep (aX.same (be.new c)) λa d=>by
    obtain⟨xs,z⟩:=dn.lives a d;rw[be.new c _ _ z,z],r⟩
  .cases m;exact⟨_,rfl,.lst aB (BA (q.to up) c),λa d=>(Jo.mp d).elim (λz=>by rw[z];exact j) (hq a)⟩
 .rw[i];have nd:=h.nd;rw[am] at nd g;obtain⟨k,l,n⟩:=Ju.mp nd;refine Ju.mpr ⟨k,JO.mpr ⟨λz=>g (Jg _ z),l⟩,λa d b f z=>?_⟩;rcases Jo.mp f with f|f
  .rw[f] at z;exact g (Jl _ (z▸d))
  .exact n a d b f z
def Rel.resLstT(h:Rel K M P H0 σ0 σ env (ts++tt) H)(b:H p=none)(q:OTs K (Nw M (aG σ env (ts++tt))) H vs ds (oas (tmp tt)))(c:∀a∈oas (tmp tt),H0 a=none) :
  Rel K M P H0 σ0 σ env (ts++[(.ref p,.tr (p::oas (tmp tt)) (.list ds))]) (upd H p (.lst vs)):=by have hE:=h.e;rw[aC] at hE q;exact h.drop.withRes (hE.foldL b q c) rfl
end
section
def tQ(h:mW s=true):jO env s=jO env' s:=by cases s <;> first|rfl|cases h
end
section
end
def zS(n:ah):List Nat->ah->ah
 | [],_=>n
 | i::p,.list ds=>.list (match ds[i]? with|some c=>ds.set i (zS n p c)|none=>ds)
 | i::p,.tuple ds=>.tuple (match ds[i]? with|some c=>ds.set i (zS n p c)|none=>ds)
 | _::_,d=>d
inductive wI (K:cb) (H:Hp):V->List Nat->V->Prop
 | nil {v:V}:wI K H v [] v
 | cons {b:ao}{xs:List V}{i:Nat}{x u:V}{p:List Nat}:(SqL K H b xs\/SqT K H b xs)->xs[i]? = some x->wI K H x p u->wI K H (.ref b) (i::p) u
section
variable {K:cb}{N:ao->Prop}{H:Hp}
def Ax(K:cb)(N:ao->Prop)(H:Hp)(v:V)(p:List Nat)(d:ah)(S:List ao)(ds:List ah):Prop:=∃a us,wI K H v p (.ref a)/\H a=some (.lst us)/\a∈S/\us.length=ds.length /\
  ∀{N1:ao->Prop}{H1:Hp}{w:V}{e:ah}{c:List ao},(∀b o,H b=some o->N1 b->N b)->be H H1->N1 a->OT K N1 (upd H1 a (.lst (us++[w]))) w e c->∃S',S'.Perm (S++c)/\OT K N1 (upd H1 a (.lst (us++[w]))) v (zS (.list (ds++[e])) p d) S'
def OT.path0(o:OT K N H v (.list ds) S)(nd:S.Nodup):Ax K N H v [] (.list ds) S ds:=by
 cases o with
 | @lst a us _ c g q =>
  refine⟨a,us,.nil,g,Jm,q.len,λ{N1 H1 w e h} m d i j=>?_⟩;obtain⟨k,p⟩:=JO.mp nd;have l:OTs K N1 (upd H1 a (.lst (us++[w]))) us ds c:=(q.to m).keep ((aX.same d).trans (aX.own i)) λb f=>by
   obtain⟨xs,z⟩:=q.lives b f;have n:b≠a:=λz=>k (z▸f);rw[au n,d _ _ z,z]
  exact⟨a::(c++(h++[])),!1,.lst aB (l.app (.cons j .nil))⟩
end
section
variable {K:cb}{M P:ao->Prop}{H0 H:Hp}{T A B:List Ent}{v:V}{d:ah}
def bN.appAtU{U:List Ent}{c:Hp}{S:List ao}{p:List Nat}{ds:List ah}(G:bN K M P H0 (A++(some v,.tr S d)::(B++U)) c)(Q:OT K (Nw M (A++(some v,.tr S d)::(B++U))) c v d S->S.Nodup->Ax K (Nw M (A++(some v,.tr S d)::(B++U))) c v p d S ds):∃a us,wI K c v p (.ref a)/\c a=some (.lst us)/\us.length=ds.length /\
  ∀{T:List Ent}{H:Hp}{w:V}{e:ah},be c H->(∀a∈oas T,c a=none\/a∈oas U)->bN K M P H0 (A++(some v,.tr S d)::(B++T)) H->OT K (Nw M (A++(some v,.tr S d)::(B++T))) H w e (oas T)->(∀a∈oas T,H0 a=none)->∃S',bN K M P H0 (A++(some v,.tr S' (zS (.list (ds++[e])) p d))::B) (upd H a (.lst (us++[w]))):=by
 obtain⟨v',ev,ot,I⟩:=G.tr _ _ _ (Jg _ Jm);cases ev;have i:=G.nd;have j:oas (A++(some v,Sl.tr S d)::(B++U))=oas A++(S++(oas B++oas U)):=by rw[am,ar,aS,am]
 rw[j] at i;obtain⟨a,us,r,R,k,W,g⟩:=Q ot (Ju.mp (Ju.mp i).2.1).1;refine⟨a,us,r,R,W,λ{T H w e} X Y h C hT=>?_⟩;have y:oas (A++(some v,Sl.tr S d)::(B++T))=oas A++(S++(oas B++oas T)):=by rw[am,ar,aS,am]
 have nd:=h.nd;rw[y] at nd;obtain⟨n1,Z,n3⟩:=Ju.mp nd;obtain⟨n4,n5,J⟩:=Ju.mp Z;obtain⟨n7,n8,n9⟩:=Ju.mp n5;have L:Nw M (A++(some v,Sl.tr S d)::(B++T)) a:=.inr (by rw[y];exact Jg _ (Jl _ k));have mm:∀b o,c b=some o->Nw M (A++(some v,Sl.tr S d)::(B++T)) b->Nw M (A++(some v,Sl.tr S d)::(B++U)) b:=λb o N z=>by
  rcases z with z|z
  .exact .inl z
  .rw[y] at z;refine .inr ?_;rw[j];rcases Jj.mp z with z|z
   .exact Jl _ z
   .rcases Jj.mp z with z|z
    .exact Jg _ (Jl _ z)
    .rcases Jj.mp z with z|z
     .exact Jg _ (Jg _ (Jl _ z))
     .rcases Y b z with D|D
      .rw[D] at N;cases N
      .exact Jg _ (Jg _ (Jg _ D))
 have l:aX (Nw M (A++(some v,Sl.tr S d)::(B++T))) H (upd H a (.lst (us++[w]))):=aX.own L;have E:=C.keep l λb f=>au λz=>J a k b (Jg _ f) z.symm;obtain⟨S',pm,F⟩:=g mm X L E;refine⟨S',?_⟩;have n:oas (A++(some v,Sl.tr S' (zS (.list (ds++[e])) p d))::B)=oas A++(S'++oas B):=by rw[am,ar,aS]
 have s:(oas A++(S'++oas B)).Perm (oas A++(S++(oas B++oas T))):=by refine gt _ ((Hh _ pm).trans ?_);rw[J5];exact gt _ KW
 have ne:Nw M (A++(some v,Sl.tr S' (zS (.list (ds++[e])) p d))::B)=Nw M (A++(some v,Sl.tr S d)::(B++T)):=by funext b;apply propext;unfold Nw;rw[y,n,s.mem_iff]
 have back:∀x t,(x,t)∈A\/(x,t)∈B->(x,t)∈A++(some v,Sl.tr S d)::(B++T):=λx t m=>by
  rcases m with m|m
  .exact Jl _ m
  .exact Jg _ (Jq _ (Jl _ m))
 have old:∀x t,(x,t)∈A++(some v,Sl.tr S' (zS (.list (ds++[e])) p d))::B->(x,t)=(some v,Sl.tr S' (zS (.list (ds++[e])) p d))\/((x,t)∈A\/(x,t)∈B):=λx t m=>by
  rcases Jj.mp m with m|m
  .exact .inr (.inl m)
  .rcases Jo.mp m with m|m
   .exact .inl m
   .exact .inr (.inr m)
 have other:∀x t b,(x,t)∈A\/(x,t)∈B->b∈cK (x,t)->b≠a:=λx t b m O z=>by
  subst z;rcases m with m|m
  .exact n3 b (bh.mpr ⟨_,m,O⟩) b (Jl _ k) rfl
  .exact J b k b (Jl _ (bh.mpr ⟨_,m,O⟩)) rfl
 refine⟨h.keep.put (I a k),λb q z=>?_,h.mt,h.pm,λx d' m=>?_,λx d' m=>?_,λx d' m=>?_,λx S2 d' m=>?_,?_⟩
 .by_cases f:b=a
  .subst f;rw[aB] at z;cases z
  .rw[au f] at z;exact h.live b q z
 .rw[ne];rcases old _ _ m with m|m
  .cases m
  .obtain⟨w',e1,dn⟩:=h.fr x d' (back _ _ m);exact⟨w',e1,dn.keep l⟩
 .rw[ne];rcases old _ _ m with m|m
  .cases m
  .obtain⟨b,us2,e1,e2,dn,u⟩:=h.ow x d' (back _ _ m);subst e1;exact⟨b,us2,rfl,by rw[au (other _ _ b m (Jf.mpr rfl))];exact e2,dn.keep l,u⟩
 .rw[ne];rcases old _ _ m with m|m
  .cases m
  .obtain⟨b,us2,e1,e2,dn,u⟩:=h.io x d' (back _ _ m);subst e1;exact⟨b,us2,rfl,by rw[au (other _ _ b m (Jf.mpr rfl))];exact e2,dn.keep l,u⟩
 .rw[ne];rcases old _ _ m with m|m
  .cases m;refine⟨v,rfl,F,λb f=>?_⟩;rcases Jj.mp (pm.mem_iff.mp f) with z|z
   .exact I b z
   .exact hT b z
  .obtain⟨w',e1,dn,u⟩:=h.tr x S2 d' (back _ _ m);subst e1;exact⟨w',rfl,dn.keep l λb f=>au (other _ _ b m (by rw[aS];exact f)),u⟩
 .rw[n];exact s.nodup_iff.mpr nd
end
section
variable {K:cb}{M P:ao->Prop}{H0 H H':Hp}{σ0 σ:St}{env:List Sl}{ts:List (V×Sl)}
def Rel.setTr{i:Nat}{S S':List ao}{d d':ah}{v:V}{A B:List Ent}(h:Rel K M P H0 σ0 σ env ts H)(e:env[i]? = some (.tr S d))(q2:aG σ (env.set i (.tr S' d')) ts=A++(some v,.tr S' d')::B)(b:bN K M P H0 (A++(some v,.tr S' d')::B) H'):Rel K M P H0 σ0 σ (env.set i (.tr S' d')) ts H':=by
 refine⟨by rw[q2];exact b,by simp[h.len],h.vw,λj ds' a=>?_⟩;by_cases hj:i=j
 .subst hj;have hi:i<env.length:=(Js.mp e).1;rw[JK hi] at a;cases a
 .rw[JJ hj] at a;exact h.ios j ds' a
end
def mH(a:List Int):o6 (a.map eb)=true:=by
 induction a with
 | nil=>rfl
 | cons n a b=>exact b
def j6{α:Type}(l:List α)(z:α):(cu l.length).map (λi=>l.getD i z)=l:=by refine K4 (!1) λi h1 h2=>?_;simp[Jh,Ji h2]
def aT{α β:Type}(l:List α)(z:α)(g:α->β):(cu l.length).map (λi=>g (l.getD i z))=l.map g:=by
 conv=>rhs;rw[<-j6 l z,JI]
 rfl
def bK{α β:Type}(l:List α)(z:α)(p:α->Bool)(g:α->β):((cu l.length).filter λi=>p (l.getD i z)).map (λi=>g (l.getD i z))=(l.filter p).map g:=by
 conv=>rhs;rw[<-j6 l z,y2,JI]
 rfl
abbrev lr(rs:List (List Int)):List ah:=rs.map λr=>.list (li r)
def fN{rs:List (List Int)}{i:Nat}{h:i<(lr rs).length}:(lr rs)[i]=.list (li (rs.getD i [])):=by
 have h':i<rs.length:=by simpa using h
 rw[JG,Jh,Ji h'];rfl
def Sh.two(c:Sh n a)(d:Sh n b):Sh (n+1) (.tuple [a,b]):=Sh.tuple λx hx=>by
 simp only[Jo,JR,or_false] at hx;rcases hx with rfl|rfl <;> assumption
section
variable {X:Cx}{K:cb}{pos:Pos}{es:List bb}{tl:DA}{e:bb}{ta:DE}{M P N:ao->Prop}{env:List Sl}
def CK(t:DA):DE:=λenv R=>t env λss a=>∃ds,i8 a ss=some ds/\ss.length<=sizeLine/\∀S,R (.tr S (.list ds)) a
def DX(h:PA X es (upA K tl)):PE X (.List es pos) (up K (CK tl)):=(uX h).imp λσ H Q h=>by
 obtain⟨M,P,H0,σ0,env,ts,R,b,f,hq⟩:=h;refine⟨M,P,H0,σ0,env,ts,_,b,f,λss d vs H1 h1 g a=>?_⟩;obtain⟨ds,e,hz,hR⟩:=h1;obtain⟨q,i⟩:=a.trees g (λp c=>Jg _ c) e;exact⟨!0,λp c=>hq _ _ _ _ (hR _) (a.resLstT c q i)⟩
def CU(i:Nat)(te:DE):DE:=λenv R=>(∃S ds,env[i]? = some (.tr S (.list ds)))/\te env λs a=>∃S ds s' d,a[i]? = some (.tr S (.list ds))/\jP a s=some s'/\jO [] s'=some d/\ds.length<sizeLine/\∀S',R (.fr .none) (a.set i (.tr S' (.list (ds++[d]))))
def D2(i:Nat){apos cpos npos:Pos}(hK:X.K=K)(hN:X.N[i]? = some y)(G:PE X e (up K ta))
  (hv:Vis X.env.scope y:=by first|exact lA rfl|exact di ci|exact di (di rfl)) (hd:(y==("__debug__" : bt))=false:=by decide)
  (z:(y==("__classdict__" : bt))=false:=by decide)
  (q:j1 [e] X.env=[(false,eval e X.env)]:=by rfl)
  (l:qb (.Name y npos) "append" X.env (eval (.Name y npos) X.env)=eval (.Name y npos) X.env:=by rfl)
  (r:((k6 cpos (j1 [e] X.env)).all (λx=>!x.1)&&(Qy cpos (Qi [] X.env)).all (λx=>x.1.isSome)&&decide ([e].length+([]:List Qd).length+(if ([]:List Qd).isEmpty then 0 else 1)<30))=true:=by rfl)
  (m:(apos.endLine==cpos.line)=true:=by rfl) (j:(k6 cpos (j1 [] X.env)).any (·.1)=false:=by rfl) :
  PE X (.Call (.Attribute (.Name y npos) "append" apos) [e] [] cpos) (up K (CU i ta)) :=
 (kBm (K:=K) hK ei nT nN jy (bG hN hv hd z) (cj G eK q) l r m q j).imp λσ H Q h=>by
 obtain⟨M,P,H0,σ0,env,ts,R,n,⟨⟨S0,I,J⟩,L⟩,hq⟩:=h;obtain⟨x,ex,O⟩:=n.slot J;obtain⟨v,ev,C,_⟩:=n.e.tr _ _ _ O;subst ev;cases C with
 | @lst a vs _ Sq T qH =>
  refine⟨.ref a,ex,.inl ⟨rfl,vs,SqL.of T⟩,M,P,H0,σ0,env,ts,_,n,L,λs1 t v1 H1 h1 f=>?_⟩;obtain⟨S,ds,s',d,e1,es,U,hz,hR⟩:=h1;obtain⟨k,V⟩:=f.unVw es;obtain⟨x',A,B,u,q1,q2⟩:=f.drop.split e1;rw[ex] at u;cases u;have D:=k.e;have W:aG σ t (ts++[(v1,s')])=A++(some (.ref a),Sl.tr S (.list ds))::(B++[(some v1,s')]):=by rw[aC,q1];simp[tmp]
  obtain⟨ot,w⟩:=k.tree (v:=v1) (s:=s') (Jg _ Jm) ((tQ (env':=[]) V).trans U);have Y:oas [((some v1,s'):Ent)]=cK (some v1,s'):=by rw[ar];simp[oas]
  rw[W] at D ot;rw[<-Y] at ot w;obtain⟨b,us,rc,E,Z,g⟩:=bN.appAtU (p:=[]) (ds:=ds) D λo nd=>o.path0 nd;cases rc;obtain⟨S',re⟩:=g (be.refl _) (λc hc=>.inr hc) D ot w;refine⟨a,us,v1,rfl,rfl,E,by rw[Z];exact hz,?_⟩;exact hq _ _ _ _ (hR S') ((f.drop.setTr e1 (q2 _) re).addFr .non)
end
def Fv:Sl->Bool
 | .ow _=>true
 | .tr _ _=>true
 | .fr _=>true
 | _=>false
section
variable {X:Cx}{K:cb}{pos:Pos}{M P N:ao->Prop}{H0 H:Hp}{σ0 σ:St}{env:List Sl}{ts:List (V×Sl)}{v:V}
def Rel.move(h:Rel K M P H0 σ0 σ env ts H)(e:env[i]? = some s)(c:Fv s=true):∃v,σ[i]? = some (some v)/\Rel K M P H0 σ0 σ (env.set i .un) (ts++[(v,s)]) H:=by
 obtain⟨x,A,B,e1,q1,q2⟩:=h.split e;have hE:=h.e;rw[q1] at hE;obtain⟨v,ev⟩:∃v,x=some v:=by
  cases s with
  | fr d=>obtain⟨v,ev,_⟩:=hE.fr _ _ (Jg _ Jm);exact⟨v,ev⟩
  | ow ds=>obtain⟨a,vs,ev,_⟩:=hE.ow _ _ (Jg _ Jm);exact⟨_,ev⟩
  | tr S d=>obtain⟨v,ev,_⟩:=hE.tr _ _ _ (Jg _ Jm);exact⟨v,ev⟩
  | _=>cases c
 subst ev;refine⟨v,e1,?_⟩;have f:aG σ (env.set i .un) (ts++[(v,s)])=(A++(some v,Sl.un)::B)++[(some v,s)]:=by rw[aC,q2];rfl
 have g:oas ((A++(some v,Sl.un)::B)++[(some v,s)])=oas A++(oas B++cK (some v,s)):=by rw[am,am,ar,gR,ar];simp[oas]
 refine⟨?_,by simp[h.len],λw j m=>?_,λj k b=>?_⟩
 .rw[f];refine hE.sub (λx t m=>?_) ?_
  .rcases Jj.mp m with m|m
   .rcases Jj.mp m with m|m
    .exact .inl (Jl _ m)
    .rcases Jo.mp m with m|m
     .cases m;exact .inr (.inl rfl)
     .exact .inl (Jg _ (Jq _ m))
   .rw[Jf] at m;cases m;exact .inl (Jg _ Jm)
  .have nd:=hE.nd;rw[am,ar] at nd;rw[g];exact(gt _ KW).nodup_iff.mpr nd
 .rcases Jj.mp m with m|m
  .exact h.vw w j m
  .rw[Jf] at m;cases m;cases c
 .by_cases hj:i=j
  .subst hj;rw[JK (Js.mp e).1] at b;cases b
  .rw[JJ hj] at b;exact h.ios j k b
def Hf(i:Nat):DE:=λenv R=>∃s,env[i]? = some s/\Fv s=true/\R s (env.set i .un)
def Gn(i:Nat)(hN:X.N[i]? = some x:=by rfl)(hv:Vis X.env.scope x:=by first|exact lA rfl|exact di ci|exact di (di rfl))(hd:(x==("__debug__" : bt))=false:=by decide)
  (b:(x==("__classdict__" : bt))=false:=by decide):PE X (.Name x pos) (up K (Hf i)):=(bG hN hv hd b).imp λσ H Q h=>by
 obtain⟨M,P,H0,σ0,env,ts,R,c,⟨s,e,d,hR⟩,hq⟩:=h;obtain⟨v,e1,a⟩:=c.move e d;exact⟨v,e1,hq _ _ _ _ hR a⟩
end
end _L
namespace _L
open PySem Builtin Builtin.Str StrLaws PySem.NumText PySem.W
def num(n:Int):bt:=gh (toString n)
end _L
namespace _L
open PySem Builtin Builtin.Str StrLaws
def sG(x:Nat):Prop:=x=44\/x=45\/(48<=x/\x<=57)
end _L
namespace _L
open PySem PySem.Spec PyProof.Rows
section
variable {X:Cx}{K:cb}
def v4:DS:=λ_ _=>False
def A4{st:Stmt}:PS X st (upS K v4):=λpins s σ H D I h=>by
 obtain⟨M,P,H0,σ0,env,ts,DD,nv,a,z,ok⟩:=h;exact z.elim
end
section
variable {X:Cx}{K:cb}
def dFz(i:Nat)(u:DS):DS:=λDD env=>∃ds,env[i]? = some (.ow ds)/\u DD (env.set i (.fr (.list ds)))
def DL(i:Nat)(h:PSs X ss (upS K u)):PSs X ss (upS K (dFz i u)):=h.imp λD σ H h=>by
 obtain⟨M,P,H0,σ0,env,ts,DD,nv,a,⟨ds,e,b⟩,ok⟩:=h;exact⟨M,P,H0,σ0,_,ts,DD,nv,a.frz e,b,ok⟩
end
end _L
namespace _L
open PySem PySem.W PyProof.Rows
def jU{α:Type}(n:Nat)(P:α->Prop):KasT α->Prop
 | .ret a=>P a
 | .ask i j k=>i<n/\j<n/\∀b,jU n P (k b)
theorem jU.bind{α β:Type}{n:Nat}{P:α->Prop}{R:β->Prop}{f:α->KasT β}(c:∀a,P a->jU n R (f a)):∀{t:KasT α},jU n P t->jU n R (t.bind f)
 | .ret a,h=>c a h
 | .ask i j k,h=>⟨h.1,h.2.1,λb=>jU.bind c (h.2.2 b)⟩
def Pn(n:Nat)(p:Array Nat):Prop:=p.Perm (cu n).toArray
def Pn.rev(h:Pn n p):Pn n (kas_rev p i j):=(mirror_perm _ _ _ _).trans h
def Pn.bub(h:Pn n p):Pn n (bubble p i j):=(bubble_perm _ _ _).trans h
def Pn.list(h:Pn n p):p.toList.Perm (cu n):=by have:=Array.perm_iff_toList_perm.mp h;simpa using this
def Pn.lt(h:Pn n p)(h1:1<=n)(k:Nat):p.getD k 0<n:=by
 by_cases hk:k<p.size
 .have e:p.getD k 0=p[k]:=by simp[Array.getD,hk]
  rw[e];have m:p[k]∈p.toList:=!1
  exact JS.mp (h.list.mem_iff.mp m)
 .have e:p.getD k 0=0:=by simp[Array.getD,hk]
  omega
section
variable (h1:1<=n)
include h1
theorem pN(h:Pn n p):∀(f k:Nat),jU n (λ_=>True) (kas_asc p f k)
 | 0,k=>trivial
 | f+1,k=>⟨h.lt h1 _,h.lt h1 _,λb=>by
  cases b with
  | true=>exact trivial
  | false=>exact pN h f (k+1)⟩
theorem iW:∀(f:Nat) (p:Array Nat) (k q:Nat),Pn n p->jU n (λr=>Pn n r.1) (kas_desc f p k q)
 | 0,p,k,q,h=>h
 | f + 1,p,k,q,h=>⟨h.lt h1 _,h.lt h1 _,λb=>by
  cases b with
  | true =>
   show jU n _ (if q>0 then _ else _);split
   .exact iW f _ _ _ h.rev
   .exact iW f _ _ _ h
  | false =>
   refine⟨h.lt h1 _,h.lt h1 _,λd=>?_⟩;cases d with
   | true=>exact h
   | false=>exact iW f _ _ _ h⟩
def lT(h:Pn n p):jU n (λr=>Pn n r.2) (kas_tail3 k r p):=by unfold kas_tail3;refine jU.bind (P:=λ_=>True) (λm _=>?_) (pN h1 h.rev _ _);exact(h.rev:Pn n (kas_rev p 0 k))
def iE(h:Pn n p):jU n (λr=>Pn n r.2) (kas_descPart k r p):=(iW h1 _ _ _ _ h).bind λa b=>by
 show jU n _ (if a.2.2>0 then _ else _);split
 .exact lT h1 (Pn.rev b)
 .exact lT h1 b
def wd(h:Pn n p):jU n (λr=>Pn n r.2) (kas_count r p):=(pN h1 h _ _).bind λk _=>by
 show jU n _ (if (k==r)=true then _ else _);split
 .exact h
 .split
  .refine⟨h.lt h1 _,h.lt h1 _,λb=>?_⟩;cases b with
   | true=>exact h
   | false=>exact iE h1 h.rev
  .exact iE h1 h
theorem jt(h:Pn n p)(k:Nat):∀f l r,jU n (λ_=>True) (kas_place p k f l r)
 | 0,l,r=>trivial
 | f + 1,l,r=>by
  show jU n _ (if l≥r then _ else _);split
  .exact trivial
  .refine⟨h.lt h1 _,h.lt h1 _,λb=>?_⟩;cases b with
   | true=>exact jt h k f _ _
   | false=>exact jt h k f _ _
theorem wv:∀(f:Nat) (p:Array Nat) (k:Nat),Pn n p->jU n (Pn n) (kas_bin f p k)
 | 0,p,k,h=>h
 | f+1,p,k,h=>(jt h1 h _ _ _ _).bind λl _=>wv f _ _ h.bub
def xt:jU n (Pn n) (kas_sort n):=(wd h1 (p:=(cu n).toArray) (Array.Perm.refl _)).bind λr a=>by
 show jU n _ (if r.1<n then _ else _);split
 .exact wv h1 _ _ _ a
 .exact a
end
theorem vz{α:Type}{n:Nat}{c:Nat->Nat->(Bool->az->Prop)->az->Prop}{P:α->Prop}{Q:α->az->Prop}(I:az->Prop)
  (hc:∀i j C s,i<n->j<n->I s->(∀b s',I s'->C b s')->c i j C s) (hQ:∀a s,P a->I s->Q a s):∀{t:KasT α}{s:az},jU n P t->I s->t.kasWp c Q s
 | .ret a,s,h,i=>hQ a s h i
 | .ask x y k,s,h,i=>hc x y _ s h.1 h.2.1 i λb s' d=>vz I hc hQ (h.2.2 b) d
end _L
namespace _L
open PySem PySem.Spec PyProof.Rows PySem.W
open PySem.SeqAt PySem.MeetsSeq PySem.MeetsSeq2 PySem.MeetsSeq3 PySem.SeqRoads2
open PySem.AutoSeq1 (wpAny_loadPart')
def vq(l b:ao)(items a:Array av)(n C:Nat)(dd r:Option ao)(sl v:Array (Option av))(z:∀j (h:j<items.size),∃x t,items[j]=eC x t)(B:∀j (h:j<a.size),∃x t,a[j]=eC x t)(k:Nat) :
  ∀i : Nat,items.size - i=k->Meets (Builtin.«list.__eq__.loop» ⟨[.ref l,.ref b,Qo i,Qo 0],[]⟩)
   (λA R s=>s.heap.get? l=some { cls:=.type "list",dict:=dd,data:=.seq items n,slots:=sl }/\s.heap.get? b=some { cls:=.type "list",dict:=r,data:=.seq a C,slots:=v } /\
    ∀c:Bool,R (.ok (.ret (.bool c))) s):=by
 induction k with
 | zero =>
  intro i hk prog w A R s h;obtain⟨D,g,d,tk,os⟩:=s;obtain⟨o,p,h⟩:=h
  wp_walk using wpAny_loadPart' o,wpAny_loadPart' p
  have e:items[((i:Nat):Int).toNat]? = none:=by simp;omega
  rw[e]
  wp_walk using wpAny_loadPart' o,wpAny_loadPart' p
  exact h _
 | succ k E =>
  intro i hk prog w A R s h;obtain⟨D,g,d,tk,os⟩:=s;obtain⟨o,p,h⟩:=h
  wp_walk using wpAny_loadPart' o,wpAny_loadPart' p
  have q:i<items.size:=!0
  have e:items[((i:Nat):Int).toNat]? = some items[i]:=by simp[q]
  have hc:((i:Int)+1)=((i+1:Nat):Int):=by push_cast;rfl
  rw[e];by_cases m:i<a.size
  .have f:a[((i:Nat):Int).toNat]? = some a[i]:=by simp[m]
   rw[f];obtain⟨x,t,e1⟩:=z i q;obtain⟨y,u,e2⟩:=B i m;rw[e1,e2];refine jj (QN ?_);cases hb':(x==y) with
   | true =>
    wp_walk
    rw[hc];exact⟨QB Zq _,QD entry_eq_loop (by
     rw[Around.under_plainId Zq _];exact E (i+1) (!0) prog w A R _ ⟨o,p,h⟩)⟩
   | false =>
    wp_walk using wpAny_loadPart' o,wpAny_loadPart' p
    rw[e,f,e1,e2];refine jj (show j4 (kw prog w) A.in1 (k0 .Lt (.int x t) (.int y u)) _ _ _ from wpAny_lt_int (j0 (h _)))
  .have f:a[((i:Nat):Int).toNat]? = none:=by simp;omega
   rw[f]
   wp_walk using wpAny_loadPart' o,wpAny_loadPart' p
   exact h _
def mL(l b:ao)(items a:Array av)(n m:Nat)(dd e:Option ao)(sl f:Array (Option av))(i:∀j (h:j<items.size),∃x t,items[j]=eC x t)(k:∀j (h:j<a.size),∃x t,a[j]=eC x t) :
  Meets (Builtin.«list.__lt__» ⟨[.ref l,.ref b],[]⟩)
   (λA R s=>s.heap.get? l=some { cls:=.type "list",dict:=dd,data:=.seq items n,slots:=sl }/\s.heap.get? b=some { cls:=.type "list",dict:=e,data:=.seq a m,slots:=f } /\
    ∀c:Bool,R (.ok (.ret (.bool c))) s):=by
 intro prog w A R s h;obtain⟨q,g,d,tk,os⟩:=s;obtain⟨o,p,h⟩:=h;have r:=AutoSeq1.sub_list_list
 wp_walk using wpAny_loadPart' o,wpAny_loadPart' p
 exact⟨QB Zq _,QD entry_eq_loop (by
  rw[Around.under_plainId Zq _];exact vq l b items a n m dd e sl f i k _ 0 rfl prog w A R _ ⟨o,p,h⟩)⟩
section
def yd(p:s.heap.IsList l items)(q:s.heap.IsList b a)(g:∀j (h:j<items.size),∃x t,items[j]=eC x t)(i:∀j (h:j<a.size),∃x t,a[j]=eC x t)
  (r:A.units<zs) (h:∀c:Bool,Q (.bool c) s):j4 (kw prog w) A (k0 .Lt (.ref l) (.ref b)) Q E s:=by
 obtain⟨⟨cls,dd,data,sl⟩,ho,hc,n,hd⟩:=id p;obtain⟨⟨o,k,data2,m⟩,d,e,u,f⟩:=id q;simp only at hc hd e f;subst hc hd e f;exact Z3 (op:=.Lt) ⟨_,ho,rfl⟩ ⟨_,d,rfl⟩ F.slot_list_lt F.entry_list_lt (F.args_list_lt_2 _ _) (mL l b items a n u dd k sl m g i)
  ⟨ho,d,λc=>show hI c≠Ly/\Q (.bool c) s from⟨(λx=>nomatch x),h c⟩⟩ r
def nM(prog:ky)(w:k3)(A:Around)(vs:List av)(s:az):Prop :=
 j4 (kw prog w) A (keyKind' vs.toArray) (λκ s'=>s'=s/\∀i j (C:Bool->az->Prop),i<vs.length->j<vs.length->(∀b,C b s)->kas_ask prog w A κ vs i j C s) (λ_ _=>False) s
def uV(h:Pn vs.length p):(p.toList.map λi=>vs.getD i dt).Perm vs:=by
 have h1:=(h.list).map λi=>vs.getD i dt;refine h1.trans (List.Perm.of_eq ?_);apply K4
 .simp
 .intro i a b;simp at a;simp[a]
end
end _L
namespace _L
open PySem PySem.Spec PyProof.Rows PySem.W
def Da(h:bg)(v:av):Prop:=∃(a:ao) (o:Obj) (n:Nat) (x:Int) (t:Tok) (l:ao) (its:Array av) (b:List Int) (as:List ao),v=.ref a/\h.get? a=some o/\o.cls=.type "tuple" /\ o.data=.seq #[.int x t,.ref l] n/\h.IsList l its/\(∀j (h:j<its.size),∃x t,its[j]=eC x t)/\Reads h (.ref l) (.list (b.map eb)) as
def B8(d:ah):Prop:=∃(n:Int) (a:List Int),d=.tuple [.int n,.list (a.map .int)]
section
variable {X:Cx}{pins:List (ao×Obj)}{σ:St}{H:Hp}{s:az}
theorem iT:∀{a:List Int}{vs:List V}{us:List av},DVs X.K H vs (a.map .int)->aW vs us->∀j (h:j<us.length),∃x t,us[j]=eC x t
 | [],_,_,.nil,.nil,j,h=>by simp at h
 | n::a,_,_,.cons d q,.cons r t,0,h=>by
  cases d;obtain⟨t,rfl⟩:=r;exact⟨_,_,rfl⟩
 | n::a,_,_,.cons d q,.cons r t,j+1,h=>by
  obtain⟨x,u,e⟩:=iT q t j (by simpa using h);exact⟨x,u,by simpa using e⟩
def EE(I:Inv X pins σ H s)(hd:DV X.K H v d)(r:bD v u)(k:B8 d):Da s.heap u:=by
 obtain⟨n,g,rfl⟩:=k;cases hd with
 | @tup a xs _ h q =>
  cases (show _=cn a from r);obtain⟨its,rv,⟨o,e,c,m,hd⟩,_⟩:=I.tuple h;cases q with
  | cons q1 q2 =>
   cases q2 with
   | cons q2 i =>
    cases i;cases q1;cases rv with
    | cons p rv =>
     cases rv with
     | cons f rv =>
      cases rv;obtain⟨t,rfl⟩:=p;obtain⟨as,w⟩:=q2.reads I f (by simpa only[dV] using bW _);cases q2 with
      | @lst l ys _ h2 q2 =>
       cases (show _=cn l from f);obtain⟨b,x,pl,_⟩:=I.list h2;exact⟨a,o,m,n,t,l,b.toArray,g,as,rfl,e,c,hd,pl.isList,λj hj=>iT q2 x j (by simpa using hj),w⟩
theorem vv(I:Inv X pins σ H s):∀{vs:List V}{ds:List ah}{us:List av},DVs X.K H vs ds->aW vs us->(∀d∈ds,B8 d)->∀u∈us,Da s.heap u
 | _,_,_,.nil,.nil,_,u,a=>by simp at a
 | _,_,_,.cons d q,.cons r t,k,u,a=>by
  rcases Jo.mp a with rfl|a
  .exact EE I d r (k _ (!1))
  .exact vv I q t (λd hd=>k d (by simp[hd])) u a
end
section
theorem ke:∀{us:List av},(∀u∈us,Da h u)->∃fs,KatTups h us fs/\fs.length=us.length/\∀f∈fs,∃x t,f=eC x t
 | [],_=>⟨[],.nil,rfl,λf b=>by simp at b⟩
 | u::us,k=>by
  obtain⟨fs,h1,h2,h3⟩:=ke (us:=us) λv hv=>k v (by simp[hv]);obtain⟨a,o,n,x,t,l,its,g,as,rfl,e,c,d,_⟩:=k u (!1);refine⟨.int x t::fs,.cons e c d (by rfl) h1,by simp[h2],λf b=>?_⟩;rcases Jo.mp b with rfl|b
  .exact⟨x,t,rfl⟩
  .exact h3 f b
def EF(y:A.units+64<zs)(i:Da s.heap u)(j:Da s.heap v)(h:∀b,C b s):j4 (kw prog w) A (Z5 (tuples' true) u v) C E s:=by
 obtain⟨a,o,n,x,t,l,its,f,as,rfl,e,c,d,i1,i2,k⟩:=i;obtain⟨z,o',B,D,t',F,its',g,m,rfl,p,c',d',q,j2,r⟩:=j;refine kat_lt e d p d' ?_;refine kat_cons (QN ?_);refine kat_go (λ_=>kat_yes ?_) λ_=>kat_no (oneLt_int (h _));refine kat_cons (Lz _ _ _ _ _ _ _ _ _ _ _ _ k r ?_ ?_ ?_ ?_)
 .simp[dV,bW]
 .simp[dV,bW]
 .have:∀f:List Int,(dy (f.map eb)).depth<=64:=λf=>by
   have:=F9 f;exact p7 this
  have:=this f;have:=KC (dy (f.map eb)).depth (dy (g.map eb)).depth;omega
 .refine kat_go (λ_=>kat_yes (kat_nil (h _))) λ_=>kat_no (kat_one _ _ ?_);exact yd i1 q i2 j2 (!0) λb=>h b
def ED(a:A.units+64<zs)(h2:2<=us.length)(k:∀u∈us,Da s.heap u):nM prog w A us s:=by
 obtain⟨fs,h1,h3,h4⟩:=ke k;refine kat_kind (T:=.type "int") h1 (!0) (λv hv=>?_) (by rfl) ⟨rfl,λi j C hi hj hc=>?_⟩
 .obtain⟨x,t,rfl⟩:=h4 v hv;exact .now
 .have e1:us.getD i dt=us[i]:=by simp[hi]
  have e2:us.getD j dt=us[j]:=by simp[hj]
  show j4 (kw prog w) A (Z5 _ (us.getD i dt) (us.getD j dt)) C (λ_ _=>False) s;rw[e1,e2];exact EF a (k _ (JF hi)) (k _ (JF hj)) hc
end
def cY{α β:Type}{f:α->β}{ws bs:List β}(h:ws.Perm bs):∀t:List α,bs=t.map f->∃t':List α,t'.Perm t/\ws=t'.map f:=by
 induction h with
 | nil =>
  intro t e;cases t with
  | nil=>exact⟨[],.refl _,rfl⟩
  | cons _ _=>cases e
 | cons x _ a =>
  intro t e;cases t with
  | nil=>cases e
  | cons y t =>
   injection e with e1 e2;obtain⟨t',p,b⟩:=a t e2;exact⟨y::t',p.cons y,by rw[e1,b];rfl⟩
 | swap x y l =>
  intro t e
  match t,e with
  | z1::z2::t,e =>
   injection e with e1 e2;injection e2 with e2 e3;exact⟨z2::z1::t,.swap ..,by rw[e1,e2,e3];rfl⟩
 | trans _ _ ih1 ih2 =>
  intro t e;obtain⟨t1,c,e1⟩:=ih2 t e;obtain⟨t2,p2,e2⟩:=ih1 t1 e1;exact⟨t2,p2.trans c,e2⟩
theorem tL:∀{t:List (av×V×ah)},(∀x∈t,bD x.2.1 x.1)->aW (t.map (·.2.1)) (t.map (·.1))
 | [],_=>.nil
 | x::t,h=>.cons (h x (!1)) (tL λy a=>h y (by simp[a]))
theorem pR:∀{vs:List V}{us:List av}{ds:List ah},aW vs us->∀x∈us.zip (vs.zip ds),bD x.2.1 x.1
 | _,_,_,.nil,x,h=>by simp at h
 | _,_,[],.cons r t,x,h=>by simp at h
 | _,_,d::ds,.cons r t,x,h=>by
  simp only[Kk] at h;rcases Jo.mp h with rfl|h
  .exact r
  .exact pR t x h
def Cu{K:cb}{H:Hp}{vs:List V}{ds:List ah}(h:DVs K H vs ds):vs.length=ds.length:=DVs.ind (C:=λv d=>v.length=d.length) rfl (λ_ _ i=>by rw[JX,JX,i]) h
def vR{K:cb}{N:ao->Prop}{H:Hp}{vs:List V}{ds:List ah}(h:DNs K N H vs ds):∀z∈vs.zip ds,DN K N H z.1 z.2:=DNs.ind (C:=λvs ds=>∀z∈vs.zip ds,DN K N H z.1 z.2) (λz h=>by simp at h) (λd _ i z h=>by
  simp only[Kk] at h;rcases Jo.mp h with rfl|h
  .exact d
  .exact i z h) h
theorem vS{K:cb}{N:ao->Prop}{H:Hp}:∀{a:List (V×ah)},(∀z∈a,DN K N H z.1 z.2)->DNs K N H (a.map (·.1)) (a.map (·.2))
 | [],_=>.nil
 | x::t,h=>.cons (h x (!1)) (vS λy b=>h y (by simp[b]))
section
variable {X:Cx}{K:cb}{e o:bb}
variable {ta to:DE}
def oQ:PE X (.UnaryOp .USub (.Constant (.int 1) j p3) p4) (tC (.int (-1))):=(D9 gc j9).imp λσ H Q h=>⟨1,rfl,h⟩
def zK(K:cb):V->List V->Hp->VK->Prop:=λx vs H Q=>∃(p:ao) (a:List Int) (i:Int),x=.ref p/\vs=[.int i]/\SqL K H p (a.map .int)/\i∈a/\a.length<=1000000/\∀j:Nat,j<a.length->a.getD j 0=i->Q (.int j) H
def yM{a:List Int}(h:i∈a):∃j,∃hj:j<a.length,a[j]=i/\∀m (b:m<a.length),m<j->a[m]≠i:=by
 induction a with
 | nil=>cases h
 | cons n a c =>
  by_cases e:n=i
  .exact⟨0,!1,by simpa using e,λm _ b=>!0⟩
  .rcases Jo.mp h with h|h
   .exact absurd h.symm e
   .obtain⟨j,hj,e1,e2⟩:=c h;refine⟨j+1,by simpa using hj,by simpa using e1,λm b d=>?_⟩;cases m with
    | zero=>simpa using e
    | succ m=>simpa using e2 m (by simpa using b) (!0)
def xZ:MtR X "list.index" (zK X.K):=by
 intro pins s σ H x vs v us Q I f rv h;obtain⟨p,d,i,rfl,rfl,g,hi,hz,q⟩:=h;cases (show v=cn p from f);obtain⟨u,rfl,k⟩:=rv.one;obtain⟨t,rfl⟩:=k;obtain⟨its,r,pl,_⟩:=I.list g;have l:=r.length;simp only[Je] at l;obtain⟨j,hj,e1,e2⟩:=yM hi;have a:∀(m:Nat) (b:m<its.length),∃t,its[m]=eC (d[m]'(!0)) t:=λm b=>by
  obtain⟨u,e1,⟨t,e2⟩⟩:=r.get (i:=m) (x:=.int (d[m]'(!0))) (by rw[JE,Ji (!0)];rfl);rw[Ji b] at e1;cases e1;exact⟨t,e2⟩
 let ev:av->Bool:=λy=>match y with|.int n _=>n==i|_=>false
 obtain⟨⟨cls,dd,data,sl⟩,n,ho,hc,o,hd⟩:=pl;simp only at hc hd;subst hc hd;refine QP F.slot_list_index ⟨_,ho,rfl⟩ F.entry_list_index (F.args_list_index_2 _ _) (LL p its.toArray n dd sl (.int i t) ev j (by simp;omega) (!0) ?_ λm b c=>?_) ⟨ho,λy w=>?_,⟨.int j,H,I.tok _,⟨_,rfl⟩,q j hj (by rw[Jh,Ji hj];exact e1)⟩⟩
 .obtain⟨t',e⟩:=a j (!0);show ev its[j]=true;rw[e,e1];simp[ev]
 .obtain⟨t',e⟩:=a m (by simpa using b);show ev its[m]=false;rw[e];have:=e2 m (by simp at b;omega) c;simp[ev,this]
 .obtain⟨m,b,rfl⟩:=LF w;obtain⟨t',e⟩:=a m (by simpa using b);show r2 _ _ its[m] _ (ev its[m]);rw[e];exact Lj _ _ _ _
def EN(hK:X.K=K):MtR X "list.index" (zK K):=by subst hK;exact xZ
def v6(to ta:DE):DE:=λenv R=>to env λs b=>∃es c,aO b s=some (.list es)/\fi es=some c/\ta b λs2 a=>∃i,aO a s2=some (.int i)/\aO a s=some (.list es)/\i∈c/\c.length<=1000000/\∀j:Nat,j<c.length->c.getD j 0=i->R (.fr (.int j)) a
def A7{apos cpos:Pos}(hK:X.K=K)(ho:PE X o (up K to))(u:PE X e (up K ta))
  (k:j1 [e] X.env=[(false,eval e X.env)]:=by rfl)
  (f:qb o "index" X.env (eval o X.env)=eval o X.env:=by rfl)
  (l:((k6 cpos (j1 [e] X.env)).all (λx=>!x.1)&&(Qy cpos (Qi [] X.env)).all (λx=>x.1.isSome)&&decide ([e].length+([]:List Qd).length+(if ([]:List Qd).isEmpty then 0 else 1)<30))=true:=by rfl)
  (g:(apos.endLine==cpos.line)=true:=by rfl) (c:(k6 cpos (j1 [] X.env)).any (·.1)=false:=by rfl) :
  PE X (.Call (.Attribute o "index" apos) [e] [] cpos) (up K (v6 to ta)) :=
 (kBm (K:=K) hK ei H7 Hs (EN hK) ho (cj u eK k) f l g k c).imp λσ H Q h=>by
 obtain⟨M,P,H0,σ0,env,ts,R,n,w,hq⟩:=h;refine⟨M,P,H0,σ0,env,ts,_,n,w,λs1 m v1 H1 h1 d=>?_⟩;obtain⟨es,y,e1,e2,h1⟩:=h1;obtain⟨a,vs,ev,sq,q⟩:=(d.view (v:=v1) (!1) e1).list;subst ev;refine⟨.inl ⟨rfl,_,sq⟩,M,P,H0,σ0,m,ts++[(.ref a,s1)],_,d,h1,λs2 t z H2 h2 b=>?_⟩;obtain⟨i,e3,e4,hi,hz,hR⟩:=h2;have p:=(b.view (v:=z) (!1) e3).int;subst p;obtain⟨B,vs',ev,r,q'⟩:=(b.view (v:=.ref a) (!1) e4).list;cases ev;refine⟨a,y,i,rfl,rfl,?_,hi,hz,λj hj s=>hq _ _ _ _ (hR j hj s) ?_⟩
 .have A:=cC e2;subst A;rw[<-q'.ints];exact r
 .exact b.drop.res (be.refl _) (.int _)
end
end _L
namespace _L
open PySem PySem.Spec PyProof.Rows PySem.W PySem.Calls
end _L
namespace _L
open PySem PySem.Spec PyProof.Rows
section
def Al(P:ah->Prop)(hz:ds.length<=1000000)(h:∀i,(h:i<ds.length)->∀Q:ah->Prop,(∀d,P d->Q d)->g ds[i] (iH ix env) λb=>te b λs c=>∃d,aL c s=some d/\Q d)
  (hR:∀rs:List ah,rs.length=ds.length->(∀d∈rs,P d)->R (.ow rs) env):CD ds ix g Af te env R:=by
 refine⟨λi rs=>rs.length=i/\i<=ds.length/\∀d∈rs,P d,⟨rfl,JD _,!1⟩,λi rs hi w=>?_,λrs w=>hR rs w.1 w.2.2⟩;obtain⟨a,f,e⟩:=w;refine⟨by rw[a];exact Jp (!0) af,?_⟩;have:=h i hi (λd=>(rs++[d]).length=i+1/\i+1<=ds.length/\∀x∈rs++[d],P x) λd hd=>⟨by simp[a],hi,λx hx=>by
  rcases Jj.mp hx with hx|hx
  .exact e x hx
  .rw[Jf.mp hx];exact hd⟩
 simpa only[Af,if_true] using this
end
theorem lH{p:Int->Prop}:∀{rs:List ah},(∀d∈rs,∃x:Int,d=.int x/\p x)->∃a:List Int,rs=li a/\∀x∈a,p x
 | [],_=>⟨[],rfl,!1⟩
 | d :: rs,h=>by
  obtain⟨a,rfl,h2⟩:=lH (rs:=rs) λe c=>h e (by simp[c]);obtain⟨x,rfl,hx⟩:=h d (!1);exact⟨x::a,rfl,λy b=>by
   rcases Jo.mp b with rfl|b
   .exact hx
   .exact h2 y b⟩
end _L
namespace _L
open PySem PySem.Spec PyProof.Rows PySem.W
section
variable {CX:CXT}{P:ky}{w:k3}{K:cb}{mg:bt->Option av}{base:bg}{k:Nat}{f c':ao}{qual:bt}{params:Zm}{body:bb}{scope:Qn}{pm ctv:av}{N ps:List bt}
 {A : Around}{outer:List Env}{s:az}{H:Hp}{us:List av}{vs:List V}{Q:VK}{E:XK}{t:TE}
def BX(S:ax N ps scope)(i:eM (k+1) A)(c:wV P w K mg base A outer s H)(ho:s.heap.get? f=some (Zs "<lambda>" qual params body scope [] pm c' ctv))(d:s.heap.CodeRec (.ref c') qual)
  (j:QK (kla_fn "<lambda>" qual params body scope [] pm (.ref c') ctv) ⟨us,[]⟩=pure (ps.zip us)) (r:aW vs us) (l:vs.length=ps.length)
  (m:PE (tD CX P w K mg base N qual scope f (.ref c') A outer s H E) body t) (hq:t (start N vs) H Q):Qv (kw P w) A (.call (.ref f) ⟨us,[]⟩) (CR CX outer P w H s Q E) s:=by
 have g:s.heap.NoLimit:=c.mod.nolimit.keeps λb o e=>(c.bs b o e).1;have a:∀y∈ps.zip us,scope.names.lookup y.1=some .local\/(scope.names.lookup y.1=some .cell/\((Qa (s.heap.objs.size+1) scope.names []).lookup y.1).isSome=true):=λ⟨n,v⟩ p=>by
  rcases S.par n (Lb p).1 with q|q
  .exact .inl q
  .exact .inr ⟨q,oL _ _ _ (.inl q)⟩
 refine kla_callFunE i.depth ho rfl S.co S.gen rfl d ?_;rw[j];refine j0 ?_;refine ZN S.kind a λenv z s1 x=>?_;subst z;refine⟨g.keeps x.toInCall.keep,kla_codeExpr ?_⟩;have I:Inv (tD CX P w K mg base N qual scope f (.ref c') A outer s H E) [] (start N vs) H s1:=nc S i.hd c l r x;refine z5 (m [] s1 (start N vs) H _ I hq) (λu s' h=>?_) λe s' h=>h;obtain⟨v,H',J,rv,q⟩:=h;exact⟨v,H',J.os,J.bare,J.base,J.hok,rv,q⟩
end
def tw(l:List av)(h:TriplesOk l)(hn:Zk pos (l++[Qo a,Qo b,c])=some cv):Zk pos l=some cv\/cv=c:=by
 fun_induction TriplesOk l with
 | case1 =>
  simp only[ra,Zk,Qo] at hn;split at hn
  .cases hn;exact .inr rfl
  .cases hn
 | case2 e t f u x rest d =>
  simp only[vr,Zk] at hn ⊢;split at hn
  .rename_i hc;rw[Mz hc];exact .inl hn
  .rename_i hc;rw[MA hc];exact d h hn
 | case3 l h1 h2=>exact h.elim
def Fr(H:Hp)(c:ao)(q:bt):Prop:=∃oc u vs t,H c=some (.frz oc u)/\oc.data=.fields vs/\vs[1]? = some (.str q t)
def zk(X:Cx):Prop:=∃c T,X.env.code=.ref c/\CodeHd X.base c T/\jK X.K T (X.env.qual ++ "<lambda>")
section
variable {X:Cx}{pins:List (ao×Obj)}{σ:St}{H:Hp}{s:az}
def Inv.grow(I:Inv X pins σ H s){T c':ao}{q:bt}{h':bg}{oc:Obj}{vs:Array av}{t:Tok}{tk:Nat}(hT:H T=some (.tbl q))(hx:x2 T s.heap h')(hc:s.heap.objs.size<=c')(ho:h'.get? c'=some oc)(hd:oc.data=.fields vs)(hv:vs[1]? = some (.str q t))
  (g:C1 (upd H c' (.frz oc (.own 0))) h' T q):Inv X pins σ (upd H c' (.frz oc (.own 0))) { s with heap:=h',toks:=tk }/\be H (upd H c' (.frz oc (.own 0))):=by
 have hn:H c'=none:=I.hok.fresh hc;have d:T<s.heap.objs.size:=I.hok.lt hT;have i:T≠c':=JH (Jp d hc);obtain⟨j,k,_⟩:=id g;refine⟨I.un (t':=tk) ⟨λb o e n _ _=>?_,λb o e n _ _=>⟨o.slots,?_⟩,λb o e n _=>?_,λb o e _=>?_,λb xs e=>?_,λb o u e=>?_,λb q e=>?_⟩ (λb u e=>?_),λb o e=>by rw[au (aJ e hn)];exact e⟩
 .exact hx b o (λz=>by rw[z,hT] at n;cases n) e
 .exact hx b o (λz=>by rw[z,hT] at n;cases n) e
 .rw[au (JH (Jp (Jv e) hc))];exact n
 .by_cases z:b=T
  .subst z;exact⟨_,k⟩
  .exact⟨o,hx b o z e⟩
 .rw[au (aJ e hn)];exact e
 .rw[au (aJ e hn)];exact e
 .rw[au (aJ e hn)];exact e
 .by_cases h:b=c'
  .subst h;rw[aB] at e;cases e;exact⟨ho,_,ho⟩
  .rw[au h] at e;by_cases a:b=T
   .subst a;rw[hT] at e;cases e;exact g
   .refine(I.hok b u e).stay (λc v f q=>hx c v ?_ q) (λc q=>by rw[au (aJ q hn)];exact q) λc o _ q=>by rw[au (aJ q hn)];exact q
    rcases f with z|z
    .rw[z];exact a
    .exactλl=>by rw[l,hT] at z;cases z
end
section
def nO(X:Cx)(pins:List (ao×Obj))(σ:St)(H:Hp)(s:az)(d:ah)(u:av)(s':az):Prop :=
 ∃H' v,Inv X pins σ H' s'/\be H H'/\bD v u/\DN X.K N0 H' v d/\∀b o,iK X pins H b->s.heap.get? b=some o->s'.heap.get? b=some o/\H' b=none
end
section
def vK(h:iK X pins H b)(n:H' b=none):iK X pins H' b:=⟨n,h.2⟩
def tK(h:aW xs us)(q:bD x u):aW (xs++[x]) (us++[u]):=by
 induction h with
 | nil=>exact .cons q .nil
 | cons r _ i=>exact .cons r i
end
section
variable {K:cb}
def ER(d:ah):Prop:=∃a:List Int,d=.list (a.map .int)
theorem vT:∀{vs:List V}{ds:List ah}{us:List av},DNs K N H vs ds->aW vs us->∀u∈us,∃v d,bD v u/\DN K N H v d/\d∈ds
 | _,_,_,.nil,.nil,u,h=>by cases h
 | _,_,_,.cons (d:=d) q1 q2,.cons r t,u,h=>by
  rcases Jo.mp h with rfl|h
  .exact⟨_,d,r,q1,!1⟩
  .obtain⟨v,d,a,b,c⟩:=vT q2 t u h;exact⟨v,d,a,b,by simp[c]⟩
end
section
variable {P:ky}{w:k3}{K:cb}{mg:bt->Option av}{base:bg}
def wM(K:cb)(base:bg)(x:bt)(fd:ki):Prop:=∃c T,fd.code=.ref c/\CodeHd base c T/\jK K T (x ++ ".<locals>.<lambda>")
def HK{x:bt}{st:Stmt}{f:ao}{fd:ki}{N ps:List bt}{k:Nat}{sp:DSp}(F:Fun K x x st f fd)(S:ax N ps (ad st))(len:∀ss R,sp ss R->ss.length=ps.length)(hN:ps.length<=N.length)
  (b:∀(cdv:av) (a:cdv=fd.code) (A:Around) (outer:List Env) (s:az) (H:Hp) (E:XK),eM k (A.deeper (Q3 x (ad st) s.heap.objs.size f cdv)) ->
   ∃t:DS,PSs (tD CX0 P w K mg base N x (ad st) f cdv A outer s H E).nox (cE st) (upS K t)/\∀ss R,sp ss R->t (pE ps.length R) (cU N.length ss)):ca P w K mg base CX0 (k+1) f fd ps (spD K sp):=by obtain⟨oc,od,kV,doc,pm,an,cdv,ct,osl,rfl,c,a⟩:=F.ex;exact IG (λA outer s H E d=>b cdv rfl A outer s H E d) c a S len hN
def wN(vs:Array av)(c T:ao):Prop:=vs[11]? = some (.ref T)/\vs.getD 11 .none=.ref T/\(∃a d,vs.getD 18 .none=.str a d)/\(∃i t,vs.getD 7 .none=.int i t)/\(∃b,vs.getD 9 .none=.bool b)/\(∃i t,vs.getD 10 .none=.int i t)/\c≠T
def Ex(hx:x∈fG)(a:cc K kq x=some (some (.ref f)))(l:K.lookup f=some ⟨oc,od,.func fd,osl⟩)(hc:fd.code=.ref c)
  (h:K.lookup c=some ⟨.type "code",e,.fields vs,g⟩) (hT:wN vs c T) (k:K.In base):wM K base x fd:=by obtain⟨h1,h2,⟨d,m,h3⟩,⟨i,t,h4⟩,⟨b,h5⟩,⟨j,u,h6⟩,n⟩:=hT;exact⟨c,T,hc,⟨_,vs,d,m,i,t,b,j,u,k _ _ h,rfl,rfl,h1,h2,h3,h4,h5,h6,n⟩,x,hx,f,_,fd,c,_,vs,a,l,rfl,hc,h,rfl,h1,rfl⟩
structure tx(K:cb)(h:bg)(x:bt)(c T:ao):Prop where
 tab:∀T0,(∃f o fd c0 oc vs,cc K kq x=some (some (.ref f))/\K.lookup f=some o/\o.data=.func fd/\fd.code=.ref c0/\K.lookup c0=some oc/\oc.data=.fields vs/\vs[11]? = some (.ref T0))->T0=T
 at':h.get? T=some { cls:=.none,data:=.fields #[] }/\K.lookup T=none/\∃c,h.TableAt c T #[]
def rm
  (G : v2 q b [] p w s₀ mg mb h) (r:K.In h) (s:(recsOf q).find? (λe=>e.name==x)=some d)
  (a : cc K kq x=some (some (.ref f))) (l:K.lookup f=some ⟨oc,od,.func fd,osl⟩) (hc:fd.code=.ref c) (k:K.lookup c=some ⟨.type "code",i,.fields vs,j⟩) (hT:wN vs c T) (hn:K.lookup T=none):tx K h x c T:=by
 have t:tabIn K x=some (c,T):=by unfold tabIn;rw[a];simp only[l,hc,k,hT.1]
 obtain⟨C,g⟩:=tab_of G.T r s t;refine⟨λT0 e=>?_,g,hn,c,C.tab g⟩;obtain⟨B,D,u,c0,v,y,a1,a2,z,m,n,A,o⟩:=e;rw[a] at a1;cases a1;rw[l] at a2;cases a2;cases z;rw[hc] at m;cases m;rw[k] at n;cases n;cases A;rw[hT.1] at o;cases o;rfl
def AI(ps:List (bt×ao×ao))(a:∀p∈ps,tx K h p.1 p.2.1 p.2.2)(nd:(ps.map λp=>p.2.2).Nodup)(hL:∀n∈fG,n∈ps.map (·.1)\/cc K kq n=some none) :
  ∃tb:List (ao×bt),(∀b q,tb.lookup b=some q->h.get? b=some { cls:=.none,data:=.fields #[] }/\K.lookup b=none/\∃c,h.TableAt c b #[])/\∀T q,jK K T q->tb.lookup T=some q:=by
 refine⟨ps.map λp=>(p.2.2,p.1 ++ ".<locals>.<lambda>"),λb q' e=>?_,λT0 q' L=>?_⟩
 .have : ∃p∈ps,p.2.2=b:=by
   clear a nd hL
   induction ps with
   | nil=>cases e
   | cons p ps f =>
    rw[Jr,J1] at e;by_cases k:b=p.2.2
    .exact⟨p,Jm,k.symm⟩
    .have h1:(b==p.2.2)=false:=by simpa using k
     rw[h1] at e;obtain⟨p',m,o⟩:=f e;exact⟨p',Jq _ m,o⟩
  obtain⟨p,m,rfl⟩:=this;exact(a p m).at'
 .obtain⟨n,r,s,t,g,c0,i,j,a1,a2,u,v,w,x,l,rfl⟩:=L;rcases hL n r with d|d
  .obtain⟨p,m,rfl⟩:=Jk.mp d;have e:=(a p m).tab T0 ⟨s,t,g,c0,i,j,a1,a2,u,v,w,x,l⟩;subst e;clear a hL a1 l d
   induction ps with
   | nil=>cases m
   | cons p' ps f =>
    rw[Jr,J1];rw[Jr,JO] at nd;rcases Jo.mp m with rfl|m
    .simp
    .have h1:(p.2.2==p'.2.2)=false:=by
      simp only[beq_eq_false_iff_ne,ne_eq]
      exactλz=>nd.1 (z▸Ky m)
     rw[h1];exact f nd.2 m
  .rw[d] at a1;cases a1
def BY:∀p∈([]:List (bt×ao×ao)),tx K h p.1 p.2.1 p.2.2:=λp a=>by cases a
def rh(h1:tx K h x c T)(h2:∀p∈ps,tx K h p.1 p.2.1 p.2.2):∀p∈(x,c,T)::ps,tx K h p.1 p.2.1 p.2.2:=λp a=>by
 rcases Jo.mp a with rfl|a
 .exact h1
 .exact h2 p a
def BZ{P:bt->Prop}(h1:P "choices")(h2:P "full_rows")(h3:P "chain_plan")(h4:P "least_ranks"):∀n∈fG,P n:=λn hn=>by
 simp only[fG,Jo,JR,or_false] at hn;rcases hn with rfl|rfl|rfl|rfl <;> assumption
end
end _L
namespace _L
open PySem PySem.Spec PyProof.Rows PySem.W
open PySem.SeqAt PySem.MeetsSeq PySem.MeetsSeq2 PySem.MeetsSeq3 PySem.SeqRoads2
open PySem.AutoSeq1 (wpAny_loadPart')
end _L
namespace _L
open PySem PySem.Spec PyProof.Rows PySem.W
end _L
namespace _L
open PySem PySem.Spec PyProof.Rows PySem.W
open Builtin Builtin.ObjectAttr
end _L
namespace _L
open PySem PySem.Spec PyProof.Rows PySem.W
abbrev Hx:=List Sl->(Sl->List Sl->Prop)->(Int->Prop)->Prop
def us1{Q:List av->Prop}{us:List av}(l:us.length=1)(h:∀a:av,Q [a]):Q us:=by obtain⟨a,rfl⟩:=mP l;exact h a
def us2{Q:List av->Prop}{us:List av}(l:us.length=2)(h:∀a b:av,Q [a,b]):Q us:=by obtain⟨a,b,rfl⟩:=Fy l;exact h a b
def us3{Q:List av->Prop}{us:List av}(l:us.length=3)(h:∀a b c:av,Q [a,b,c]):Q us:=by obtain⟨a,b,c,rfl⟩:=HL l;exact h a b c
def us4{Q:List av->Prop}{us:List av}(l:us.length=4)(h:∀a b c d:av,Q [a,b,c,d]):Q us:=by obtain⟨a,b,c,d,rfl⟩:=IL l;exact h a b c d
def de.off(D:de)(i:Nat):de:=⟨λσ H=>D.nx (σ.set i none) H,D.rt,λσ H=>D.bk (σ.set i none) H,λσ H=>D.ct (σ.set i none) H⟩
end _L
namespace _L
open PySem PySem.Spec PyProof.Rows
theorem uR:∀{a b:List Int},a.map eb=b.map eb->a=b
 | [],[],_=>rfl
 | [],_::_,e=>by simp at e
 | _::_,[],e=>by simp at e
 | x::xs,y::ys,e=>by
  rw[Jr,Jr] at e;injection e with e1 e2;injection e1 with e1;rw[e1,uR e2]
def xq(e:bi k=bi k'):k=k':=by obtain⟨d,l⟩:=k;obtain⟨d',a⟩:=k';simp only[bi,PyData.tuple.injEq,lB,PyData.int.injEq,and_true] at e;rw[e.1,uR e.2]
theorem iX:∀{kvs a:List (ay×ah)},kvs.map (λp=>(bi p.1,p.2))=a.map (λp=>(bi p.1,p.2))->kvs=a
 | [],[],_=>rfl
 | [],_::_,e=>by simp at e
 | _::_,[],e=>by simp at e
 | (k,v)::xs,(k',v')::ys,e=>by
  rw[Jr,Jr] at e;injection e with e1 e2;injection e1 with e1 e3;have e1:=xq e1;simp only at e1 e3;rw[e1,e3,iX e2]
section
variable {K:cb}{M P N:ao->Prop}{H0 H:Hp}{A B:List Ent}{σ0 σ:St}{env:List Sl}{ts:List (V×Sl)}{v:V}{d:ah}{kvs:List (ay×ah)}
def FR(K:cb)(N:ao->Prop)(H:Hp)(v:V)(kvs:List (ay×ah)):Prop :=
 ∃a es,v=.ref a/\H a=some (.ext (bx a es))/\DNs K N H (es.map λp=>V.ref p.2.1) (kvs.map λp=>bi p.1)/\DNs K N H (es.map λp=>p.2.2) (kvs.map λp=>p.2)/\es.map (λp=>p.1)=kvs.map (λp=>p.1)
def FR.dctV(h:FR K N H v kvs):Hw K H v kvs:=by obtain⟨a,es,e,b,hk,hv,c⟩:=h;exact⟨a,es,e,b,hk.dv,hv.dv,c⟩
def yL(e:fzD ds=bz kvs):False:=by
 cases kvs with
 | nil=>cases e
 | cons p kvs=>simp[fzD,bz,bi] at e
def rD(e:dG kv=bz kvs):False:=by
 cases kvs with
 | nil=>cases e
 | cons p kvs=>simp[dG,bz,bi] at e
def DN.dct_of(h:DN K N H v d)(e:d=bz kvs):FR K N H v kvs:=by
 cases h with
 | fz _=>exact(yL e).elim
 | idc _ _ _ _=>exact(rD e).elim
 | @dct a es b n c hk hv f =>
  injection e with e;have e:=iX e;subst e;exact⟨a,es,rfl,c,hk,hv,f⟩
 | _=>cases e
theorem Vw.dct_of(h:Vw K N H v d)(e:d=bz kvs):FR K N H v kvs:=by
 cases h with
 | dn h=>exact h.dct_of e
 | ow h q=>cases e
 | idc _ _ _=>exact(rD e).elim
 | @dct a es b c hk hv f =>
  injection e with e;have e:=iX e;subst e;exact⟨a,es,rfl,c,hk,hv,f⟩
def OT.dct_of(h:OT K N H v d S)(e:d=bz kvs):∃a es,v=.ref a/\S=[a]/\H a=some (.ext (bx a es))/\DNs K N H (es.map λp=>V.ref p.2.1) (kvs.map λp=>bi p.1)/\DNs K N H (es.map λp=>p.2.2) (kvs.map λp=>p.2)/\es.map (λp=>p.1)=kvs.map (λp=>p.1):=by
 cases h with
 | fz _=>exact(yL e).elim
 | idc _ _ _=>exact(rD e).elim
 | @dct a es b c hk hv f =>
  injection e with e;have e:=iX e;subst e;exact⟨a,es,rfl,rfl,c,hk,hv,f⟩
 | _=>cases e
def GT:G2:=λd e R=>∃k kvs,d=bi k/\e=bz kvs/\R (.bool (aI kvs k).isSome)
def pz:G2:=λd e R=>∃k kvs,d=bi k/\e=bz kvs/\R (.bool (!(aI kvs k).isSome))
def GS:G2:=λd e R=>∃kvs k x,d=bz kvs/\e=bi k/\aI kvs k=some x/\R x
def GD:b8 K (Gg K) GT:=by rintro N H x y d e R Q a b ⟨k,kvs,rfl,rfl,hR⟩ hq;exact⟨k,kvs,a.dv,(b.dct_of rfl).dctV,hq _ _ hR (.bl _)⟩
def gW:b8 K (oH K) pz:=by rintro N H x y d e R Q a b ⟨k,kvs,rfl,rfl,hR⟩ hq;exact⟨k,kvs,a.dv,(b.dct_of rfl).dctV,hq _ _ hR (.bl _)⟩
def nU:b8 K (Fu K) GS:=by rintro N H x y d e R Q b c ⟨kvs,k,z,rfl,rfl,hg,hR⟩ hq;obtain⟨a,es,rfl,f,hk,hv,g⟩:=b.dct_of rfl;refine⟨k,a,es,kvs,rfl,c.dv,f,hk.dv,hv.dv,g,by rw[hg];rfl,λi v d hd h1 h2=>?_⟩;rw[hg] at hd;cases hd;obtain⟨h,e1,dn⟩:=hv.get h1;rw[h2] at e1;cases e1;exact hq _ _ hR dn
theorem wF:∀{es:List (ay×ao×V)}{kvs:List (ay×ah)} (k:ay),es.map (λp=>p.1)=kvs.map (λp=>p.1)->(es.any λp=>decide (p.1=k))=(aI kvs k).isSome
 | [],[],k,_=>rfl
 | [],_::_,k,e=>by simp at e
 | _::_,[],k,e=>by simp at e
 | p::es,q::kvs,k,e=>by
  rw[Jr,Jr] at e;injection e with e1 e2;rw[Kx,wF k e2,aq,e1];by_cases h:q.1=k <;> simp[h]
def xH{es:List (ay×ao×V)}{kvs:List (ay×ah)}(k:ay)(v:V)(d:ah)(e:es.map (λp=>p.1)=kvs.map (λp=>p.1))(h1:DNs K N H (es.map λp=>V.ref p.2.1) (kvs.map λp=>bi p.1))(h2:DNs K N H (es.map λp=>p.2.2) (kvs.map λp=>p.2))(dn:DN K N H v d) :
    (es.map λp=>if p.1=k then (p.1,p.2.1,v) else p).map (λp=>p.1)=(kvs.map λp=>if p.1=k then (p.1,d) else p).map (λp=>p.1) /\
    DNs K N H ((es.map λp=>if p.1=k then (p.1,p.2.1,v) else p).map λp=>V.ref p.2.1) ((kvs.map λp=>if p.1=k then (p.1,d) else p).map λp=>bi p.1) /\
    DNs K N H ((es.map λp=>if p.1=k then (p.1,p.2.1,v) else p).map λp=>p.2.2) ((kvs.map λp=>if p.1=k then (p.1,d) else p).map λp=>p.2):=by
  induction es generalizing kvs with
  | nil =>
    cases kvs with
    | nil=>exact⟨rfl,.nil,.nil⟩
    | cons q kvs=>simp at e
  | cons p es c =>
   cases kvs with
   | nil=>simp at e
   | cons q kvs =>
    rw[Jr,Jr] at e h1 h2;injection e with e1 e2;cases h1 with
    | cons a1 a2 =>
      cases h2 with
      | cons f g =>
        obtain⟨i1,i2,b⟩:=c e2 a2 g;simp only[Jr];by_cases h:q.1=k
        · have a:p.1=k:=e1.trans h;simp only[h,a,if_true];refine⟨by rw[i1],.cons ?_ i2,.cons dn b⟩;rw[<-h];exact a1
        · have a:¬p.1=k:=λz=>h (e1.symm.trans z);simp only[h,a,if_false];exact⟨by rw[i1,e1],.cons a1 i2,.cons f b⟩
def uN(e:es.map (λp=>p.1)=kvs.map (λp=>p.1))(h1:DNs K N H (es.map λp=>V.ref p.2.1) (kvs.map λp=>bi p.1))(h2:DNs K N H (es.map λp=>p.2.2) (kvs.map λp=>p.2))(a:DN K N H (.ref b) (bi k))(dn:DN K N H v d) :
  (nR es k b v).map (λp=>p.1)=(cV kvs k d).map (λp=>p.1)/\DNs K N H ((nR es k b v).map λp=>V.ref p.2.1) ((cV kvs k d).map λp=>bi p.1)/\DNs K N H ((nR es k b v).map λp=>p.2.2) ((cV kvs k d).map λp=>p.2):=by
 unfold nR cV;rw[wF k e];by_cases c:(aI kvs k).isSome=true
 .rw[Mz c,Mz c];exact xH k v d e h1 h2 dn
 .rw[MA c,MA c];simp only[Jy,Jr,Kv];exact⟨by rw[e],h1.app (.cons a .nil),h2.app (.cons dn .nil)⟩
def bN.retreeR(h:bN K M P H0 (A++(some v,.tr S d)::B) H)(j:a∈S)(pm:S.Perm (S'++R))(l:OT K (Nw M (A++(some v,.tr S d)::B)) (upd H a o) v d' S') :
  bN K M P H0 (A++(some v,.tr S' d')::B) (upd H a o):=by
 obtain⟨v',ev,ot,r⟩:=h.tr _ _ _ (Jg _ Jm);cases ev;have n:oas (A++(some v,Sl.tr S d)::B)=oas A++(S++oas B):=by rw[am,ar,aS]
 have nd:=h.nd;rw[n] at nd;obtain⟨E,w,y⟩:=Ju.mp nd;obtain⟨F,G,C⟩:=Ju.mp w;have D:Nw M (A++(some v,Sl.tr S d)::B) a:=.inr (by rw[n];exact Jg _ (Jl _ j));have k:aX (Nw M (A++(some v,Sl.tr S d)::B)) H (upd H a o):=aX.own D;have f:oas (A++(some v,Sl.tr S' d')::B)=oas A++(S'++oas B):=by rw[am,ar,aS]
 have g:∀b,b∈S'->b∈S:=λb z=>pm.mem_iff.mpr (Jl _ z);have up:∀b,Nw M (A++(some v,Sl.tr S' d')::B) b->Nw M (A++(some v,Sl.tr S d)::B) b:=Nw.sub λb z=>by
  rw[f] at z;rw[n];rcases Jj.mp z with z|z
  .exact Jl _ z
  .rcases Jj.mp z with z|z
   .exact Jg _ (Jl _ (g b z))
   .exact Jg _ (Jg _ z)
 have c:∀(b:ao) (u:HO),upd H a o b=some u->Nw M (A++(some v,Sl.tr S' d')::B) b->Nw M (A++(some v,Sl.tr S d)::B) b:=λb _ _ z=>up b z;have back:∀x t,(x,t)∈A\/(x,t)∈B->(x,t)∈A++(some v,Sl.tr S d)::B:=λx t m=>by
  rcases m with m|m
  .exact Jl _ m
  .exact Jg _ (Jq _ m)
 have old:∀x t,(x,t)∈A++(some v,Sl.tr S' d')::B->(x,t)=(some v,Sl.tr S' d')\/((x,t)∈A\/(x,t)∈B):=λx t m=>by
  rcases Jj.mp m with m|m
  .exact .inr (.inl m)
  .rcases Jo.mp m with m|m
   .exact .inl m
   .exact .inr (.inr m)
 have other:∀x t b,(x,t)∈A\/(x,t)∈B->b∈cK (x,t)->b≠a:=λx t b m s z=>by
  subst z;rcases m with m|m
  .exact y b (bh.mpr ⟨_,m,s⟩) b (Jl _ j) rfl
  .exact C b j b (bh.mpr ⟨_,m,s⟩) rfl
 refine⟨h.keep.put (r a j),λb q z=>?_,h.mt,h.pm,λx d' m=>?_,λx d' m=>?_,λx d' m=>?_,λx S2 d' m=>?_,?_⟩
 .by_cases e:b=a
  .subst e;rw[aB] at z;cases z
  .rw[au e] at z;exact h.live b q z
 .rcases old _ _ m with m|m
  .cases m
  .obtain⟨w',e1,dn⟩:=h.fr x d' (back _ _ m);exact⟨w',e1,(dn.keep k).to c⟩
 .rcases old _ _ m with m|m
  .cases m
  .obtain⟨b,us2,e1,e2,dn,i⟩:=h.ow x d' (back _ _ m);subst e1;exact⟨b,us2,rfl,by rw[au (other _ _ b m (Jf.mpr rfl))];exact e2,(dn.keep k).to c,i⟩
 .rcases old _ _ m with m|m
  .cases m
  .obtain⟨b,us2,e1,e2,dn,i⟩:=h.io x d' (back _ _ m);subst e1;exact⟨b,us2,rfl,by rw[au (other _ _ b m (Jf.mpr rfl))];exact e2,(dn.keep k).to c,i⟩
 .rcases old _ _ m with m|m
  .cases m;exact⟨v,rfl,l.to c,λb e=>r b (g b e)⟩
  .obtain⟨w',e1,dn,i⟩:=h.tr x S2 d' (back _ _ m);subst e1;exact⟨w',rfl,(dn.keep k λb e=>au (other _ _ b m (by rw[aS];exact e))).to c,i⟩
 .rw[f];have p:(oas A++((S'++R)++oas B)).Nodup:=(gt _ (Hh _ pm)).nodup_iff.mp nd;refine p.sublist (List.Sublist.append_left (List.Sublist.append_right ?_ _) _);exact List.sublist_append_left _ _
def Rel.retreeT(h:Rel K M P H0 σ0 σ env ts H)(e:env[i]? = some (.tr S d))(ev:σ[i]? = some (some v))(g:a∈S)(pm:S.Perm (S'++R))(b:OT K (Nw M (aG σ env ts)) (upd H a o) v d' S') :
  Rel K M P H0 σ0 σ (env.set i (.tr S' d')) ts (upd H a o):=by
 obtain⟨x,A,B,e1,q1,q2⟩:=h.split e;rw[ev] at e1;cases e1;have r:=h.e;rw[q1] at r b;refine⟨by rw[q2];exact r.retreeR g pm b,by simp[h.len],h.vw,λj c f=>?_⟩;by_cases hj:i=j
 .subst hj;have hi:i<env.length:=(Js.mp e).1;rw[JK hi] at f;cases f
 .rw[JJ hj] at f;exact h.ios j c f
def Rel.dct{i:Nat}{S:List ao}(h:Rel K M P H0 σ0 σ env ts H)(e:env[i]? = some (.tr S (bz kvs))):∃a es,σ[i]? = some (some (.ref a))/\S=[a]/\H a=some (.ext (bx a es))/\DNs K (Nw M (aG σ env ts)) H (es.map λp=>V.ref p.2.1) (kvs.map λp=>bi p.1) /\
  DNs K (Nw M (aG σ env ts)) H (es.map λp=>p.2.2) (kvs.map λp=>p.2)/\es.map (λp=>p.1)=kvs.map (λp=>p.1):=by obtain⟨x,e1,m⟩:=h.slot e;obtain⟨v,ev,ot,_⟩:=h.e.tr _ _ _ m;obtain⟨a,es,rfl,b,c,hk,hv,d⟩:=ot.dct_of rfl;exact⟨a,es,by rw[e1,ev],b,c,hk,hv,d⟩
end
section
variable {X:Cx}{K:cb}{pos:Pos}{e:bb}{te tj:DE}
def GI(hK:X.K=K)(a:X.A.units+2<zs):OpR X (k0 .In) (Gg K):=by subst hK;exact Ej a
def gY(hK:X.K=K)(a:X.A.units+2<zs):OpR X (k0 .NotIn) (oH K):=by subst hK;exact u8 a
def nV(hK:X.K=K)(a:X.A.units+2<zs):IxR X (Fu K):=by subst hK;exact HM a
def hu2(a:eM k A):A.units+2<zs:=Kj (Nat.add_le_add_left (by decide:2<=64) _) a.units
def CG(i:Nat)(tj te:DE):DS:=λDD env=>te env λs1 b=>(∃S kvs,b[i]? = some (.tr S (bz kvs)))/\tj b λs2 a=>∃(S:List ao) (kvs:List (ay×ah)) (k:ay) (d:ah),
 a[i]? = some (.tr S (bz kvs))/\aL a s2=some (bi k)/\aL a s1=some d/\kvs.length<sizeLine/\DD.nx (a.set i (.tr S (bz (cV kvs k d))))
def fL(i:Nat){y:bt}{npos c:Pos}{j:bb}(hK:X.K=K)(I:X.A.units+2<zs)(hN:X.N[i]? = some y)(hj:PE X j (up K tj))(J:PE X e (up K te))
  (hv:Vis X.env.scope y:=by first|exact lA rfl|exact di ci|exact di (di rfl)) (hd:(y==("__debug__" : bt))=false:=by decide)
  (r:(y==("__classdict__" : bt))=false:=by decide)
  (L:∀v,QE (.Subscript (.Name y npos) j c) X.env v=(do
   let ov <-Qk [v] (eval (.Name y npos) X.env)
   let iv <-Qk [v,ov] (eval j X.env)
   QV c
   Qk [v,ov,iv] (Q7 ov iv v)
   ZK [v,ov,iv] []):=by intro _;rfl)
  (O:Q1 [.Subscript (.Name y npos) j c] e pos.line X.env=pure false:=by rfl) (hw:Q2 [.Subscript (.Name y npos) j c] e X.env=pure none:=by rfl)
  (h1:(Qg [.Subscript (.Name y npos) j c] X.env).map (·.2)=[QE (.Subscript (.Name y npos) j c) X.env]:=by rfl):PS X (.Assign [.Subscript (.Name y npos) j c] e pos) (upS K (CG i tj te)):=by
 subst hK;refine(qP J (uU (bG hN hv hd r) hj (Dy I) L) O hw h1).imp λD σ H h=>?_;obtain⟨M,P,H0,σ0,env,ts,DD,nv,t,Q,ok⟩:=h;refine⟨M,P,H0,σ0,env,ts,_,t,Q,λs1 n v1 H1 h1 l=>?_⟩;obtain⟨⟨S0,C,T⟩,h1⟩:=h1;obtain⟨a,_,q,_⟩:=l.dct T;refine⟨.ref a,q,M,P,H0,σ0,n,ts++[(v1,s1)],_,l,h1,λs2 g E H2 h2 o=>?_⟩;obtain⟨S,kvs,k,d,e2,U,V,hl,hR⟩:=h2;have f:Rel X.K M P H0 σ0 σ g (ts++[(v1,s1),(E,s2)]) H2:=by simpa using o
 have u:=f.kept (v:=v1) (s:=s1) (!1) V;have m:=f.kept (v:=E) (s:=s2) (!1) U;obtain⟨a',es,p,w,W,hk,hv,z⟩:=f.drop.dct e2;rw[q] at p;cases p;obtain⟨b,xs,rfl,_,_⟩:=m.tuple;have F:es.length=kvs.length:=by have:=congrArg fI z;simpa using this
 refine⟨k,a,b,es,kvs,rfl,rfl,m.dv,W,hk.dv,z,!0,ok.nx _ _ _ hR ?_⟩;obtain⟨Y,p2,p3⟩:=uN (b:=b) (k:=k) z hk hv m u;have Z:Nw M (aG σ g ts) a:=by obtain⟨x,A,B,e1,q1,q2⟩:=f.drop.split e2;refine .inr ?_;rw[q1,am,ar];rw[q] at e1;cases e1;rw[aS,w];simp
 have G:aX (Nw M (aG σ g ts)) H2 (upd H2 a (.ext (bx a (nR es k b v1)))):=aX.own Z;refine f.drop.retreeT (R:=[]) e2 q (by rw[w];simp) (!1) ?_;rw[w];exact .dct aB (p2.keep G) (p3.keep G) Y
end
section
variable {K:cb}{M P N:ao->Prop}{H0 H:Hp}{E:List Ent}{σ0 σ:St}{env:List Sl}{ts:List (V×Sl)}{v:V}{d:ah}{kvs:List (ay×ah)}
def bN.addO(h:bN K M P H0 E H)(c:H p=none)(ot:∀N,OT K N (upd H p o) (.ref p) d [p]):bN K M P H0 (E++[(some (.ref p),.tr [p] d)]) (upd H p o):=by
 have g:oas (E++[(some (.ref p),Sl.tr [p] d)])=oas E++[p]:=by rw[am];rfl
 have i:p ∉ oas E:=λz=>by
  obtain⟨vs',q,_⟩:=h.own z;rw[c] at q;cases q
 have j:H0 p=none:=by
  cases e:H0 p with
  | none=>rfl
  | some o=>exact absurd c (h.live p (by rw[e];simp))
 have up:∀b o,H b=some o->Nw M (E++[(some (.ref p),Sl.tr [p] d)]) b->Nw M E b:=λb _ e z=>by
  rcases z with z|z
  .exact .inl z
  .rw[g] at z;rcases Jj.mp z with z|z
   .exact .inr z
   .rw[Jf.mp z,c] at e;cases e
 have h':=h.same (be.new (o:=o) c);refine⟨h'.keep,h'.live,h.mt,h.pm,λx d' m=>?_,λx d' m=>?_,λx d' m=>?_,λx S d' m=>?_,?_⟩
 .rcases Jj.mp m with m|m
  .obtain⟨v,e,dn⟩:=h.fr x d' m;exact⟨v,e,(dn.to up).keep (aX.same (be.new c))⟩
  .rw[Jf] at m;cases m
 .rcases Jj.mp m with m|m
  .obtain⟨a,ws,e,e2,dn,r⟩:=h.ow x d' m;exact⟨a,ws,e,be.new c _ _ e2,(dn.to up).keep (aX.same (be.new c)),r⟩
  .rw[Jf] at m;cases m
 .rcases Jj.mp m with m|m
  .obtain⟨a,ws,e,e2,dn,r⟩:=h.io x d' m;exact⟨a,ws,e,be.new c _ _ e2,(dn.to up).keep (aX.same (be.new c)),r⟩
  .rw[Jf] at m;cases m
 .rcases Jj.mp m with m|m
  .obtain⟨v,e,dn,r⟩:=h.tr x S d' m;exact⟨v,e,(dn.to up).keep (aX.same (be.new c)) λa f=>by
    obtain⟨xs,z⟩:=dn.lives a f;rw[be.new c _ _ z,z],r⟩
  .rw[Jf] at m;cases m;exact⟨_,rfl,ot _,λa f=>by rw[Jf.mp f];exact j⟩
 .rw[g];exact Ju.mpr ⟨h.nd,!1,λa f b k=>by rw[Jf.mp k];exactλz=>i (z▸f)⟩
def bN.addD(h:bN K M P H0 E H)(a:H p=none):bN K M P H0 (E++[(some (.ref p),.tr [p] (bz []))]) (upd H p (.ext (bx p []))):=h.addO a λ_=>.dct (es:=[]) (kvs:=[]) aB .nil .nil rfl
theorem Rel.addD(h:Rel K M P H0 σ0 σ env ts H)(a:H p=none):Rel K M P H0 σ0 σ env (ts++[(.ref p,.tr [p] (bz []))]) (upd H p (.ext (bx p []))):=h.withRes (h.e.addD a) rfl
end
section
variable {X:Cx}{K:cb}{pos:Pos}{e1 e2:bb}{tk tv:DE}
def CQ:DE:=λenv R=>∀S,R (.tr S (bz [])) env
def im:PE X (.Dict [] [] pos) (up K CQ):=uY.imp λσ H Q h=>by
 obtain⟨M,P,H0,σ0,env,ts,R,a,b,hq⟩:=h
 exactλp c=>hq _ _ _ _ (b _) (a.addD c)
def CP(tk tv:DE):DE:=λenv R=>tk env λs1 b=>tv b λs2 a=>∃(k:ay) (d:ah),aL a s1=some (bi k)/\aL a s2=some d/\∀S,R (.tr S (bz [(k,d)])) a
def DZ(hK:X.K=K)(w:X.A.units+2<zs)(hk:PE X e1 (up K tk))(hv:PE X e2 (up K tv)):PE X (.Dict [some e1] [e2] pos) (up K (CP tk tv)):=by
 subst hK;refine(Bv (Kj (Ku _) w) hk hv).imp λσ H Q h=>?_;obtain⟨M,P,H0,σ0,env,ts,R,q,x,hq⟩:=h;intro p y;refine⟨M,P,H0,σ0,env,_,_,q.addD y,x,λs1 j v1 H1 h1 l=>⟨M,P,H0,σ0,j,_,_,l,h1,λs2 f o H2 h2 m=>?_⟩⟩;obtain⟨k,d,z,C,hR⟩:=h2;have c:Rel X.K M P H0 σ0 σ f ((ts++[(.ref p,.tr [p] (bz []))])++[(v1,s1),(o,s2)]) H2:=by simpa using m
 have g:=c.kept (v:=v1) (s:=s1) (!1) z;have n:=c.kept (v:=o) (s:=s2) (!1) C;have i:=c.drop;have hE:=i.e;rw[aC] at hE g n;obtain⟨v',ev,ot,J⟩:=hE.tr _ _ _ (Jg _ Jm);obtain⟨a,es,r,L,D,E,F,G⟩:=ot.dct_of (kvs:=[]) rfl;rw[r] at ev;cases ev;have t:es=[]:=by simpa using G
 subst t;obtain⟨b,xs,rfl,_,_⟩:=g.tuple;refine⟨k,b,rfl,g.dv,D,hq _ _ _ _ (hR [p]) ?_⟩;have I:Nw M (aG σ f ts++tmp [(V.ref p,Sl.tr [p] (bz []))]) p:=.inr (by rw[am];exact Jg _ (bh.mpr ⟨_,Jf.mpr rfl,Jf.mpr rfl⟩));have u:aX (Nw M (aG σ f ts++tmp [(V.ref p,Sl.tr [p] (bz []))])) H2 (upd H2 p (.ext (bx p [(k,b,o)]))):=aX.own I;refine i.drop.withRes ?_ rfl;refine bN.retreeR (B:=[]) (R:=[]) (S:=[p]) hE (!1) (!1) ?_;exact .dct (es:=[(k,b,o)]) (kvs:=[(k,d)]) aB ((DNs.cons g .nil).keep u) ((DNs.cons n .nil).keep u) rfl
end
abbrev wD(w:List (List Int)):ah:=.list (w.map λr=>fzD (r.map .int))
abbrev ga(W:List (List (List Int))):ah:=.list (W.map wD)
section
variable {K:cb}{M P N:ao->Prop}{H0 H:Hp}{A B:List Ent}{σ0 σ:St}{env:List Sl}{ts:List (V×Sl)}{v:V}{s:Sl}{d:ah}
def OT.unfz(h:OT K N H v d S)(e:d=fzD ds):DN K N H v (.list ds)/\S=[]:=by
 cases h with
 | @fz _ ds' h =>
  simp only[fzD,Ll,lB,nl,Lk,and_true,true_and] at e;subst e;exact⟨h,rfl⟩
 | dct _ _ _ _=>exact(yL e.symm).elim
 | idc _ _ _=>simp[fzD,dG] at e
 | _=>cases e
def DN.unfz(h:DN K N H v d)(e:d=fzD ds):DN K N H v (.list ds):=by
 cases h with
 | @fz _ ds' h =>
  simp only[fzD,Ll,lB,nl,Lk,and_true,true_and] at e;subst e;exact h
 | dct _ _ _ _ _=>exact(yL e.symm).elim
 | idc _ _ _ _=>simp[fzD,dG] at e
 | _=>cases e
theorem z6:∀w:List (List Int),fzs (w.map λr=>dy (r.map .int))=some (w.map λr=>fzD (r.map .int))
 | []=>rfl
 | r::w=>by
  show(fzs (w.map λr=>dy (r.map .int))).map (fzD (r.map .int)::·)=_;rw[z6 w];rfl
def p8(w:List (List Int)):jO env (.ow (w.map λr=>dy (r.map .int)))=some (wD w):=by
 show(if o6 _=true then _ else _)=_;rw[z6];cases w with
 | nil=>rfl
 | cons r w =>
  rw[MA (by simp[o6,noL])];rfl
theorem OTs.row:∀{w:List (List Int)}{us:List V}{S:List ao},OTs K N H us (w.map λr=>fzD (r.map .int)) S->S=[]/\DNs K N H us (w.map λr=>dy (r.map .int))
 | [],_,_,h=>by cases h;exact⟨rfl,.nil⟩
 | r :: w,_,_,h=>by
  rw[Jr] at h;cases h with
  | cons h q =>
   obtain⟨e1,e2⟩:=OTs.row q;obtain⟨d1,d2⟩:=h.unfz rfl;subst e1 d2;exact⟨rfl,.cons d1 e2⟩
theorem DNs.row:∀{w:List (List Int)}{us:List V},DNs K N H us (w.map λr=>dy (r.map .int))->OTs K N H us (w.map λr=>fzD (r.map .int)) []
 | [],_,h=>by cases h;exact .nil
 | r::w,_,h=>by
  rw[Jr] at h;cases h with
  | cons h q=>exact .cons (S:=[]) (S':=[]) (.fz h) (DNs.row q)
def OTs.last(h:OTs K N H vs ((W++[w]).map wD) S) :
  ∃vs' S' b us,vs=vs'++[.ref b]/\S=S'++[b]/\OTs K N H vs' (W.map wD) S'/\H b=some (.lst us)/\DNs K N H us (w.map λr=>dy (r.map .int)):=by
 induction W generalizing vs S with
 | nil =>
  rw[ra,Jr,Kv] at h;cases h with
  | cons h q =>
   cases q;cases h with
   | @lst b us _ S a c =>
    obtain⟨e1,e2⟩:=c.row;subst e1;exact⟨[],[],b,us,rfl,!1,.nil,a,e2⟩
 | cons e W d =>
  rw[vr,Jr] at h;cases h with
  | @cons x xs _ _ S1 S2 h q =>
   obtain⟨vs',S',b,us,e1,e2,q',a,dn⟩:=d q;subst e1 e2;exact⟨x::vs',S1++S',b,us,rfl,!1,.cons h q',a,dn⟩
def OTs.snoc(q:OTs K N H vs (W.map wD) S)(a:H b=some (.lst us))(dn:DNs K N H us (w.map λr=>dy (r.map .int))) :
  OTs K N H (vs++[.ref b]) ((W++[w]).map wD) (S++[b]):=by rw[Jy];refine q.app ?_;have:=OTs.cons (OT.lst a dn.row) (OTs.nil (K:=K) (N:=N) (H:=H));simpa using this
def Rel.ways{i:Nat}{S:List ao}{W:List (List (List Int))}{w:List (List Int)}(h:Rel K M P H0 σ0 σ env ts H)(e:env[i]? = some (.tr S (ga (W++[w])))) :
  ∃a vs S' b us,σ[i]? = some (some (.ref a))/\S=a::(S'++[b])/\S.Nodup/\(∀c∈S,Nw M (aG σ env ts) c)/\H a=some (.lst (vs++[.ref b]))/\OTs K (Nw M (aG σ env ts)) H vs (W.map wD) S'/\H b=some (.lst us)/\DNs K (Nw M (aG σ env ts)) H us (w.map λr=>dy (r.map .int)):=by
 obtain⟨x,A,B,e1,q1,q2⟩:=h.split e;obtain⟨l,d,m⟩:=h.slot e;obtain⟨v,ev,ot,_⟩:=h.e.tr _ _ _ m;rw[e1] at d;cases d;subst ev;cases ot with
 | @lst a g _ n j q =>
  obtain⟨vs',S',b,us,rfl,rfl,q',k,dn⟩:=OTs.last q;have f:oas (aG σ env ts)=oas A++((a::(S'++[b]))++oas B):=by rw[q1,am,ar,aS]
  have nd:=h.e.nd;rw[f] at nd;refine⟨a,vs',S',b,us,e1,rfl,(Ju.mp (Ju.mp nd).2.1).1,λc hc=>.inr ?_,j,q',k,dn⟩;rw[f];exact Jg _ (Jl _ hc)
def GR:G2:=λd e R=>∃ds i x,fQ d=some ds/\e=.int i/\atI ds i=some (fzD x)/\R (.list x)
def II:b8 K (C4 K) GR:=by
 rintro N H x y d e R Q c b ⟨ds,i,z,e1,rfl,e2,hR⟩ hq;obtain⟨a,vs,rfl,s,q⟩:=c.seq e1;obtain⟨u,e3,dn⟩:=q.atI e2;rcases s with s|s
 .exact .inl ⟨a,vs,i,u,rfl,b.int,s,e3,hq _ _ hR (dn.unfz rfl)⟩
 .exact .inr ⟨a,vs,i,u,rfl,b.int,s,e3,hq _ _ hR (dn.unfz rfl)⟩
def dQ(xs:List α)(v:α):atI (xs++[v]) (-1)=some v:=by unfold atI ixN;rw[MA (!2),Mz (by rw[Jz];simp;omega)];show(xs++[v])[(-1+((xs++[v]).length:Int)).toNat]? = some v;rw[show(-1+((xs++[v]).length:Int)).toNat=xs.length by rw[Jz];simp;omega];simp
end
section
variable {X:Cx}{K:cb}{pos npos:Pos}{y:bt}{j j2:Nat}{p3 p4 p5 p6 apos cpos:Pos}
def ln(i:Nat):DT:=λenv R=>∃(S:List ao) (W:List (List (List Int))) (w:List (List Int)),env[i]? = some (.tr S (ga (W++[w])))/\R (!w.isEmpty) env
def uH(i:Nat)(hK:X.K=K)(hN:X.N[i]? = some y)(hv:Vis X.env.scope y:=by first|exact lA rfl|exact di ci|exact di (di rfl))(hd:(y==("__debug__" : bt))=false:=by decide)
  (f:(y==("__classdict__" : bt))=false:=by decide) (g:ie (.UnaryOp .USub (.Constant (.int 1) j p3) p4):=by intro _ _;rfl)
  (k:∀c,Zg (.Subscript (.Name y npos) (.UnaryOp .USub (.Constant (.int 1) j p3) p4) pos) X.env c=(do let v <-c;QV (Expr.pos (.Subscript (.Name y npos) (.UnaryOp .USub (.Constant (.int 1) j p3) p4) pos));Qk [v] (ZO v)):=by intro _;rfl) :
  PT X (.Subscript (.Name y npos) (.UnaryOp .USub (.Constant (.int 1) j p3) p4) pos) (upT K (ln i)) :=
 (zZ (K:=K) hK (oR (ai hK) (bG hN hv hd f) oQ g) k).imp λσ H Q h=>by
 obtain⟨M,P,H0,σ0,env,ts,R,d,⟨S,W,w,e,hR⟩,hq⟩:=h;obtain⟨a,vs,S',b,us,l,_,_,_,m,_,n,dn⟩:=d.ways e;refine⟨.ref a,l,.inl ⟨a,_,-1,.ref b,rfl,rfl,SqL.of m,dQ _ _,_,.inl ⟨us,SqL.of n,?_⟩,hq _ _ _ hR d⟩⟩;have:=dn.len;cases us with
 | nil=>cases w with
  | nil=>rfl
  | cons r w=>simp at this
 | cons u us=>cases w with
  | nil=>simp at this
  | cons r w=>rfl
def rS(i:Nat):DE:=λenv R=>∃(S:List ao) (W:List (List (List Int))) (r:List Int) (w:List (List Int)),env[i]? = some (.tr S (ga (W++[r::w])))/\R (.fr (.list (r.map .int))) env
def A8(i:Nat)(hK:X.K=K)(hN:X.N[i]? = some y)(hv:Vis X.env.scope y:=by first|exact lA rfl|exact di ci|exact di (di rfl))(hd:(y==("__debug__" : bt))=false:=by decide)
  (d:(y==("__classdict__" : bt))=false:=by decide) (k:ie (.UnaryOp .USub (.Constant (.int 1) j p3) p4):=by intro _ _;rfl) (f:ie (.Constant (.int 0) j2 p5):=by intro _ _;rfl) :
  PE X (.Subscript (.Subscript (.Name y npos) (.UnaryOp .USub (.Constant (.int 1) j p3) p4) pos) (.Constant (.int 0) j2 p5) p6) (up K (rS i)) :=
 (oR (ai hK) (oR (ai hK) (bG hN hv hd d) oQ k) j9 f).imp λσ H Q h=>by
 obtain⟨M,P,H0,σ0,env,ts,R,c,⟨S,W,r,w,e,hR⟩,hq⟩:=h;obtain⟨a,vs,S',b,us,l,_,_,_,m,_,n,dn⟩:=c.ways e;rw[Jr] at dn;cases dn with
 | @cons u us _ _ g o =>
  exact⟨.ref a,l,.inl ⟨a,_,-1,.ref b,rfl,rfl,SqL.of m,dQ _ _,.inl ⟨b,_,0,u,rfl,rfl,SqL.of n,by simp[atI,ixN],hq _ _ _ _ hR (c.addFr g)⟩⟩⟩
def vZ(i:Nat):DE:=λenv R=>∃(S:List ao) (W:List (List (List Int))) (r:List Int) (w:List (List Int)),env[i]? = some (.tr S (ga (W++[r::w])))/\R (.fr (.list (r.map .int))) (env.set i (.tr S (ga (W++[w]))))
def A3(i:Nat)(hK:X.K=K)(hN:X.N[i]? = some y)(hv:Vis X.env.scope y:=by first|exact lA rfl|exact di ci|exact di (di rfl))(hd:(y==("__debug__" : bt))=false:=by decide)
  (n:(y==("__classdict__" : bt))=false:=by decide) (L:ie (.UnaryOp .USub (.Constant (.int 1) j p3) p4):=by intro _ _;rfl)
  (l:j1 [.Constant (.int 0) j2 p5] X.env=[(false,eval (.Constant (.int 0) j2 p5) X.env)]:=by rfl)
  (f:qb (.Subscript (.Name y npos) (.UnaryOp .USub (.Constant (.int 1) j p3) p4) pos) "pop" X.env (eval (.Subscript (.Name y npos) (.UnaryOp .USub (.Constant (.int 1) j p3) p4) pos) X.env)=eval (.Subscript (.Name y npos) (.UnaryOp .USub (.Constant (.int 1) j p3) p4) pos) X.env:=by rfl)
  (m:((k6 cpos (j1 [.Constant (.int 0) j2 p5] X.env)).all (λx=>!x.1)&&(Qy cpos (Qi [] X.env)).all (λx=>x.1.isSome)&&decide ([Expr.Constant (.int 0) j2 p5].length+([]:List Qd).length+(if ([]:List Qd).isEmpty then 0 else 1)<30))=true:=by rfl)
  (g:(apos.endLine==cpos.line)=true:=by rfl) (d:(k6 cpos (j1 [] X.env)).any (·.1)=false:=by rfl) :
  PE X (.Call (.Attribute (.Subscript (.Name y npos) (.UnaryOp .USub (.Constant (.int 1) j p3) p4) pos) "pop" apos) [.Constant (.int 0) j2 p5] [] cpos) (up K (vZ i)) :=
 (kBm (K:=K) hK ei nf m5 qY (oR (ai hK) (bG hN hv hd n) oQ L) (cj j9 eK l) f m g l d).imp λσ H Q h=>by
 obtain⟨M,P,H0,σ0,env,ts,R,k,⟨S,W,r,w,e,hR⟩,hq⟩:=h;obtain⟨a,vs,S',b,us,p,G,s,t,I,q,J,dn⟩:=k.ways e;rw[Jr] at dn;cases dn with
 | @cons u us _ _ v C =>
  refine⟨.ref a,p,.inl ⟨a,_,-1,.ref b,rfl,rfl,SqL.of I,dQ _ _,.inl ⟨rfl,_,SqL.of J⟩,b,_,0,0,u,rfl,rfl,J,!2,!2,by simp[ZC],rfl,hq _ _ _ _ hR ?_⟩⟩;have mb:b∈S:=by rw[G];simp
  have D:aX (Nw M (aG σ env ts)) H (upd H b (.lst us)):=aX.own (t b mb);subst G;obtain⟨O,T⟩:=JO.mp s;obtain⟨V,Y,U⟩:=Ju.mp T;have E:a≠b:=λz=>O (by rw[z];simp);refine Rel.addFr (k.retreeT (R:=[]) e p mb (!1) ?_) ?_
  .refine .lst (by rw[au E];exact I) ?_;refine OTs.snoc (q.keep D λc hc=>au λz=>U c hc b (!1) z) aB (C.keep D)
  .have Z:aG σ (env.set i (.tr (a::(S'++[b])) (ga (W++[w])))) ts=aG σ (env.set i (.tr (a::(S'++[b])) (ga (W++[w])))) ts:=rfl;obtain⟨x,A,B,e1,q1,q2⟩:=k.split e;refine(v.keep D).to λc o _ z=>?_;rw[q2] at z;rw[q1];rcases z with z|z
   .exact .inl z
   .refine .inr ?_;rw[p] at e1;cases e1;rw[am,ar,aS] at z ⊢;exact z
def yU(i:Nat):DE:=λenv R=>∃(S:List ao) (W:List (List (List Int))) (w:List (List Int)),env[i]? = some (.tr S (ga (W++[w])))/\∀S',R .un (env.set i (.tr S' (ga W)))
def DU(i:Nat)(hK:X.K=K)(hN:X.N[i]? = some y)(hv:Vis X.env.scope y:=by first|exact lA rfl|exact di ci|exact di (di rfl))(hd:(y==("__debug__" : bt))=false:=by decide)
  (k:(y==("__classdict__" : bt))=false:=by decide)
  (d:qb (.Name y npos) "pop" X.env (eval (.Name y npos) X.env)=eval (.Name y npos) X.env:=by rfl) (f:(apos.endLine==cpos.line)=true:=by rfl) :
  PE X (.Call (.Attribute (.Name y npos) "pop" apos) [] [] cpos) (up K (yU i)) :=
 (GL (K:=K) hK ei nf m5 zU (bG hN hv hd k) d f).imp λσ H Q h=>by
 obtain⟨M,P,H0,σ0,env,ts,R,g,⟨S,W,w,e,hR⟩,hq⟩:=h;obtain⟨a,vs,S',b,us,p,u,l,n,r,q,C,dn⟩:=g.ways e;subst u;refine⟨.ref a,p,.inl ⟨rfl,_,SqL.of r⟩,a,_,.ref b,rfl,rfl,r,!1,hq _ _ _ _ (hR (a::S')) ?_⟩;have s:a∈a::(S'++[b]):=Jm;have v:aX (Nw M (aG σ env ts)) H (upd H a (.lst vs)):=aX.own (n a s);obtain⟨A,D⟩:=JO.mp l;rw[List.dropLast_concat];have j:=g.retreeT (o:=.lst vs) (S':=a::S') (R:=[b]) (d':=ga W) e p s (!1) (.lst aB (q.keep v λc hc=>au λz=>A (by rw[<-z];simp[hc])));have B:bN K M P H0 (aG σ (env.set i (.tr (a::S') (ga W))) ts++tmp [(V.ref b,Sl.un)]) (upd H a (.lst vs)):=by
  refine j.e.sub (λx t m=>?_) ?_
  .rcases Jj.mp m with m|m
   .exact .inl m
   .have m:=Jf.mp m;injection m with m1 m2;exact .inr (.inl m2)
  .rw[am];show(oas _++oas [(some (.ref b),Sl.un)]).Nodup;rw[show oas [((some (.ref b),Sl.un):Ent)]=[] from rfl,JM];exact j.e.nd
 refine⟨by rw[aC];exact B,j.len,λw i m=>?_,j.ios⟩;rcases Jj.mp m with m|m
 .exact j.vw w i m
 .rw[Jf] at m;cases m
end
end _L
namespace _L
open PySem PySem.Spec PyProof.Rows PySem.W
section
def B9(h2:2<=us.length)(k:∀u∈us,∃x t,u=eC x t):nM prog w A us s:=by
 refine kas_kind (T:=.type "int") h2 (λv hv=>?_) (!2) (by rfl) ⟨rfl,λi j C hi hj hc=>?_⟩
 .obtain⟨x,t,rfl⟩:=k v hv;exact .now
 .have e1:us.getD i dt=us[i]:=by simp[hi]
  have e2:us.getD j dt=us[j]:=by simp[hj]
  show j4 (kw prog w) A (Z5 _ (us.getD i dt) (us.getD j dt)) C (λ_ _=>False) s;rw[e1,e2];obtain⟨x,t,ex⟩:=k us[i] (JF hi);obtain⟨y,u,a⟩:=k us[j] (JF hj);rw[ex,a];exact kat_lt_int (hc _)
def HU(h:bg)(v:av):Prop:=∃(l:ao) (its:Array av),v=.ref l/\h.IsList l its/\∀j (h:j<its.size),∃x t,its[j]=eC x t
def sL(p:s.heap.IsList l items)(q:s.heap.IsList b a)(f:∀j (h:j<items.size),∃x t,items[j]=eC x t)(g:∀j (h:j<a.size),∃x t,a[j]=eC x t)
  (r:A.units<zs) (h:∀c,Q c s):j4 (kw prog w) A (oneLt' true (.ref l) (.ref b)) Q E s:=by obtain⟨⟨cls,dd,data,sl⟩,ho,hc,n,hd⟩:=id p;obtain⟨⟨o,i,data2,k⟩,m,d,u,e⟩:=id q;simp only at hc hd d e;subst hc hd d e;rw[oneLt'_eq];simp only[if_true];refine jj (wpAny_cRoomFor r ?_);refine jj (wpAny_callSpecialIfBound?_slot ⟨_,ho,rfl⟩ F.slot_list_lt (QP F.slot_list_lt ⟨_,ho,rfl⟩ F.entry_list_lt (F.args_list_lt_2 _ _) (mL l b items a n u dd i sl k f g) ⟨ho,m,λc=>?_⟩));exact Qf (h c)
def AU(c:A.units<zs)(h2:2<=us.length)(k:∀u∈us,HU s.heap u):nM prog w A us s:=by
 refine kas_kind (T:=.type "list") h2 (λv hv=>?_) (!2) (by rfl) ⟨rfl,λi j C hi hj hc=>?_⟩
 .obtain⟨l,its,rfl,⟨o,ho,hc,_⟩,_⟩:=k v hv;exact hc▸(Looks.ld ho).andThen .now
 .have e1:us.getD i dt=us[i]:=by simp[hi]
  have e2:us.getD j dt=us[j]:=by simp[hj]
  show j4 (kw prog w) A (Z5 _ (us.getD i dt) (us.getD j dt)) C (λ_ _=>False) s;rw[e1,e2];obtain⟨l,its,d,i1,i2⟩:=k us[i] (JF hi);obtain⟨b,a,e,f,j2⟩:=k us[j] (JF hj);rw[d,e,keyLt'_oneType];exact sL i1 f i2 j2 c hc
end
def z0(d:ah):Prop:=∃n:Int,d=.int n
section
variable {X:Cx}{pins:List (ao×Obj)}{σ:St}{H:Hp}{s:az}
theorem vF(I:Inv X pins σ H s):∀{vs:List V}{ds:List ah}{us:List av},DVs X.K H vs ds->aW vs us->(∀d∈ds,z0 d)->∀u∈us,∃x t,u=eC x t
 | _,_,_,.nil,.nil,_,u,h=>by cases h
 | _,_,_,.cons (d:=d) q1 q2,.cons r t,hk,u,h=>by
  rcases Jo.mp h with rfl|h
  .obtain⟨n,rfl⟩:=hk d (!1);cases q1;obtain⟨t,rfl⟩:=r;exact⟨_,_,rfl⟩
  .exact vF I q2 t (λd hd=>hk d (by simp[hd])) u h
theorem qD(I:Inv X pins σ H s):∀{vs:List V}{ds:List ah}{us:List av},DVs X.K H vs ds->aW vs us->(∀d∈ds,ER d)->∀u∈us,HU s.heap u
 | _,_,_,.nil,.nil,_,u,h=>by cases h
 | _, _,_,.cons (d:=d) q1 q2,.cons r t,hk,u,h=>by
  rcases Jo.mp h with rfl|h
  .obtain⟨c,rfl⟩:=hk d (!1);obtain⟨a,xs,rfl,sq,q⟩:=q1.lstI;obtain⟨its,rv,b,_⟩:=I.list sq;exact⟨a,its.toArray,r,b.isList,λj hj=>by
    have:=iT q rv j (by simpa using hj);simpa using this⟩
  .exact qD I q2 t (λd hd=>hk d (by simp[hd])) u h
end
section
variable {X:Cx}{pins:List (ao×Obj)}{σ:St}{H0:Hp}{f:av}{vs:List av}{A:Around}{E:av->az->Prop}{a kS:ao}
structure Az(KP:ah->Prop)(X:Cx)(pins:List (ao×Obj))(σ:St)(H0:Hp)(a kS:ao)(e1:Nat)(ks:List av)(s:az):Prop where
 ex : ∃H kv kd c,Inv X pins σ H s/\be H0 H/\aW kv ks/\DNs X.K N0 H kv kd/\(∀d∈kd,KP d)/\iK X pins H a/\iK X pins H kS/\s.heap.get? kS=some (Qh "list" ks.toArray c)
 la : s.heap.get? a=some (Qh "list" #[] e1)
theorem lV(ne:a≠kS)(hn:n<64)
  (F:∀x ks e (s:az) (C:av->az->Prop),fI ks<64->j4 (kw X.prog X.w) A (call f [x]) (λk s1=>s1.heap.get? kS=some (Qh "list" (pu ks) e)/\C k s1) (λ_ _=>False) s ->
   j4 (kw X.prog X.w) A (body x ⟨⟩) (λr s'=>r=.yield ⟨⟩/\∃k s1 c,C k s1/\s'={ s1 with heap:=s1.heap.update kS (ef (·.push k)) }/\s'.heap.get? kS=some (Qh "list" (pu (ks++[k])) c)) E s)
  (call:∀x∈vs,∀H s,Inv X pins σ H s->be H0 H->j4 (kw X.prog X.w) A (call f [x]) (λr s2=>∃d,KP d/\nO X pins σ H s d r s2) (λ_ _=>False) s) :
  ∀(r ks:List av) (s:az),(∀x∈r,x∈vs)->ks.length+r.length=n->Az KP X pins σ H0 a kS e1 ks s ->
   j4 (kw X.prog X.w) A (forIn r PUnit.unit body) (λ_ s'=>∃ks,ks.length=n/\Az KP X pins σ H0 a kS e1 ks s') E s
 | [],ks,s,_,u,h=>by
  rw[KJ];exact j0 ⟨ks,by simpa using u,h⟩
 | x :: r,ks,s,G,u,h=>by
  rw[JX] at u;rw[KS];obtain⟨⟨H,kv,kd,c,I,J,rv,dn,hk,fa,fk,K⟩,la⟩:=h;have hc:=call x (G x (!1)) H s I J;refine jj (z5 (F x ks c s (λk s1=>∃d,KP d/\nO X pins σ H s d k s1) (!0) (z5 hc (λk s1 i=>?_) λ_ _ z=>z)) (λq s' hq=>?_) λ_ _ z=>z)
  .obtain⟨d,j,H',v,L,g,l,m,kp⟩:=id i;exact⟨(kp kS _ fk K).1,i⟩
  .obtain⟨rfl,k,s1,c2,⟨d,j,H',v,L,g,l,m,kp⟩,es,B⟩:=hq;subst es;have p:=vK fk (kp kS _ fk K).2;have D:=vK fa (kp a _ fa la).2;have M:=dk s1.heap kS (ef (·.push k));have N:=L.turnedN (t':=s1.toks) (fp:=[kS]) (h':=s1.heap.update kS (ef (·.push k))) (λb hb'=>by rw[Jf.mp hb'];exact p) λb o hb' e=>(M.2 b (λz=>hb' (by simp[z]))).trans e;show j4 (kw X.prog X.w) A (forIn r PUnit.unit body) _ E _;refine lV ne hn F call r (ks++[k]) _ (λy O=>G y (by simp[O])) (by rw[Jz,JP];omega) ⟨⟨H',kv++[v],kd++[d],c2,N,J.trans g,tK rv l,?_,?_,D,p,B⟩,?_⟩
   .exact(dn.keep (aX.same g)).app (.cons m .nil)
   .intro e t;rcases Jj.mp t with t|t
    .exact hk e t
    .rw[Jf.mp t];exact j
   .exact(M.2 a ne).trans (kp a _ fa la).1
end
def Ak(CX:CXT)(P:ky)(w:k3)(K:cb)(mg:bt->Option av)(base:bg)(N:List bt)(qual:bt)(scope:Qn)(f:ao)(cd:av)(cl:List (bt×ao))(A:Around)(outer:List Env)(s:az)(H:Hp)(E:XK):Cx where
 prog:=P
 w := w
 K := K
 mg := mg
 base:=base
 A := A.deeper (envX qual scope s.heap.objs.size f cd cl)
 N := N
 s₀ := s
 H₀ := H
 env:=envX qual scope s.heap.objs.size f cd cl
 outer:=outer
 stack:=envX qual scope s.heap.objs.size f cd cl::outer
 ex := []
 calm:=true
 fn := λ_=>false
 pn := []
 xe := λe s'=>j4 (kw P w) (A.deeper (envX qual scope s.heap.objs.size f cd cl)) (leaving (envX qual scope s.heap.objs.size f cd cl) e) (λ_ a=>CX outer H s E e a) (λb a=>CX outer H s E b a) s'
structure lJ(p x:bt)(sc:Qn):Prop where
 kind:sc.kind=.function
 co : sc.isCoroutine=false
 gen:sc.isGenerator=false
 par:sc.names.lookup p=some .local
 fre:sc.names.lookup x=some .free
 nocell:∀y∈sc.names,y.2≠.cell
 one:∀y∈sc.names,y.2=.free->y.1=x
 ne : p≠x
section
variable {CX:CXT}{P:ky}{w:k3}{K:cb}{mg:bt->Option av}{base:bg}{qual p x:bt}{scope:Qn}{f c:ao}{A:Around}{outer:List Env}{s:az}{H:Hp}{E:XK}{u u0:av}{v v0:V}{h₁:bg}
def s9(S:lJ p x scope)(hd:A.handled=none)(g:wV P w K mg base A outer s H)(e:s.heap.IsCell c (some u0))(t:bD v0 u0)(l:H c=none)(r:bD v u)
  (m:h₁.Ns s.heap.objs.size (λy=>[(p,u)].reverse.lookup y)) (hk:∀b o,s.heap.get? b=some o->h₁.get? b=some o) :
  Inv (Ak CX P w K mg base [p,x] qual scope f cd [(x,c)] A outer s H E) [] [some v,some v0] H { s with heap:=h₁,toks:=tk }:=by
 have j:∀b:ao,b ∉ (Ak CX P w K mg base [p,x] qual scope f cd [(x,c)] A outer s H E).ex:=λb z=>absurd (show b∈([]:List ao) from z) (!1);have a:∀y d,xb y [(x,c)]=some d->y=x/\d=c:=λy d h=>by
  have:=gf h;rw[Jf] at this;cases this;exact⟨rfl,rfl⟩
 have n:xb x [(x,c)]=some c:=!1
 refine⟨⟨g.mod,S.kind,rfl,rfl,Jx _,λy z d h1 h2=>?_,λy k=>?_,λy d h=>absurd h (by show ¬false=true;decide),λ_=>hd,Around.frames_deeper g.frames,.inr ⟨rfl,rfl⟩,λb z=>absurd z (j b),g.bs,g.bsz,λb _ _=>j b,λb z=>absurd z (j b),g.funs,g.frf,g.tab⟩,
  rfl,g.bare,Un.kept hk,⟨_,m,λi y z h1 h2 h3=>?_⟩,λy d h=>?_,g.hok.fresh (Jx _),λy d h=>?_,λq hq=>absurd (show q∈([]:List (ao×Obj)) from hq) (!1),g.hok.kept hk,rfl⟩
 .rw[(a y d h1).1,(a z d h2).1]
 .have k:scope.names.lookup y=some .cell\/scope.names.lookup y=some .free:=k;rcases k with k|k
  .exact absurd rfl (S.nocell _ (gf k))
  .have:=S.one _ (gf k) rfl;simp only at this;rw[this];exact⟨c,n⟩
 .match i,h1,h2 with
  | 0,h1,h2 =>
   have h1:p=y:=by simpa[Ak] using h1
   have h2:v=z:=by simpa using h2
   subst h1 h2;refine⟨u,r,.inl ⟨S.par,?_⟩⟩;simp
  | 1,h1,h2 =>
   have h1:x=y:=by simpa[Ak] using h1
   have h2:v0=z:=by simpa using h2
   subst h1 h2;exact⟨u0,t,.inr ⟨.inr S.fre,c,n,e.keeps hk⟩⟩
  | i+2,h1,h2=>simp at h2
 .obtain⟨_,rfl⟩:=a y d h;exact⟨_,e.keeps hk⟩
 .obtain⟨_,rfl⟩:=a y d h;exact l
def yp(S:lJ p x scope)(B:eM (k+1) A)(h:wV P w K mg base A outer s H)(ho:s.heap.get? f=some (Zs "<lambda>" qual params body scope [(x,c)] pm c' ctv))(i:s.heap.CodeRec (.ref c') qual)
  (C:QK (kla_fn "<lambda>" qual params body scope [(x,c)] pm (.ref c') ctv) ⟨[u],[]⟩=pure [(p,u)]) (a:s.heap.IsCell c (some u0)) (D:bD v0 u0) (j:H c=none) (r:bD v u)
  (F:PE (Ak CX P w K mg base [p,x] qual scope f (.ref c') [(x,c)] A outer s H E) body t) (hq:t [some v,some v0] H Q):Qv (kw P w) A (.call (.ref f) ⟨[u],[]⟩) (CR CX outer P w H s Q E) s:=by have l:s.heap.NoLimit:=h.mod.nolimit.keeps λb o e=>(h.bs b o e).1;refine kla_callFunE B.depth ho rfl S.co S.gen rfl i ?_;rw[C];refine j0 (wpAny_newFunctionEnv S.nocell (λy G=>by rw[Jf.mp G];exact S.par) (λh₁ m g=>⟨l.fresh _ g,?_⟩) S.kind);have d:∀b o,s.heap.get? b=some o->h₁.get? b=some o:=λb o e=>g.extBut b o (JH (Jv e)) (Jn _ e);show Qv _ _ (.expr body (envX qual scope s.heap.objs.size f (.ref c') [(x,c)])) _ _;refine kla_codeExpr ?_;have I:=s9 (CX:=CX) (E:=E) (qual:=qual) (f:=f) (cd:=.ref c') (tk:=s.toks+[(p,u)].length) S B.hd h a D j r m d;refine z5 (F [] _ _ H _ I hq) (λL s' n=>?_) λe s' n=>n;obtain⟨z,H',J,rv,q⟩:=n;exact⟨z,H',J.os,J.bare,J.base,J.hok,rv,q⟩
end
section
variable {X:Cx}{pins:List (ao×Obj)}{σ:St}{H:Hp}{s:az}{params:Zm}{body:bb}{scope:Qn}{pos:Pos}{E:av->az->Prop}{clos:List (bt×ao)}
def vt(I:Inv X pins σ H s)(L:zk X)(l:QO scope X.env=pure clos)(m:ZS params X.env=([],[]))
  (h : ∀f c' pm ctv s' H',Inv X pins σ H' s'->be H H'->s'.heap.get? f=some (Zs "<lambda>" (X.env.qual ++ "<lambda>") params body scope clos pm c' ctv)->iK X pins H' f->Fr H' c' (X.env.qual ++ "<lambda>")->Q (.ref f) s') :
  j4 (kw X.prog X.w) X.A (eval (.Lambda params body scope pos) X.env) Q E s:=by
 obtain⟨c,T,a,C,hL⟩:=L;have hT:H T=some (.tbl (X.env.qual ++ "<lambda>")):=I.base.tbls T _ (I.ok.tab T _ hL);obtain⟨ps,e,g,d⟩:=I.hok T _ hT;obtain⟨bm,ob,O,P,x,N,R,y⟩:=I.mod.bmain;have hg:=I.mod.glob.keeps I.bk;have z:kq≠T:=λq=>by
  obtain⟨o,es,ep,j,hd,_⟩:=hg;rw[q,e] at j;cases j;cases hd
 have B:bm≠T:=λq=>by
  have j:=I.bk _ _ x;rw[q,e] at j;cases j;cases N
 have D:bm≠kq:=λq=>by
  obtain⟨o,es,ep,j,hd,_⟩:=hg;have e2:=I.bk _ _ x;rw[q,j] at e2;cases e2;rw[hd] at y;cases y
 have hB:s.heap.BuiltinsAt X.mg T:=⟨bm,ob,O,P,D,B,I.bk _ _ x,N,R,y⟩
 refine kla_eval m ?_;cases hc:Zk pos ps.toList with
 | none =>
  refine kla_makeFunction l I.ok.glob hg a (C.keeps I.bk) e g hc z hB λc' ctv h' tk hx n S r F=>?_;obtain⟨c2,oc,vs,t,e2,v,hd,hv⟩:=r;cases e2;have G:C1 (upd H c' (.frz oc (.own 0))) h' T (X.env.qual ++ "<lambda>"):=by
   refine⟨_,F,by rw[LK];exact TriplesOk_snoc _ _ _ _ g,λp cv i=>?_⟩;rw[LK] at i;rcases tw _ g i with i|rfl
   .obtain⟨c2,J,U,K,t2,e1,e2,e3⟩:=d _ _ i;exact⟨c2,J,U,K,t2,e1,by rw[au (aJ e2 (I.hok.fresh n))];exact e2,e3⟩
   .exact⟨c',oc,_,vs,t,rfl,aB,hd,hv⟩
  obtain⟨k,V⟩:=I.grow (tk:=tk) hT hx n v hd hv G;have M:=k.kept (t':=tk) (h':=h'.push (Zs "<lambda>" (X.env.qual ++ "<lambda>") params body scope clos ((X.mg "__name__").getD .none) c' ctv)) λb o e=>Jn _ e;exact h _ c' _ ctv _ _ M V (JA _ rfl) (k.fpOk (Jx _) (k.hok.fresh (Jx _))) ⟨_,_,_,_,aB,hd,hv⟩
 | some cv =>
  obtain⟨c',oc,u,vs,t,rfl,e1,hd,hv⟩:=d _ _ hc;obtain⟨v,_⟩:=I.hok c' _ e1;refine kla_makeFunctionHit l I.ok.glob hg a (C.keeps I.bk) e g hc hB λctv h' tk hk hsz=>?_;have k:=I.kept (t':=tk) hk;have M:=k.kept (t':=tk) (h':=h'.push (Zs "<lambda>" (X.env.qual ++ "<lambda>") params body scope clos ((X.mg "__name__").getD .none) c' ctv)) λb o e=>Jn _ e;exact h _ c' _ ctv _ _ M (be.refl _) (JA _ rfl) (k.fpOk (Jx _) (k.hok.fresh (Jx _))) ⟨_,_,_,_,e1,hd,hv⟩
end
def Ho{CX:CXT}{P:ky}{w:k3}{K:cb}{mg:bt->Option av}{base:bg}{N N':List bt}{qual:bt}{scope sc:Qn}{f:ao}{cd:av}{cl:List (bt×ao)}{A:Around}{outer:List Env}{s:az}{H:Hp}{E:XK}{ix:List (Option Nat)}
  (h : bOk N scope N' ix sc=true):cI (Ak CX P w K mg base N qual scope f cd cl A outer s H E).N (Ak CX P w K mg base N qual scope f cd cl A outer s H E).env N' ix sc:=bP rfl rfl h
def AW{K:cb}{H:Hp}{vs:List V}{ds:List ah}(q:DNs K N0 H vs ds):Rel K N0 N0 H (vs.map some) (vs.map some) (ds.map Sl.fr) [] H:=by
 have c:∀x s,(x,s)∈aG (vs.map some) (ds.map Sl.fr) []->∃v d,x=some v/\s=.fr d/\(v,d)∈vs.zip ds:=λx s m=>by
  have m:(x,s)∈(vs.map some).zip (ds.map Sl.fr)++[]:=m;rw[JM,List.zip_map] at m;obtain⟨⟨v,d⟩,f,e⟩:=Jk.mp m;cases e;exact⟨v,d,rfl,rfl,f⟩
 have g:oas (aG (vs.map some) (ds.map Sl.fr) [])=[]:=pp.mpr λ⟨x,s⟩ m=>by
  obtain⟨v,d,rfl,rfl,_⟩:=c x s m;exact d9 _ _
 have ne:∀b,Nw N0 (aG (vs.map some) (ds.map Sl.fr) []) b->N0 b:=λb z=>by
  rcases z with z|z
  .exact z
  .rw[g] at z;cases z
 refine⟨⟨aX.refl,λa h=>h,λa z=>z.elim,λa z=>z,λx e m=>?_,λx e m=>?_,λx e m=>?_,λx S e m=>?_,by rw[g];exact Ki⟩,by rw[Je,Je,q.len],λw i m=>(by cases m),λi ds' e=>rfl⟩
 .obtain⟨v,d,rfl,e1,f⟩:=c _ _ m;cases e1;exact⟨v,rfl,(vR q _ f).to λb _ _ z=>ne b z⟩
 .obtain⟨v,d,_,e1,_⟩:=c _ _ m;cases e1
 .obtain⟨v,d,_,e1,_⟩:=c _ _ m;cases e1
 .obtain⟨v,d,_,e1,_⟩:=c _ _ m;cases e1
end _L
namespace _L
open PySem PySem.Spec PyProof.Rows
def Ev(t:DE)(env:List Sl)(s:Sl):Prop:=∀R:Sl->List Sl->Prop,R s env->t env R
def EvA(t:DA)(env:List Sl)(ss:List Sl):Prop:=∀R:List Sl->List Sl->Prop,R ss env->t env R
def EvT(t:DT)(env:List Sl)(k:Bool):Prop:=∀R:Bool->List Sl->Prop,R k env->t env R
def EvO(t:DO)(env:List Sl)(k:Option Int):Prop:=∀R:Option Int->List Sl->Prop,R k env->t env R
def EvI(t:DI)(env:List Sl)(ds:List ah):Prop:=∀R:List ah->List Sl->Prop,R ds env->t env R
def E2(g:G2)(d e x:ah):Prop:=∀R:ah->Prop,R x->g d e R
def E1(g:G1)(d x:ah):Prop:=∀R:ah->Prop,R x->g d R
def EB(g:GB)(ds:List ah)(x:ah):Prop:=∀R:ah->Prop,R x->g ds R
def EL(g:ah->ah->(List ah->Prop)->Prop)(d e:ah)(x:List ah):Prop:=∀R:List ah->Prop,R x->g d e R
section
def EW(h:(env[i]?).bind slD=some d):Ev (FG i) env (.vw i):=λ_ r=>⟨d,h,r⟩
def IV:Ev (dC d) env (.fr d):=λ_ r=>r
def E6(h:env[i]? = some (.fr d)):Ev (yW i) env (.fr d):=λR r=>by unfold yW;rw[h];exact r
def GZ(h1:Ev ta env s1)(h2:Ev tb env s2)(e1:aO env s1=some d1)(e2:aO env s2=some d2)(h:E2 g d1 d2 x):Ev (dOp g ta tb) env (.fr x):=λ_ r=>h1 _ (h2 _ ⟨d1,d2,e1,e2,h _ r⟩)
def EZ{g:ah->ah->(List ah->Prop)->Prop}(h1:Ev ta env s1)(h2:Ev tb env s2)(e1:aO env s1=some d1)(e2:aO env s2=some d2)(h:EL g d1 d2 xs):Ev (Ff g ta tb) env (.ow xs):=λ_ r=>h1 _ (h2 _ ⟨d1,d2,e1,e2,h _ r⟩)
def GY{g:G1}(h1:Ev ta env s1)(e1:aO env s1=some d1)(h:E1 g d1 x):Ev (dUn g ta) env (.fr x):=λ_ r=>h1 _ ⟨d1,e1,h _ r⟩
def G3{g:GB}(h1:EvA tl env ss)(e1:gb env ss=some ds)(h:EB g ds x):Ev (dCB g tl) env (.fr x):=λ_ r=>h1 _ ⟨ds,e1,h _ r⟩
def EX(h1:EvA tl env ss)(e1:bw env ss=some ds)(z:ss.length<=sizeLine):Ev (C7 tl) env (.fr (.tuple ds)):=λ_ r=>h1 _ ⟨ds,e1,z,r⟩
def E5(h1:EvA tl env ss)(e1:bw env ss=some ds)(z:ss.length<=sizeLine):Ev (FL tl) env (.ow ds):=λ_ r=>h1 _ ⟨ds,e1,z,r⟩
def Co(h1:Ev ta env s1)(h2:Ev tb env s2)(e1:aO env s1=some (.tuple xs))(e2:aO env s2=some (.tuple ys))(z:xs.length+ys.length<=sizeLine):Ev (yZ ta tb) env (.fr (.tuple (xs++ys))):=λ_ r=>h1 _ (h2 _ ⟨xs,ys,e1,e2,z,r⟩)
def EY(h1:Ev te env s)(h2:EvO t1 env l)(h3:EvO t2 env h)(e1:aO env s=some (.list ds)):Ev (FH te t1 t2) env (.ow (tq ds l h)):=λ_ r=>h1 _ (h2 _ (h3 _ ⟨ds,e1,r⟩))
def G0:EvO lq env none:=λ_ r=>r
def Cl(h1:Ev te env s)(e1:aO env s=some (.int n)):EvO (yV te) env (some n):=λ_ r=>h1 _ ⟨n,e1,r⟩
def E4:EvA FK env []:=λ_ r=>r
def Cn(h1:Ev te env s)(h2:EvA tl env ss):EvA (yY te tl) env (s::ss):=λ_ r=>h1 _ (h2 _ r)
def Ck(h1:Ev te env s)(e1:aO env s=some (.bool k)):EvT (pG te) env k:=λ_ r=>h1 _ ⟨k,e1,r⟩
def E3(h1:EvT t env k):EvT (FJ t) env (!k):=λ_ r=>h1 _ r
def IW:E2 (gI f) (.int m) (.int n) (.int (f m n)):=λ_ r=>⟨m,n,rfl,rfl,r⟩
def G9(c:C m n):E2 (gIC C f) (.int m) (.int n) (.int (f m n)):=λ_ r=>⟨m,n,rfl,rfl,c,r⟩
def IX:E2 (gB f) (.int m) (.int n) (.bool (f m n)):=λ_ r=>⟨m,n,rfl,rfl,r⟩
def G8(h1:shp d)(h2:shp e):E2 gEq d e (.bool (eA d e)):=λ_ r=>⟨h1,h2,r⟩
def G5(h1:shp d)(h2:shp e):E2 gNe d e (.bool (!PyData.eqv d e)):=λ_ r=>⟨h1,h2,r⟩
def Fb:E2 FE d .none (.bool (k4 d)):=λ_ r=>⟨rfl,r⟩
def Ct:E2 yK d .none (.bool (!k4 d)):=λ_ r=>⟨rfl,r⟩
def G6(h1:fQ d=some ds)(h2:atI ds n=some x):E2 gIx d (.int n) x:=λ_ r=>⟨ds,n,x,h1,rfl,h2,r⟩
def G7(h1:fQ e=some ds)(h2:fi ds=some a):E2 gIn (.int n) e (.bool (decide (n∈a))):=λ_ r=>⟨n,ds,a,rfl,h1,h2,r⟩
def Fc:E1 FA (.int n) (.int (-n)):=λ_ r=>⟨n,rfl,r⟩
def Fa(h:fQ d=some es):EB FB [d] (.int es.length):=λ_ r=>⟨d,es,rfl,h,r⟩
def E9(z:xs.length+ys.length<=sizeLine):EL FF (.list xs) (.list ys) (xs++ys):=λ_ r=>⟨xs,ys,rfl,rfl,z,r⟩
def Cr(h1:Ev te env s)(e1:aL env s=some (.list ds)):EvI (rR te) env ds:=λ_ r=>h1 _ ⟨ds,e1,r⟩
def Cq(h1:EvA tl env [s])(e1:aO env s=some (.int n))(z1:-4611686018427387904<=n)(z2:n<4611686018427387904):EvI (yT tl) env (ik 0 n.toNat):=λ_ r=>h1 _ ⟨s,n,rfl,e1,z1,z2,r⟩
def Cs(h1:EvA tl env [s])(e1:aL env s=some (sqD b ds)):EvI (yX b tl) env (lh ds):=λ_ r=>h1 _ ⟨s,ds,rfl,e1,r⟩
def BU{n:Nat}(h:decide (n<=100)=true):n<=sizeLine:=Jt (of_decide_eq_true h) (Jt (!2) af)
def ws_seq(h:t { DD with nx:=u DD } env):Fd t u DD env:=h
def Df(h1:Ev te env s)(z:i<env.length)(e1:jP env s=some s')(h:DD.nx (env.set i s')):Ah i te DD env:=h1 _ ⟨s',z,e1,h⟩
def Dg(h1:Ev te env s)(h:DD.rt s env):Fe te DD env:=h1 _ h
def Dh(h1:EvT c env k)(h:if k=true then t DD env else u DD env):FM c t u DD env:=h1 _ h
def Di{it:DI}{g:DG}{tb:DS}(h1:EvI it env ds)(h:FD ds g tb DD env):FN it g tb DD env:=h1 _ h
def Dj(h1:Ev te env s)(e1:aL env s=some d)(e2:env[i]? = some a)(e3:gQ a=some ds)(z:ds.length<sizeLine)(e4:cN a (ds++[d])=some s')(h:DD.nx (env.set i s')):v7 (FO i te) DD env:=⟨⟨ds,by rw[e2];exact e3⟩,h1 _ ⟨d,a,ds,s',e1,e2,e3,z,e4,h⟩⟩
def AE(h1:EvA tl env ss)(a1:ss[q]? = some (.vw i))(a2:env[i]? = some b)(d:gQ b=some l)(e:bw env (ss.take q)=some a)(f:bw env (ss.drop (q+1))=some ds2)
  (h : sp (a.map .fr++.io l::ds2.map .fr) (dK (λr as=>∃c s',as[q]? = some (.io c)/\cN b c=some s'/\R r (env.set i s')) ⟨⟩)):nq sp q tl env R:=h1 _ ⟨i,b,l,a,ds2,a1,a2,d,e,f,h⟩
def Dl(h1:EvA tl env ss)(e1:bw env ss=some ds)(h:sp (ds.map .fr) (dK (λr _=>R r env) ⟨⟩)):v9 sp tl env R:=h1 _ ⟨ds,e1,h⟩
def Dk{it:DI}{ix:List (Option Nat)}{g:DG}{tt:DT}{R:Sl->List Sl->Prop}(h1:EvI it env ds)(h:CD ds ix g tt te env (dK R ⟨⟩)):tp it ix g tt te env R:=h1 _ h
def w_pop(a1:env[i]? = some a)(a2:gQ a=some ds)(b:ds.getLast? = some d)(c:cN a ds.dropLast=some s')(h:R (.fr d) (env.set i s')):FI i env R:=⟨a,ds,d,s',a1,a2,b,c,h⟩
def wg_name(z:i<env.length)(h:R (env.set i (.fr d))):kj i d env R:=⟨z,h⟩
def wk_K(h:R s env):dK R w s env:=h
def wx_set(h:te env λs a=>∃s',i<a.length/\jP a s=some s'/\DD.nx (a.set i s')):Ah i te DD env:=h
def wx_ret(h:te env DD.rt):Fe te DD env:=h
def wx_drop(h:te env λ_ a=>DD.nx a):v7 te DD env:=h
end
end _L
namespace _L
open PySem PySem.Spec PyProof.Rows PySem.W
def Itv(K:cb)(a:ao)(m:Nat):It :=
 ⟨λi H=>i<m/\∃xs x,SqL K H a xs/\xs[m - 1 - i]? = some x,λi H x H'=>H'=H/\∀xs,SqL K H a xs->xs[m - 1 - i]? = some x,λi _=>i=m⟩
def xf{P:ky}{w:k3}{K:cb}{tg:bb}(a it:ao)(m:Nat):Av P w K tg (Itv K a m) [it] it (λi h=>h.IsRevIter it a ((m:Int) - 1 - i)) where
 mem:=!1
 obj:=λi h st b f=>by
  have e:b=it:=by simpa using f
  subst e;obtain⟨o,e,c,d⟩:=st;exact⟨o,e,λv z=>by rw[d] at z;cases z⟩
 keep:=λi h h' st k=>st.at λo e=>k it (!1) o e
 item:=by
  intro X hP hw hK hc i pins s σ H E I j st hg;subst hP hw hK;obtain⟨hi,xs,x,hq,hx⟩:=hg;obtain⟨its,rv,p,hz⟩:=I.list hq;obtain⟨u,y,A⟩:=rv.get hx;obtain⟨l,n,B,q,r,t⟩:=j it (!1);have e1:(m:Int) - 1 - i=((m - 1 - i:Nat):Int):=!0
  have st:s.heap.IsRevIter it a ((m:Int) - 1 - i):=st;rw[e1] at st;refine wpAny_pyNext_rev_item st p.isList (x:=u) (by simpa using y) λh' g C=>?_;have D:Inv X pins σ H { s with heap:=h' }:=I.turned (t':=s.toks) (λb o f e=>(C.2 b f).trans e) l n q r t;have e2:((m - 1 - i:Nat):Int) - 1=(m:Int) - 1 - (i+1:Nat):=!0
  rw[e2] at g;obtain⟨o,e,c,d⟩:=id g;exact⟨u,rfl,yD (s:={ s with heap:=h' }) e c d (!2) ⟨x,H,D,A,⟨rfl,λys F=>by rw[I.list_inj F hq];exact hx⟩,g,λb f=>(j b f).1⟩⟩
 done:=by intro X hP hw hK hc i pins s σ H E I j st hg;subst hP hw hK;have hg:i=m:=hg;obtain⟨l,n,B,q,r,t⟩:=j it (!1);have st:s.heap.IsRevIter it a ((m:Int) - 1 - i):=st;rw[show(m:Int) - 1 - i = -1 by omega] at st;exact wpAny_pyNext_rev_end (I.ok.hd hc) st λh' G=>⟨rfl,I.turned (t':=s.toks) (λb o f e=>G b o f e) l n q r t⟩
 self:=λ_ _ _ _ _ st h=>wpAny_pyIter_revIter st h
section
def IS(K:cb)(ta:TA):TI:=λσ H R=>ta σ H λvs H1=>∃(a:ao) (xs:List V),vs=[.ref a]/\SqL K H1 a xs/\R (Itv K a xs.length) H1
def D7(hg:Gl X "reversed")(f:X.mg "reversed" = none)(g:PA X [e] ta)(i:j1 [e] X.env=[(false,eval e X.env)]:=by rfl):PI X tg (.Call (.Name "reversed" p) [e] [] pos) (IS X.K ta):=by
 intro pins s σ H R I h;refine Call_ (gA I hg f boot_reversed (eE (thn (g pos pins s σ H _ I h) λus s1 d=>?_) i rfl));obtain⟨vs,H1,c,j,q1⟩:=d;obtain⟨a,xs,rfl,hq,q⟩:=q1;obtain⟨u,rfl,k⟩:=gK j;cases (show u=cn a from k);obtain⟨its,rv,l,hz⟩:=c.list hq;have n:=rv.length;have st:(s1.heap.push (revObj a ((its.toArray.size:Int) - 1))).IsRevIter s1.heap.objs.size a ((its.toArray.size:Int) - 1):=⟨_,JA _ rfl,rfl,rfl⟩
 refine call_reversed_list l.isList ?_;refine wpAny_pyIter_revIter st ?_;refine⟨s1.heap.objs.size,[s1.heap.objs.size],_,_,H1,rfl,c.kept (t':=s1.toks) λb o e=>Jn _ e,xf a _ xs.length,?_,λb m=>?_,q⟩
 .rw[show((xs.length:Nat):Int) - 1 - (0:Nat)=(its.toArray.size:Int) - 1 by rw[Jw];omega];exact st
 have e:b=s1.heap.objs.size:=by simpa using m
 subst e;exact c.fpOk (Jx _) (c.hok.fresh (Jx _))
end
section
variable {X:Cx}{K:cb}
def yx:jL K (Itv K a ds.length) [(.ref a,.fr (.list ds))] ds.reverse where
 go := λc i hi=>by
  rw[Kg] at hi;obtain⟨xs,s,q⟩:=bj (b:=false) (a:=a) (ds:=ds) c (Jg _ (!1));obtain⟨x,e,_⟩:=q.item (i:=ds.length - 1 - i) (!0);exact⟨hi,xs,x,s,e⟩
 yld:=λc i x H' hi y=>by
  obtain⟨xs,s,q⟩:=bj (b:=false) (a:=a) (ds:=ds) c (Jg _ (!1));obtain⟨e,y⟩:=y;subst e;rw[Kg] at hi;obtain⟨f,d,dn⟩:=q.item (i:=ds.length - 1 - i) (!0);rw[y xs s] at d;cases d;exact⟨be.refl _,by rw[LI];exact dn⟩
 stop:=λc=>Kg ..
 nv := xW
def He(tl:DA):DI:=λenv RR=>tl env λss a=>∃s ds,ss=[s]/\aL a s=some (.list ds)/\RR ds.reverse a
def DM(hK:X.K=K)(hg:Gl X "reversed")(f:X.mg "reversed" = none)(g:PA X [e] (upA K tl))(i:j1 [e] X.env=[(false,eval e X.env)]:=by rfl):PI X tg (.Call (.Name "reversed" p) [e] [] pos) (upI K (He tl)):=by subst hK;refine(D7 hg f g i).imp λσ H R h=>?_;obtain⟨M,P,H0,σ0,env,ts,RR,c,j,hq⟩:=h;refine⟨M,P,H0,σ0,env,ts,_,c,j,λss d vs H1 h1 l b=>?_⟩;obtain⟨s,ds,rfl,k,hR⟩:=h1;obtain⟨v,rfl⟩:=mP l;have dn:=b.kept (v:=v) (s:=s) (!1) k;obtain⟨a,xs,rfl,m,q⟩:=dn.list;refine⟨a,xs,rfl,m.sq,?_⟩;rw[q.len];exact hq _ _ _ _ _ hR (b.drop.addFr dn) yx
end
end _L
namespace _L
open PySem PySem.Spec PyProof.Rows PySem.W PySem.Calls
section
def tS{a:List Int}(h:j<a.length):a.take (j+1)=a.take j++[a.getD j 0]:=by rw[J6,Ji h,Jh,Ji h];rfl
end
end _L
namespace _L
open PySem PySem.Spec PyProof.Rows PySem.W
section
variable {K:cb}{H0 H H':Hp}{σ0 σ:St}
def ly(sp:DSp)(t:DA):DE:=λenv R=>t env λss a=>∃b l ds,ss=b++[.ow l]/\bw a b=some ds/\sp (ds.map .fr++[.io l]) (dK (λr _=>R r a) ⟨⟩)
def wu:∀σ H Q,up K (ly sp tl) σ H Q->sy (spD K sp) [] E0 (upA K tl) σ H Q:=λσ H Q h=>by
 obtain⟨M,P,H0,σ0,env,ts,R,E,U,hq⟩:=h;refine⟨M,P,H0,σ0,env,ts,_,E,U,λss c vs H1 h1 L u=>?_⟩;obtain⟨o,l,ds,rfl,W,F⟩:=h1;rw[JM];obtain⟨g,v1,rfl⟩:∃g v1,vs=g++[v1]:=by
  rcases J3 vs with rfl|⟨a,b,rfl⟩
  .simp at L
  .exact⟨a,b,J4 ..⟩
 have y:g.length=o.length:=by simpa using L
 have X:(g++[v1]).zip (o++[Sl.ow l])=g.zip o++[(v1,.ow l)]:=List.zip_append y;have j:Rel K M P H0 σ0 σ c ((ts++g.zip o)++[(v1,.ow l)]) H1:=by rw[J5,<-X];exact u
 have n:Rel K M P H0 σ0 σ c (ts++[(v1,.ow l)]) H1:=j.dropMid;have A:Rel K M P H0 σ0 σ c ((ts++[(v1,.ow l)])++g.zip o) H1:=by
  refine⟨?_,j.len,λx i m=>j.vw x i (by
   simp only[Jj] at m ⊢;rcases m with (m|m)|m
   .exact .inl (.inl m)
   .exact .inr m
   .exact .inl (.inr m)),j.ios⟩
  have e2:=j.e;rw[aC,aC] at e2 ⊢;refine e2.sub (λx s m=>.inl (by
   simp only[Jj] at m ⊢;rcases m with (m|m)|m
   .exact .inl (.inl m)
   .exact .inr m
   .exact .inl (.inr m))) ?_
  have nd:=e2.nd;simp only[am,J5] at nd ⊢;exact((gt _ KW).nodup_iff).mp nd
 have t:=A.keptAll y (λp Y=>Y) W;have hE:=n.e;rw[aC] at hE;obtain⟨a,us,Z,hH,ql,h0⟩:=hE.ow (some v1) l (Jg _ (by simp[tmp]));cases Z;have hE:bN K M P H0 (aG σ c ts++[(some (.ref a),.ow l)]) H1:=hE;have B:Nw M (aG σ c (ts++[(.ref a,.ow l)]))=Nw M (aG σ c ts++[(some (.ref a),.ow l)]):=by rw[aC];rfl
 have N:Nw M (aG σ c ts++[(some (.ref a),.ow l)]) a:=.inr (by rw[am];exact Jg _ (bh.mpr ⟨_,Jf.mpr rfl,Jf.mpr rfl⟩));rw[B] at t;have C:=wC (v1:=g) (d1:=ds) (l:=l) (us:=us) (a:=a) (K:=K) (M':=Nw M (aG σ c ts++[(some (.ref a),.ow l)])) (H:=H1) t .nil (λb z hn=>n.newAddr hn (by rw[B];exact z)) N hH ql;refine⟨_,ds.map .fr++[.io l],λr _=>R r c,by simp[t.len],C.2,F,λr a0 v H' hR O q=>hq _ _ _ _ hR ?_⟩;have k:aX (λb=>b=a) H1 H':=q.keep.mono λb z=>by
  have z:b∈oas (tmp ((g++[V.ref a]).zip (ds.map Sl.fr++[Sl.io l]))):=z;have T:=C.1;simp only[Kv] at T;rw[T,Jf] at z;exact z
 obtain⟨D,f1,f2,f3⟩:=hE.lost k q.live;have rk:=q.resOk O;have G:dc K (Nw M (aG σ c ts)) H1 H' v r:=rk.to λb z=>fg z;have I:∀b,((Nw M (aG σ c ts) b\/(b∈cK (some v,r)/\H1 b=none))\/b=a)->Nw M (aG σ c ts++[(some (.ref a),.ow l)]) b\/H1 b=none:=λb z=>by
  rcases z with (z|z)|z
  .exact .inl (fg z)
  .exact .inr z.2
  .rw[z];exact .inl N
 refine n.drop.withRes ?_ O;refine D.getRes n.e.live G (λx d m=>?_) (λx s ds' m eo=>?_) λx S d m=>?_
 rotate_right
 .obtain⟨w,e,f⟩:=f3 x S d m;exact⟨w,e,(f (λb=>(Nw M (aG σ c ts) b\/(b∈cK (some v,r)/\H1 b=none))\/b=a) I (.inr rfl)).to λb _ _ z=>.inl z⟩
 .obtain⟨w,e,f⟩:=f1 x d m;exact⟨w,e,(f (λb=>(Nw M (aG σ c ts) b\/(b∈cK (some v,r)/\H1 b=none))\/b=a) I (.inr rfl)).to λb _ _ z=>.inl z⟩
 .obtain⟨b,J,e,e2,f⟩:=f2 x s ds' m eo;exact⟨b,J,e,e2,(f (λb=>(Nw M (aG σ c ts) b\/(b∈cK (some v,r)/\H1 b=none))\/b=a) I (.inr rfl)).to λb _ _ z=>.inl z⟩
end
section
variable {X:Cx}{x:bt}{p pos:Pos}{e:bb}{es:List bb}{k:Nat}{sp:DSp}{K:cb}{tl:DA}
def xG(C:Cal X.prog X.w X.K X.mg X.base x k (spD K sp))(b:eM k X.A)(hg:Gl X x)(c:PA X (e::es) (upA K tl))(hd:(x==("__debug__" : bt))=false:=by decide)
  (d:j1 (e::es) X.env=(false,eval e X.env)::j1 es X.env:=by rfl) (a:(k6 pos (j1 es X.env)).any (·.1)=false:=by rfl):PE X (.Call (.Name x p) (e::es) [] pos) (up K (ly sp tl)):=(qR C b hg c hd d a).imp wu
end
section
variable {X:Cx}{K:cb}
def Hg(i:Nat)(u:DS):DS:=λDD env=>∃S d,env[i]? = some (.tr S d)/\u DD (env.set i (.fr d))
def eZ(i:Nat)(h:PSs X ss (upS K u)):PSs X ss (upS K (Hg i u)):=h.imp λD σ H h=>by
 obtain⟨M,P,H0,σ0,env,ts,DD,nv,a,⟨S,d,e,b⟩,ok⟩:=h;exact⟨M,P,H0,σ0,_,ts,DD,nv,a.frzT e,b,ok⟩
end
section
variable {X:Cx}{K:cb}
def Hi(i:Nat)(tl:DA):DE:=λenv R=>(∃ds,(env[i]?).bind gQ=some ds)/\tl env λss a=>∃l b ds s',ss=[.ow l]/\a[i]? = some b/\gQ b=some ds/\ds.length+l.length<=sizeLine/\cN b (ds++l)=some s'/\R (.fr .none) (a.set i s')
def Go(i:Nat){apos cpos npos:Pos}(hK:X.K=K)(hN:X.N[i]? = some y)(u:PA X [e1] (upA K tl))
  (hv:Vis X.env.scope y:=by first|exact lA rfl|exact di ci|exact di (di rfl)) (hd:(y==("__debug__" : bt))=false:=by decide)
  (p:(y==("__classdict__" : bt))=false:=by decide)
  (r:j1 [e1] X.env=(false,eval e1 X.env)::j1 [] X.env:=by rfl)
  (f:qb (.Name y npos) "extend" X.env (eval (.Name y npos) X.env)=eval (.Name y npos) X.env:=by rfl)
  (j:((k6 cpos (j1 [e1] X.env)).all (λx=>!x.1)&&(Qy cpos (Qi [] X.env)).all (λx=>x.1.isSome)&&decide ([e1].length+([]:List Qd).length+(if ([]:List Qd).isEmpty then 0 else 1)<30))=true:=by rfl)
  (g:(apos.endLine==cpos.line)=true:=by rfl) (d:(k6 cpos (j1 [] X.env)).any (·.1)=false:=by rfl) :
  PE X (.Call (.Attribute (.Name y npos) "extend" apos) [e1] [] cpos) (up K (Hi i tl)) :=
 (kBm (K:=K) hK ei PySem.F.slot_list_extend PySem.F.type_list_extend vn (bG hN hv hd p) u f j g r d).imp λσ H Q h=>by
 obtain⟨M,P,H0,σ0,env,ts,R,k,⟨⟨v,w⟩,A⟩,hq⟩:=h;obtain⟨O,B,C⟩:=lF w;obtain⟨a,vs,s,D,_⟩:=k.mine B C;refine⟨.ref a,s,.inl ⟨rfl,vs,SqL.of D⟩,M,P,H0,σ0,env,ts,_,k,A,λss m E H1 h1 G c=>?_⟩;obtain⟨l,S,ds,s',rfl,z2,I,hz,es,hR⟩:=h1;obtain⟨v1,rfl⟩:=mP G;obtain⟨T,us,n,t,q⟩:=c.drop.mine z2 I;rw[s] at n;cases n;have hE:=c.e;obtain⟨b,ws,J,hB,L,_⟩:=hE.ow (some v1) l (by rw[aC];exact Jg _ (by simp[tmp]));cases J;have o:DNs K (Nw M (aG σ m ts)) H1 ws l:=L.to λb _ _ z=>by rw[aC];exact fg z
 exact⟨a,b,us,ws,rfl,rfl,t,hB,by rw[q.len,o.len];exact hz,hq _ _ _ _ hR ((c.drop.mut (ds:=ds) z2 es s (q.app o)).addFr .non)⟩
end
def FnI(K:cb)(x:bt)(st:Stmt):Prop:=∃f fd,cc K kq x=some (some (.ref f))/\Fun K x x st f fd
def FnL(K:cb)(x:bt)(st:Stmt):Prop:=∃f fd,cc K kq x=some (some (.ref f))/\Fun K x x st f fd/\∀base:bg,K.In base->wM K base x fd
structure BnI(K:cb):Prop where
 len:cc K kq "len" = some none
 range:cc K kq "range" = some none
 min:cc K kq "min" = some none
 max:cc K kq "max" = some none
 enumerate:cc K kq "enumerate" = some none
 zip:cc K kq "zip" = some none
 all:cc K kq "all" = some none
 any:cc K kq "any" = some none
 isinstance:cc K kq "isinstance" = some none
 bool:cc K kq "bool" = some none
 int:cc K kq "int" = some none
 list:cc K kq "list" = some none
 tuple:cc K kq "tuple" = some none
 sorted:cc K kq "sorted" = some none
 str:cc K kq "str" = some none
 sum:cc K kq "sum" = some none
 abs:cc K kq "abs" = some none
 reversed:cc K kq "reversed" = some none
section
variable {P:ky}{w:k3}{K:cb}{mg:bt->Option av}{base h:bg}{x:bt}{st:Stmt}{f:ao}{oc:av}{od an:Option ao}{osl:Array (Option av)}{kV doc pm cdv ct:av}{k:Nat}{ps:List bt}{sp:DSp}
def BnI.bn(X:K.In h)(G:h.Ns kq mg)(z:BnI K):Bn mg :=
 have m:∀{y:bt},cc K kq y=some none->mg y=none:=λe=>PySem.W.mg_none_of X G e
 ⟨m z.len,m z.range,m z.min,m z.max,m z.enumerate,m z.zip,m z.all,m z.any,m z.isinstance,m z.bool,m z.int,m z.list,m z.tuple,m z.sorted,m z.str,m z.sum,m z.abs,m z.reversed⟩
def fnI(a:cc K kq x=some (some (.ref f)))(l:K.lookup f=some ⟨oc,od,.func (gs x x (eG st) (cE st) (ad st) .none kV doc pm an cdv ct),osl⟩)(c:m3 K cdv x=true)(k:mN K (.ref f)=true):FnI K x st:=⟨f,_,a,z7 l c k⟩
def fnL(hx:x∈fG)(a:cc K kq x=some (some (.ref f)))(l:K.lookup f=some ⟨oc,od,.func (gs x x (eG st) (cE st) (ad st) .none kV doc pm an cdv ct),osl⟩)(c:m3 K cdv x=true)(k:mN K (.ref f)=true)
  (hc:cdv=.ref b) (g:K.lookup b=some ⟨.type "code",d,.fields vs,e⟩) (hT:wN vs b T):FnL K x st:=⟨f,_,a,z7 l c k,λbase h=>Ex hx a l hc g hT h⟩
def eL(X:K.In h)(G:h.Ns kq mg)(g:FnI K x st)(b:∀{f:ao}{fd:ki},Fun K x x st f fd->gH K fd ps [])(ok:∀{f:ao}{fd:ki},Fun K x x st f fd->ca P w K mg base CX0 k f fd ps (spD K sp)):Cal P w K mg base x k (spD K sp):=by obtain⟨f,fd,a,F⟩:=g;exact HS F (Dd X G a) (b F) (ok F)
def HR(X:K.In h)(G:h.Ns kq mg)(c:K.In base)(g:FnL K x st)(b:∀{f:ao}{fd:ki},Fun K x x st f fd->gH K fd ps [])(ok:∀{f:ao}{fd:ki},Fun K x x st f fd->wM K base x fd->ca P w K mg base CX0 k f fd ps (spD K sp)):Cal P w K mg base x k (spD K sp):=by obtain⟨f,fd,a,F,L⟩:=g;exact HS F (Dd X G a) (b F) (ok F (L base c))
def IM{l:o0}(X:K.In h)(G:h.Ns kq mg)(b:mg "law" = some (.ref fa))(g:FnI K "law" st)(c:∀{fd:ki},Fun K "law" "law" st fa fd->∀(s:az) (v:av),Zl s fd ⟨[v],[]⟩ [("_law_script",v)])
  (ok:∀{fd:ki}{base:bg},Fun K "law" "law" st fa fd->K.In base->ca l.prog w K mg base CX0 k fa fd ["_law_script"] (spD K sp)):∃fd:ki,(∀(s:az) (v:av),Zl s fd ⟨[v],[]⟩ [("_law_script",v)])/\∀base:bg,K.In base->base.Ns kq mg->ca l.prog w K mg base CX0 k fa fd ["_law_script"] (spD K sp):=by obtain⟨f,fd,a,F⟩:=g;have e:=b.symm.trans (Dd X G a);cases e;exact⟨fd,c F,λbase d _=>ok F d⟩
end
section
def BS(b:(d==Qb)=false)(ho:s.heap.get? d=some o)(hc:o.ExactDict)(a:o.data=.dict es ep)(c:(es.size:Int)<2 ^ 63)
  (h : Q (.int es.size (s.toks+1)) { s with toks:=s.toks+1+1 }):j4 (kw prog w) A (call (.builtin "len") [.ref d]) Q E s:=by
 have hT:s.TypeIs (.ref d) "dict" := ⟨o,ho,hc.1⟩
 have g:MeetsIn prog w (Builtin.«dict.__len__» ⟨[.ref d],[]⟩) (λ_ R s=>∃o ep,s.heap.get? d=some o/\o.data=.dict es ep/\R (.ok (.ret (.int es.size s.toks))) { s with toks:=s.toks+1 }) :=
  .of_wp λA R s ⟨o,ep,ho,a,h⟩=>by
   show j4 _ _ (dictSize d >>= _) _ _ s;unfold dictSize;refine jj (jj (QH ho a (j0 ?_)));show j4 _ _ (Builtin.Dict.pendingCount d >>= _) _ _ s;refine jj (wpAny_pendingCount_other b ?_);refine wpAny_ret_mkInt ?_;rw[t0];exact h
 refine Calls.call_function_entry kind_len plain_len entry_len (args_len1 _) ?_;unfold Builtin.«len»;refine jj (m:=oneArg "len" _) (j0 ?_);refine jj (m:=callSpecial? (.ref d) (gh "__len__")) (z4 (name:=gh "__len__") hT F.slot_dict_len
  (Zx F.slot_dict_len hT F.entry_dict_len (F.args_dict_len_1 _) g ⟨o,ep,ho,a,?_⟩))
 show j4 _ _ _ _ _ { s with toks:=s.toks+1 };refine jj (k5 (j0 ?_));refine jj (wpAny_letGo ?_);show j4 _ _ (if ((es.size:Nat):Int)<0 then _ else _) _ _ _;rw[MA (!0)];show j4 _ _ (if ((es.size:Nat):Int)≥2 ^ 63 then _ else _) _ _ _;rw[MA (!0)];exact jj (wpAny_mkInt (j0 ⟨_,rfl,h⟩))
end
theorem Paired.at:∀{a:List α}{l₂:List β},Paired F a l₂->∀i (h1:i<a.length) (h2:i<l₂.length),F a[i] l₂[i]
 | _,_,.nil,i,h1,_=>absurd h1 (KF _)
 | _,_,.cons r t,0,_,_=>r
 | _,_,.cons r t,i+1,h1,h2=>Paired.at t i (LB h1) (LB h2)
section
variable {K:cb}{tg e:bb}
def fZ{pins:List (ao×Obj)}{σ:St}{H:Hp}{s:az}{a:ao}{es:List (ay×ao×V)}(I:Inv X pins σ H s)(c:H a=some (.ext (bx a es))) :
  es.length<=sizeLine/\(a==Qb)=false/\∃o ds,s.heap.get? a=some o/\o.ExactDict/\o.data=.dict ds es.length/\ds.size=es.length/\∀i (hi:i<ds.size) (h2:i<es.length),ds[i].key=.ref es[i].2.1:=by
 obtain⟨⟨z,y,xs,r,o,ds,ep,h1,h2,h3,h4,_,h6⟩,_⟩:=I.hok a _ c;have b:=Paired.length r;have d:ds.size=xs.length:=by rw[<-me,h4,Je]
 refine⟨z,y,o,ds,h1,h2,by rw[h3,h6,b],by rw[d,b],λi hi hj=>?_⟩;have hx:i<xs.length:=!0
 have e1:ds[i]=jC xs[i]:=by
  have:ds.toList[i]'(by simpa using hi)=(xs.map jC)[i]'(by simpa using hx):=by simp only[h4]
  simpa using this
 have e2:es[i].2.1=xs[i].2.1:=(Paired.at r i hj hx).2.1;rw[e1,e2];rfl
def fj:eJ X (.builtin "len") (λxs H Q=>∃p es,xs=[.ref p]/\H p=some (.ext (bx p es))/\Q (.int es.length) H):=by intro pins s σ H xs us Q I r h;obtain⟨p,es,rfl,hq,q⟩:=h;obtain⟨u,rfl,a⟩:=gK r;cases a;have hn:=kc;obtain⟨z,y,o,ds,h1,h2,h3,h4,_⟩:=fZ I hq;exact BS y h1 h2 h3 (!0) ⟨.int es.length,H,I.tok _,⟨s.toks+1,by rw[h4]⟩,q⟩
def Itd(a:ao)(n:Nat):It :=
  ⟨λi H=>i<n/\∃es:List (ay×ao×V),H a=some (.ext (bx a es))/\es.length=n,
   λi H x H'=>H'=H/\∀es:List (ay×ao×V),H a=some (.ext (bx a es))->(es.map λp=>V.ref p.2.1)[i]? = some x,
   λi H=>i=n/\∃es:List (ay×ao×V),H a=some (.ext (bx a es))/\es.length=n⟩
def xg(a it:ao)(n:Nat):Av P w K tg (Itd a n) [it] it (λi h=>h.IsKeyIter it a i n n) where
 mem:=!1
 obj:=λi h st b f=>by
  have e:b=it:=by simpa using f
  subst e;obtain⟨o,e,c,d⟩:=st;exact⟨o,e,λv z=>by rw[d] at z;cases z⟩
 keep:=λi h h' st k=>by
  obtain⟨o,e,c⟩:=st;exact⟨o,k it (!1) o e,c⟩
 item:=by
  intro X hP hw hK hc i pins s σ H E I j st hg;subst hP hw hK;obtain⟨hi,es,m,hn⟩:=hg;obtain⟨z,y,o,ds,h1,h2,h3,h4,h5⟩:=fZ I m;obtain⟨p,q,C,r,t,u⟩:=j it (!1);have st:s.heap.IsKeyIter it a i ds.size es.length:=by rw[h4,hn];exact st
  refine qX st h1 h3 (!0) λh' g D=>?_;have F:Inv X pins σ H { s with heap:=h' }:=I.turned (t':=s.toks) (λb o f e=>(D.2 b f).trans e) p q r t u;rw[h4,hn] at g;obtain⟨o',e,c,d⟩:=id g;refine⟨_,rfl,yD (s:={ s with heap:=h' }) e c d (!2) ⟨.ref (es[i]'(!0)).2.1,H,F,h5 i (!0) (!0),⟨rfl,λx A=>?_⟩,g,λb f=>(j b f).1⟩⟩;obtain⟨L,M,o',ds',B,N,l,O,G⟩:=fZ I A;rw[h1] at B;cases B;rw[h3] at l;injection l with l g6;subst l;have:=G i (!0) (!0);rw[h5 i (!0) (!0)] at this;injection this with this;rw[JE,Ji (by omega:i<x.length),LW,this]
 done:=by
  intro X hP hw hK hc i pins s σ H E I j st hg;subst hP hw hK;obtain⟨hi,es,m,hn⟩:=hg;obtain⟨z,y,o,ds,h1,h2,h3,h4,h5⟩:=fZ I m;obtain⟨p,q,C,r,t,u⟩:=j it (!1);have st:s.heap.IsKeyIter it a i ds.size es.length:=by rw[h4,hn];exact st
  exact rN (I.ok.hd hc) st h1 h3 (!0) λh' J=>⟨rfl,I.turned (t':=s.toks) (λb o f e=>J b o f e) p q r t u⟩
 self:=λ_ _ _ _ _ st h=>wpAny_pyIter_keyiter st h
def HP(tl:TE):TI:=λσ H R=>tl σ H λx H1=>∃(a:ao) (es:List (ay×ao×V)),x=.ref a/\H1 a=some (.ext (bx a es))/\R (Itd a es.length) H1
def zQ(f:PE X l tl):PI X tg l (HP tl):=by
 intro pins s σ H R I h;refine thn (f pins s σ H _ I h) λv s1 d=>?_;obtain⟨x,H1,c,g,q1⟩:=d;obtain⟨a,es,e,i,q⟩:=q1;subst e;cases g;obtain⟨z,y,o,ds,h1,h2,h3,h4,h5⟩:=fZ c i;refine mV y h1 h2 h3 ?_;rw[h4];refine⟨s1.heap.objs.size,[s1.heap.objs.size],_,_,H1,rfl,c.kept (t':=s1.toks) λb o e=>Jn _ e,xg a _ es.length,⟨_,JA _ rfl,rfl,rfl⟩,λb j=>?_,q⟩;have e:b=s1.heap.objs.size:=by simpa using j
 subst e;exact c.fpOk (Jx _) (c.hok.fresh (Jx _))
end
section
variable {X:Cx}{K:cb}{tg e:bb}{te:DE}{kvs:List (ay×ah)}
def ll(b:Rel K M P H0 σ0 σ env (ts++[(.ref a,.fr (bz kvs))]) H) :
  ∃es:List (ay×ao×V),H a=some (.ext (bx a es))/\DNs K (Nw M (aG σ env (ts++[(.ref a,.fr (bz kvs))]))) H (es.map λp=>V.ref p.2.1) (kvs.map λp=>bi p.1)/\es.length=kvs.length:=by obtain⟨v,e,dn⟩:=b.e.fr _ _ (fh (Jg _ (Jf.mpr rfl)));cases e;obtain⟨f,es,e,c,hk,_,d⟩:=dn.dct_of rfl;cases e;exact⟨es,c,hk,by simpa using congrArg fI d⟩
def yy:jL K (Itd a kvs.length) [(.ref a,.fr (bz kvs))] (kvs.map λp=>bi p.1) where
 go := λb i hi=>by
  obtain⟨es,c,hk,d⟩:=ll b;rw[Je] at hi;exact⟨hi,es,c,d⟩
 yld:=λb i x H' hi y=>by
  obtain⟨es,c,hk,d⟩:=ll b;obtain⟨e,y⟩:=y;subst e;obtain⟨g,f,dn⟩:=hk.item hi;rw[y es c] at f;cases f;exact⟨be.refl _,dn⟩
 stop:=λb=>by
  obtain⟨es,c,hk,d⟩:=ll b;exact⟨Je ..,es,c,d⟩
 nv := xW
def CM(te:DE):DI:=λenv RR=>te env λs a=>∃kvs,aL a s=some (bz kvs)/\RR (kvs.map λp=>bi p.1) a
def qL(hK:X.K=K)(h:PE X e (up K te)):PI X tg e (upI K (CM te)):=(zQ h).imp λσ H R h=>by
 obtain⟨M,P,H0,σ0,env,ts,RR,c,f,hq⟩:=h;refine⟨M,P,H0,σ0,env,ts,_,c,f,λs1 d v1 H1 h1 b=>?_⟩;obtain⟨kvs,k,hR⟩:=h1;have dn:=b.kept (v:=v1) (s:=s1) (!1) k;obtain⟨a,es,rfl,g,hk,_,i⟩:=dn.dct_of rfl;refine⟨a,es,rfl,g,?_⟩;rw[show es.length=kvs.length by simpa using congrArg fI i];exact hq _ _ _ _ _ hR (b.drop.addFr dn) yy
def Cf:GB:=λds R=>∃kvs:List (ay×ah),ds=[bz kvs]/\R (.int kvs.length)
def BN:gG K (λxs H Q=>∃p es,xs=[.ref p]/\H p=some (.ext (bx p es))/\Q (.int es.length) H) Cf:=by
 rintro N H xs ds R Q w ⟨kvs,rfl,hR⟩ hq;cases w with
 | cons b c =>
  cases c;obtain⟨a,es,rfl,d,_,_,e⟩:=b.dct_of rfl;refine⟨a,es,rfl,d,?_⟩;rw[show es.length=kvs.length by simpa using congrArg fI e];exact hq _ _ hR (.int _)
end
end _L
namespace _L
open PySem PySem.Spec PyProof.Rows
section
def AA(h1:Ev te env s)(e1:aO env s=some (.bool k))(h:RT k env):pG te env RT:=h1 _ ⟨k,e1,h⟩
def w4(h1:Ev te env s)(e1:aO env s=some d)(e2:zn d=some k)(h:RT k env):rQ te env RT:=h1 _ ⟨d,k,e1,e2,h⟩
def vN(a:env[i]? = some (.tr S (.list ds)))(e1:ds=eT wD (W++[w])):EvT (ln i) env (!w.isEmpty):=λ_ h=>⟨S,W,w,a.trans (congrArg (λy=>some (Sl.tr S (dy y))) e1),h⟩
def yN(a:env[i]? = some (.tr S (.list ds)))(e1:ds=eT wD (W++[r::w])):Ev (rS i) env (.fr (.list (r.map .int))):=λ_ h=>⟨S,W,r,w,a.trans (congrArg (λy=>some (Sl.tr S (dy y))) e1),h⟩
def w_popL(a:env[i]? = some (.tr S (.list ds)))(e1:ds=eT wD (W++[w]))(h:∀S',R .un (env.set i (.tr S' (ga W)))):yU i env R:=⟨S,W,w,a.trans (congrArg (λy=>some (Sl.tr S (dy y))) e1),h⟩
def AC{c:Bool}{A d B e:Prop}(a:d->A)(b:e->B)(h:if c=true then d else e):if c=true then A else B:=tJ (p:=c=true) (by cases c <;> rfl) a b h
def AB{c:Bool}{A d B e:Prop}(a:d->A)(b:e->B)(h:if c=false then d else e):if (!c)=true then A else B:=tJ (p:=c=false) (by cases c <;> rfl) a b h
def Ix(h1:Ev (dOp g ta tb) env s)(h:R s env):dOp g ta tb env R:=h1 _ h
def FU(h1:Ev (C7 tl) env s)(h:R s env):C7 tl env R:=h1 _ h
def FV(h1:Ev (yW i) env s)(h:R s env):yW i env R:=h1 _ h
end
end _L
namespace _L
open PySem PySem.Spec PyProof.Rows PySem.W
abbrev ko(h:bg)(z TI TO:ao)(a b:av):Prop :=
 h.get? z=some { cls:=.type "zip",dict:=none,data:=.fields #[a,b,.bool false,.ref TI,.ref TO],slots:=#[] }
section
def pP{z TI TO a:ao}{f:Bool}{e:Obj}{Q:Bool->az->Prop}(hz:ko s.heap z TI TO (Qo a) (.bool f))(g:s.heap.get? a=some e)
  (h : ∀h₁,ko h₁ z TI TO (Qo a) (.bool true)->gw z s.heap h₁->Q false { s with heap:=h₁ }):j4 (kw prog w) A (gk (.ref z)) Q E s:=by
 unfold gk;refine jj (Qq hz rfl (x:=Qo a) rfl ?_);show j4 _ _ (loadIfAlive ((a:Int).toNat) >>= _) _ _ _;rw[JN];refine jj (kdx_alive g ?_);simp only[Option.isNone_some,JL,if_false];refine jj (Qq hz rfl (x:=.bool f) rfl ?_);cases f with
 | true =>
  rw[MA (show ¬((hI true != hI true)=true) from JC)];exact j0 (h _ hz (Heap.SameBut.refl _ _))
 | false =>
  rw[Mz (show(hI false != hI true)=true from rfl)];exact jj (wpAny_setField_rec hz (!1) λd b c=>j0 (h d b c))
def lM{z TI TO i1 i2 l1 l2 a:ao}{f:Bool}{t:Obj}{l m:Nat}{xs ys:Array av}{x y:av}{Q:av->az->Prop}(D:QZ z TI TO i1 i2 l1 l2)
  (hz:ko s.heap z TI TO (Qo a) (.bool f)) (u:s.heap.get? a=some t) (n:Zi s.heap TI (.ref i1) (.ref i2))
  (h1:s.heap.IsListIter i1 l1 l) (h2:s.heap.IsListIter i2 l2 m) (p:s.heap.IsList l1 xs) (q:s.heap.IsList l2 ys) (hx:xs[l]? = some x) (B:ys[m]? = some y)
  (hQ:∀h',ko h' z TI TO (Qo a) (.bool true)->h'.IsListIter i1 l1 (l+1)->h'.IsListIter i2 l2 (m+1)->Zi h' s.heap.objs.size x y->h'.objs.size=s.heap.objs.size+1 ->
   (∀c o,c≠z->c≠i1->c≠i2->s.heap.get? c=some o->h'.get? c=some o)->Q (.ref s.heap.objs.size) { s with heap:=h' }) :
  j4 (kw prog w) A (Builtin.«zip.__next__» ⟨[.ref z],[]⟩) (λfin s'=>∃v,fin=.done (.ret v)/\Q v s') E s:=by
 show j4 _ _ (ZV (.ref z) 2 >>= _) _ _ _;refine jj (Qq hz rfl (x:=.bool false) rfl ?_);show j4 _ _ (ZV (.ref z) 3 >>= _) _ _ _;refine jj (Qq hz rfl (x:=.ref TI) rfl ?_);refine jj (Qw n rfl ?_);show j4 _ _ (gk (.ref z) >>= _) _ _ _;refine jj (pP hz u λh₁ i b=>?_);simp only[JL,if_false];refine jj ?_;rw[<-mA];simp only[KS,KJ];refine jj (jj (k5 ?_));show j4 _ _ (eg (.ref i1) >>= _) _ _ _;refine jj (QG (h1.extBut b.extBut D.i1z) (p.extBut b.extBut D.l1z) hx λr j d=>j0 ?_);dsimp only;refine j0 ?_;dsimp only;refine jj (jj (k5 ?_));show j4 _ _ (eg (.ref i2) >>= _) _ _ _;refine jj (QG ((h2.extBut b.extBut D.i2z).extBut d.extBut D.i12.symm) ((q.extBut b.extBut D.l2z).extBut d.extBut D.l2i1) B λg k h=>j0 ?_);dsimp only;refine j0 (j0 ?_);dsimp only;have hsz:g.objs.size=s.heap.objs.size:=by rw[h.1,d.1,b.1]
 refine jj (ZM ?_ (by simp[zg]));refine j0 ⟨_,rfl,?_⟩;have up:∀c o,g.get? c=some o->(g.push { cls:=.type "tuple",data:=.seq #[x,y] }).get? c=some o:=λc o e=>Jn _ e;have C:∀{c o},g.get? c=some o->c<g.objs.size:=λe=>Jv e;have key:=hQ (g.push { cls:=.type "tuple",data:=.seq #[x,y] }) (up _ _ (h.extBut _ _ D.i2z.symm (d.extBut _ _ D.i1z.symm i))) ((j.extBut h.extBut D.i12).at λo e=>up _ o e) (k.at λo e=>up _ o e) (by rw[<-hsz];exact JA _ rfl) (by rw[Kt,hsz])
  λc o c1 F G e=>up c o (h.extBut _ _ G (d.extBut _ _ F (b.extBut _ _ c1 e)))
 show Q (.ref g.objs.size) _;rw[hsz];exact key
def nX{z TI TO i1 i2 l1 l2 a:ao}{f:Bool}{B:Obj}{m n:Nat}{xs ys:Array av}{Q:Fin->az->Prop}(y:A.handled=none)(D:QZ z TI TO i1 i2 l1 l2)
  (hz:ko s.heap z TI TO (Qo a) (.bool f)) (C:s.heap.get? a=some B) (p:Zi s.heap TI (.ref i1) (.ref i2))
  (h1:s.heap.IsListIter i1 l1 m) (h2:s.heap.IsListIter i2 l2 n) (j:s.heap.IsList l1 xs) (q:s.heap.IsList l2 ys) (k:xs[m]? = none\/ys[n]? = none)
  (hE:∀h' e,(∀c o,c≠z->c≠i1->c≠i2->s.heap.get? c=some o->h'.get? c=some o)->(∃o,h'.get? e=some o/\o.cls=.type "StopIteration")->E (.ref e) { s with heap:=h' }) :
  j4 (kw prog w) A (Builtin.«zip.__next__» ⟨[.ref z],[]⟩) Q E s:=by
 show j4 _ _ (ZV (.ref z) 2 >>= _) _ _ _;refine jj (Qq hz rfl (x:=.bool false) rfl ?_);show j4 _ _ (ZV (.ref z) 3 >>= _) _ _ _;refine jj (Qq hz rfl (x:=.ref TI) rfl ?_);refine jj (Qw p rfl ?_);show j4 _ _ (gk (.ref z) >>= _) _ _ _;refine jj (pP hz C λh₁ r b=>?_);simp only[JL,if_false];refine jj ?_;rw[<-mA];simp only[KS,KJ];refine jj (jj (k5 ?_));show j4 _ _ (eg (.ref i1) >>= _) _ _ _;cases hx:xs[m]? with
 | none =>
  refine jj (Zd y (h1.extBut b.extBut D.i1z) (j.extBut b.extBut D.l1z) hx λg e d t=>?_);exact hE g e (λc o c1 u _ x=>d _ _ u (b.extBut _ _ c1 x)) t
 | some x =>
  have F:ys[n]? = none:=by rcases k with h|h;rw[hx] at h;cases h;exact h
  refine jj (QG (h1.extBut b.extBut D.i1z) (j.extBut b.extBut D.l1z) hx λg v d=>j0 ?_);dsimp only;refine j0 ?_;dsimp only;refine jj (jj (k5 ?_));show j4 _ _ (eg (.ref i2) >>= _) _ _ _;refine jj (Zd y ((h2.extBut b.extBut D.i2z).extBut d.extBut D.i12.symm) ((q.extBut b.extBut D.l2z).extBut d.extBut D.l2i1) F λl e i t=>?_);exact hE l e (λc o c1 u G x=>i _ _ G (d.extBut _ _ u (b.extBut _ _ c1 x))) t
def ZSt(h:bg)(z TI TO i1 i2 l1 l2:ao)(xs ys:Array av)(i:Nat):Prop :=
 Zi h TI (.ref i1) (.ref i2)/\h.IsListIter i1 l1 i/\h.IsListIter i2 l2 i/\h.IsList l1 xs/\h.IsList l2 ys/\((i=0/\IsZip h z TI TO .none/\∃a b,Zi h TO a b)\/∃(a:ao) (f:Bool) (c:Obj),ko h z TI TO (Qo a) (.bool f)/\h.get? a=some c/\c.cls=.type "tuple" /\ a≠z/\a≠i1/\a≠i2)
def ZSt.keep{h h':bg}{z TI TO i1 i2 l1 l2 S:ao}{r:Obj}{xs ys:Array av}{i:Nat}(x:ZSt h z TI TO i1 i2 l1 l2 xs ys i)(t:h.get? S=some r)(hc:r.cls=.type "list")(u:l1≠S)(v:l2≠S)
  (k : ∀b o,b≠S->h.get? b=some o->h'.get? b=some o):ZSt h' z TI TO i1 i2 l1 l2 xs ys i:=by
 have ne:∀b o,h.get? b=some o->o.cls≠.type "list" -> b≠S:=λb o e c q=>c (by subst q;rw[t] at e;cases e;exact hc);obtain⟨g,h1,h2,m,n,hz⟩:=x;refine⟨k _ _ (ne _ _ g (!1)) g,?_,?_,m.at λo e=>k _ o u e,n.at λo e=>k _ o v e,?_⟩
 .obtain⟨o,e,c,d⟩:=id h1;exact h1.at λo' p=>k _ o' (ne _ _ e (by rw[c];simp)) p
 .obtain⟨o,e,c,d⟩:=id h2;exact h2.at λo' p=>k _ o' (ne _ _ e (by rw[c];simp)) p
 .rcases hz with⟨e,hz,a,b,j⟩|⟨a,f,w,hz,s,l,q1,q2,y⟩
  .exact .inl ⟨e,k _ _ (ne _ _ hz (!1)) hz,a,b,k _ _ (ne _ _ j (!1)) j⟩
  .exact .inr ⟨a,f,w,k _ _ (ne _ _ hz (!1)) hz,k _ _ (ne _ _ s (by rw[l];simp)) s,l,q1,q2,y⟩
def Dc{z TI TO i1 i2 l1 l2:ao}{i:Nat}{xs ys:Array av}{x y:av}{Q:Option av->az->Prop}(D:QZ z TI TO i1 i2 l1 l2)(k:ZSt s.heap z TI TO i1 i2 l1 l2 xs ys i)(hx:xs[i]? = some x)(r:ys[i]? = some y)
  (hQ:∀h',ZSt h' z TI TO i1 i2 l1 l2 xs ys (i+1)->Zi h' s.heap.objs.size x y->h'.objs.size=s.heap.objs.size+1 ->
   (∀c o,c≠z->c≠TO->c≠i1->c≠i2->s.heap.get? c=some o->h'.get? c=some o)->Q (some (.ref s.heap.objs.size)) { s with heap:=h' }) :
  j4 (kw prog w) A (QY (.ref z)) Q E s:=by
 obtain⟨d,h1,h2,g,h,hz⟩:=k;rcases hz with⟨rfl,hz,a,b,l⟩|⟨a,f,t,hz,u,m,v,a1,a2⟩
 .refine wpAny_pyNext_zip_item D hz d l h1 h2 g h hx r λh' c1 c2 n p j q hk=>?_;have lt:∀{c o},s.heap.get? c=some o->s.heap.objs.size≠c:=λe=>J2 (Jv e);exact hQ h' ⟨hk _ _ D.TIz D.TITO D.TIi1 D.TIi2 d,n,p,g.at λo e=>hk _ o D.l1z D.l1TO D.l1i1 D.l1i2 e,h.at λo e=>hk _ o D.l2z D.l2TO D.l2i1 D.l2i2 e,
   .inr ⟨_,false,_,c1,j,rfl,lt hz,(by obtain⟨_,e,_⟩:=h1;exact lt e),(by obtain⟨_,e,_⟩:=h2;exact lt e)⟩⟩ j q hk
 .have hT:s.TypeIs (.ref z) "zip" := ⟨_,hz,rfl⟩
  unfold QY;refine jj (Q0 (z4 (name:=gh "__next__") hT F.slot_zip_next
   (KX F.slot_zip_next hT F.entry_zip_next (lM D hz u d h1 h2 g h hx r λh' c1 n p j q hk=>j0 ?_) (F.args_zip_next_1 _))))
  exact hQ h' ⟨hk _ _ D.TIz D.TIi1 D.TIi2 d,n,p,g.at λo e=>hk _ o D.l1z D.l1i1 D.l1i2 e,h.at λo e=>hk _ o D.l2z D.l2i1 D.l2i2 e,
   .inr ⟨a,true,t,c1,hk a t v a1 a2 u,m,v,a1,a2⟩⟩ j q λc o d1 _ B C e=>hk c o d1 B C e
def De{z TI TO i1 i2 l1 l2:ao}{i:Nat}{xs ys:Array av}{Q:Option av->az->Prop}(m:A.handled=none)(D:QZ z TI TO i1 i2 l1 l2)(k:ZSt s.heap z TI TO i1 i2 l1 l2 xs ys i)(d:xs[i]? = none\/ys[i]? = none)
  (hQ:∀h',(∀c o,c≠z->c≠TO->c≠i1->c≠i2->s.heap.get? c=some o->h'.get? c=some o)->Q none { s with heap:=h' }):j4 (kw prog w) A (QY (.ref z)) Q E s:=by
 obtain⟨g,h1,h2,h,j,hz⟩:=k;rcases hz with⟨rfl,hz,a,b,l⟩|⟨a,f,u,hz,n,p,v,a1,a2⟩
 .exact wpAny_pyNext_zip_end m D hz g l h1 h2 h j d hQ
 .have hT:s.TypeIs (.ref z) "zip" := ⟨_,hz,rfl⟩
  unfold QY;refine jj (Q0 (z4 (name:=gh "__next__") hT F.slot_zip_next
   (KX F.slot_zip_next hT F.entry_zip_next (nX m D hz n g h1 h2 h j d λh' e hk q=>?_) (F.args_zip_next_1 _))))
  obtain⟨o,ho,hc⟩:=q;refine jj (Qz (T := "StopIteration") (b:=true) ⟨o,ho,hc⟩ isSubtype_stop ?_);exact j0 (hQ _ λc o d1 _ r t e=>hk c o d1 r t e)
end
section
variable {prog:ky}{w:k3}{A:Around}{s:az}{R:Z6->az->Prop}{z TI TO i1 i2 l1 l2:ao}{xs ys:Array av}
structure ZG(xs ys:Array av)(lo:ao)(h:bg)(as:List ao):Prop where
 nd : as.Nodup
 above:∀a∈as,lo<=a
 pairs:∀(j:Nat) (a:ao),as[j]? = some a->∃x y,xs[j]? = some x/\ys[j]? = some y/\Zi h a x y
def Db{S lo:ao}{n:Nat}(Y:A.handled=none)(D:QZ z TI TO i1 i2 l1 l2)(hn:n=min xs.size ys.size)(Z:n<=sizeLine)(n1:l1≠S)(n2:l2≠S)(zl:z<lo)(tl:TO<lo)(il:i1<lo)(jl:i2<lo)(sl:S<lo)(d:S≠z/\S≠TO/\S≠i1/\S≠i2)(res:av){h₁:bg}
  (hR:∀h' tk f c as,(∀b o,b≠S->b≠z->b≠TO->b≠i1->b≠i2->h₁.get? b=some o->h'.get? b=some o)->h'.get? S=some { cls:=.type "list",dict:=none,data:=.seq f c,slots:=#[] }->as.length=n->ZG xs ys lo h' as ->
   f.toList=as.map cn->R (.ok (.ret res)) { s with heap:=h',toks:=tk }) :
  ∀(k i:Nat) (h:bg) (tk c:Nat) (f:Array av) (as:List ao),n - i=k->i<=n->ZSt h z TI TO i1 i2 l1 l2 xs ys i->(∀b o,b≠S->b≠z->b≠TO->b≠i1->b≠i2->h₁.get? b=some o->h.get? b=some o) ->
   h.get? S=some { cls:=.type "list",dict:=none,data:=.seq f c,slots:=#[] }->f.toList=as.map cn->as.length=i->ZG xs ys lo h as->lo<=h.objs.size ->
   Qv (kw prog w) A (.builtin "list.extend.loop" ⟨[.ref S,.ref z,res],[]⟩) R { s with heap:=h,toks:=tk }:=by
 intro k;have E:∀b,lo<=b->b≠z/\b≠TO/\b≠i1/\b≠i2/\b≠S:=λb m =>
  ⟨J2 (Jp zl m),J2 (Jp tl m),J2 (Jp il m),J2 (Jp jl m),J2 (Jp sl m)⟩
 induction k with
 | zero =>
  intro i h tk c f as hk hi t g P l p hG u;have a0:i=n:=!0
  refine QD x5 ?_;rw[Around.under_plainId np _];show j4 _ A.in1 (QY (.ref z) >>= _) _ _ _;have G:xs[i]? = none\/ys[i]? = none:=by
   rcases Nat.le_total xs.size ys.size with q|q
   .exact .inl (pr (!0))
   .exact .inr (pr (!0))
  refine jj (De (s:={ s with heap:=h,toks:=tk }) (A:=A.in1) Y D t G λh' T=>?_);refine j0 (hR h' tk f c as (λb o Q H I J K e=>T b o H I J K (g b o Q H I J K e)) (T S _ d.1 d.2.1 d.2.2.1 d.2.2.2 P) (!0) ⟨hG.nd,hG.above,λj a hj=>?_⟩ l);obtain⟨x,y,e1,e2,e3⟩:=hG.pairs j a hj;obtain⟨q1,q2,U,V,_⟩:=E a (hG.above a (Km hj));exact⟨x,y,e1,e2,T a _ q1 q2 U V e3⟩
 | succ k ih =>
  intro i h tk c f as hk hi t g P l p hG u;have W:i<n:=!0
  have L:i<xs.size:=!0
  have M:i<ys.size:=!0
  have hsz:f.size=i:=by rw[<-me,l,Je,p]
  refine QD x5 ?_;rw[Around.under_plainId np _];show j4 _ A.in1 (QY (.ref z) >>= _) _ _ _;refine jj (Dc (s:={ s with heap:=h,toks:=tk }) D t (gV L) (gV M) λh' N X hz r=>?_);dsimp only at X hz r ⊢;have v:=r S _ d.1 d.2.1 d.2.2.1 d.2.2.2 P;have up:∀b o,b≠S->h'.get? b=some o->(h'.update S (ef (·.push (cn h.objs.size)))).get? b=some o:=λb o m e=>(JU _ _ (Ne.symm m)).trans e;have O:h.objs.size≠S:=J2 (Jv P);show j4 _ A.in1 (Zj S (·.push (cn h.objs.size)) >>= _) _ _ _;refine jj ?_;refine QC v rfl (j0 ⟨QB np _,ih (i+1) _ tk _ (f.push (cn h.objs.size)) (as++[h.objs.size]) (!0) W (N.keep v rfl n1 n2 up)
   (λb o Q H I J K e=>up b o Q (r b o H I J K (g b o Q H I J K e))) (JW _ v rfl) (by rw[Array.toList_push,l,Jy];rfl) (by rw[Jz,p];rfl) ⟨?_,?_,?_⟩ ?_⟩) (by rw[hsz];omega) (by show(f.push (cn h.objs.size)).size<=sizeLine+1;rw[Ma,hsz];omega)
  .refine Ju.mpr ⟨hG.nd,!1,λa B b m=>?_⟩;rw[Jf.mp m];obtain⟨j,hj⟩:=rj.mp B;obtain⟨_,_,_,_,e⟩:=hG.pairs j a hj;exact JH (Jv e)
  .intro a B;rcases Jj.mp B with B|B
   .exact hG.above a B
   .rw[Jf.mp B];exact u
  .intro j b hj;rcases Nat.lt_trichotomy j as.length with q|q|q
   .rw[JV q] at hj;obtain⟨x,y,e1,e2,e3⟩:=hG.pairs j b hj;obtain⟨q1,q2,U,V,q5⟩:=E b (hG.above b (Km hj));exact⟨x,y,e1,e2,up b _ q5 (r b _ q1 q2 U V e3)⟩
   .subst q;have m:h.objs.size=b:=by simpa using hj
    subst m;exact⟨_,_,by rw[p];exact gV L,by rw[p];exact gV M,up _ _ O X⟩
   .have C:(as++[h.objs.size])[j]? = none:=J0 (by rw[Jz,JP];omega);rw[C] at hj;cases hj
  .have e:(h'.update S (ef (·.push (cn h.objs.size)))).get? h.objs.size=_:=up _ _ O X;exact Jt u (KM (Jv e))
def so:typeLookup (.type "zip") "__len__" = pure none:=by rw[typeLookup_type,builtinLookup_eq_fast];kernel_rfl
def nW:typeLookup (.type "zip") "__length_hint__" = pure none:=by rw[typeLookup_type,builtinLookup_eq_fast];kernel_rfl
def wZ(u:A.handled=none)(D:QZ z TI TO i1 i2 l1 l2)(h:ZSt s.heap z TI TO i1 i2 l1 l2 xs ys 0)(hz:IsZip s.heap z TI TO .none)(p:min xs.size ys.size<=sizeLine)(q:l1≠S)(r:l2≠S)(tl:TO<s.heap.objs.size)(g:S≠z/\S≠TO/\S≠i1/\S≠i2)(res:av)
  (n:s.heap.get? S=some { cls:=.type "list",data:=.seq #[] k })
  (hR:∀h' tk l c as,(∀b o,b≠S->b≠z->b≠TO->b≠i1->b≠i2->s.heap.get? b=some o->h'.get? b=some o)->h'.get? S=some { cls:=.type "list",dict:=none,data:=.seq l c,slots:=#[] }->as.length=min xs.size ys.size->ZG xs ys s.heap.objs.size h' as ->
   l.toList=as.map cn->R (.ok (.ret res)) { s with heap:=h',toks:=tk }) :
  j4 (kw prog w) A.in1 (eS (.ref S) (.ref z) res)
   (λfin s'=>match fin with|.done f=>R (.ok f) s'|.again c'=>c'.quiet=true/\Qv (kw prog w) A c' R s') (λe s'=>R (.error e) s') s:=by
 have hT:s.TypeIs (.ref z) "zip" := ⟨_,hz,rfl⟩
 unfold eS;refine jj (ZZ hT ?_);have e1:i3 (.ref S) (.ref z)=false:=by simp[i3,g.1]
 have e2:(i4 "zip" == i4 "list")=false:=!2
 have e3:(i4 "zip" == i4 "tuple")=false:=!2
 simp only[e1,e2,e3,Ms,JL,if_false];refine jj (ZA hz ?_);refine jj (k5 ?_);unfold nm;refine jj (Qj hT so ?_);show j4 _ A.in1 (specialOf (cn z) (gh "__length_hint__") >>= _) _ _ _;refine jj (Qj hT nW ?_);refine j0 ?_;show j4 _ A.in1 (rule "list.extend.makes-room" >>= λ_=>Builtin.List.listTouch (.ref S) >>= λ_ =>
  again (.builtin "list.extend.loop" ⟨[.ref S,.ref z,res],[]⟩)) _ _ _
 refine jj (Qr ?_);refine jj ?_;show j4 _ A.in1 (Zj S (·.push .none) >>= λ_=>Zj S (·.pop)) _ _ _;refine jj (QC n rfl ?_);have d:=JW (ef (·.push dt)) n rfl;refine QC (hz:=by seq_fits) d rfl ?_;have i:=JW (ef (·.pop)) d rfl;have m:∀b o,b≠S->s.heap.get? b=some o->((s.heap.update S (ef (·.push dt))).update S (ef (·.pop))).get? b=some o :=
  λb o t e=>(JU _ _ (Ne.symm t)).trans ((JU _ _ (Ne.symm t)).trans e)
 have hsz:((s.heap.update S (ef (·.push dt))).update S (ef (·.pop))).objs.size=s.heap.objs.size:=by rw[K5,K5]
 obtain⟨C,v,_⟩:=id h.2.1;obtain⟨E,x,_⟩:=id h.2.2.1;exact j0 ⟨QB F.plain_extend_loop _,Db (lo:=s.heap.objs.size) (h₁:=s.heap) u D rfl p q r (Jv hz) tl (Jv v) (Jv x) (Jv n) g res hR _ 0 _ s.toks _ #[] [] rfl (JD _) (h.keep n rfl q r m) (λb o y _ _ _ _ e=>m b o y e) i rfl rfl ⟨Ki,(λa B=>by cases B),λj a hj=>by simp at hj⟩ (by rw[hsz];exact Jx _)⟩
end
section
variable {prog:ky}{w:k3}{A:Around}{E:av->az->Prop}{s:az}{z TI TO i1 i2 l1 l2:ao}{xs ys:Array av}
def lE(B:A.handled=none)(D:QZ z TI TO i1 i2 l1 l2)(t:ZSt s.heap z TI TO i1 i2 l1 l2 xs ys 0)(hz:IsZip s.heap z TI TO .none)(u:min xs.size ys.size<=sizeLine)(tl:TO<s.heap.objs.size)
  (hQ:∀h' tk g c as,(∀b o,b≠z->b≠TO->b≠i1->b≠i2->s.heap.get? b=some o->h'.get? b=some o)->h'.get? s.heap.objs.size=some { cls:=.type "list",dict:=none,data:=.seq g c,slots:=#[] }->as.length=min xs.size ys.size ->
   ZG xs ys (s.heap.objs.size+1) h' as->g.toList=as.map cn->Q (.ref s.heap.objs.size) { s with heap:=h',toks:=tk }) :
  j4 (kw prog w) A (call (.type "list") [.ref z]) Q E s:=by
 refine callType_codes (Q₁:=λobj h=>obj=.ref s.heap.objs.size/\h={ s with heap:=s.heap.push { cls:=.type "list",data:=.seq #[] } }) F.called_list (F.typeCall_list_1 _) F.entry_list_init
  (code_list_new _ ⟨rfl,rfl⟩) λobj h h₁=>?_
 obtain⟨rfl,rfl⟩:=h₁;have p:(s.heap.push { cls:=.type "list",data:=.seq #[] }).get? s.heap.objs.size=some { cls:=.type "list",data:=.seq #[] }:=JA _ rfl;refine⟨⟨_,p,rfl⟩,F.args_list_init_2 _ _,?_⟩;show j4 _ _ (do let old <-vu (.ref s.heap.objs.size);Builtin.List.listUpdate (.ref s.heap.objs.size) (λ_=>#[]);letGo old.toList.reverse;eS (.ref s.heap.objs.size) (.ref z) .none) _ _ _;refine jj ?_;unfold vu;refine jj (Qw p rfl (j0 ?_));show j4 _ _ (Zj s.heap.objs.size (λ_=>#[]) >>= λ_=>letGo (#[]:Array av).toList.reverse >>= λ_=>eS (.ref s.heap.objs.size) (.ref z) .none) _ _ _;refine jj (QC p rfl ?_);have i:=JW (ef (λ_=>(#[]:Array av))) p rfl;have d:∀b o,s.heap.get? b=some o->((s.heap.push { cls:=.type "list",data:=.seq #[] }).update s.heap.objs.size (ef (λ_=>(#[]:Array av)))).get? b=some o :=
  λb o e=>(JU _ _ (J2 (Jv e))).trans (Jn _ e)
 refine jj (wpAny_letGo ?_);obtain⟨v,h1,h2,k,l,x⟩:=t;have j:∀{b o},s.heap.get? b=some o->b≠s.heap.objs.size:=λe=>JH (Jv e);have m:ZSt ((s.heap.push { cls:=.type "list",data:=.seq #[] }).update s.heap.objs.size (ef (λ_=>(#[]:Array av)))) z TI TO i1 i2 l1 l2 xs ys 0:=by
  refine⟨d _ _ v,h1.at λo e=>d _ o e,h2.at λo e=>d _ o e,k.at λo e=>d _ o e,l.at λo e=>d _ o e,?_⟩;rcases x with⟨e,q,a,b,r⟩|⟨a,f,C,q,r,c,q1⟩
  .exact .inl ⟨e,d _ _ q,a,b,d _ _ r⟩
  .exact .inr ⟨a,f,C,d _ _ q,d _ _ r,c,q1⟩
 have hsz:((s.heap.push { cls:=.type "list",data:=.seq #[] }).update s.heap.objs.size (ef (λ_=>(#[]:Array av)))).objs.size=s.heap.objs.size+1:=by rw[K5,Kt]
 obtain⟨S,G,_⟩:=id h1;obtain⟨T,H,_⟩:=id h2;obtain⟨U,I,_⟩:=id k;obtain⟨V,J,_⟩:=id l;refine wZ (R:=wants (λr n=>r=dt/\Q (cn s.heap.objs.size) n) E) (A:=A.in1) (s:={ s with heap:=(s.heap.push { cls:=.type "list",data:=.seq #[] }).update s.heap.objs.size (ef (λ_=>(#[]:Array av))) }) B D m (d _ _ hz) u (j I) (j J) (by show TO<_;rw[hsz];exact KU tl) ⟨(j hz).symm,J2 tl,(j G).symm,(j H).symm⟩ .none i λh' tk g c as hk y K hG L=>?_;dsimp only at hG hk;rw[hsz] at hG;exact⟨rfl,hQ h' tk g c as (λb o M N O P e=>hk b o (j e) M N O P (d b o e)) y K hG L⟩
end
section
variable {X:Cx}{pins:List (ao×Obj)}{σ:St}{s:az}
theorem i9:∀(L:List (ao×V×V)) (H:Hp),Inv X pins σ H s->(L.map λt=>t.1).Nodup->(∀t∈L,iK X pins H t.1/\∃x y,bD t.2.1 x/\bD t.2.2 y/\Zi s.heap t.1 x y) ->
  ∃H',Inv X pins σ H' s/\be H H'/\(∀b,b ∉ L.map (λt=>t.1)->H' b=H b)/\∀t∈L,H' t.1=some (.tup [t.2.1,t.2.2])
 | [],H,I,_,_=>⟨H,I,be.refl H,λ_ _=>rfl,λ_ z=>by cases z⟩
 | t :: L,H,I,nd,h=>by
  rw[Jr,JO] at nd;obtain⟨fp,x,y,e,g,i⟩:=h t Jm;have j:Inv X pins σ (upd H t.1 (.tup [t.2.1,t.2.2])) s:=I.track fp ⟨by rw[zg];simp,[x,y],.cons e (.cons g .nil),⟨_,i,rfl,⟨_,rfl⟩,rfl⟩⟩;have k:be H (upd H t.1 (.tup [t.2.1,t.2.2])):=be.new fp.1;obtain⟨H',l,s2,d,m⟩:=i9 L _ j nd.2 λu a=>by
   obtain⟨f,r⟩:=h u (Jq _ a);have ne:u.1≠t.1:=λz=>nd.1 (Jk.mpr ⟨u,a,z⟩);exact⟨⟨by rw[au ne];exact f.1,f.2⟩,r⟩
  refine⟨H',l,k.trans s2,λb c=>?_,λu a=>?_⟩
  .rw[Jr,Jo,not_or] at c;rw[d b c.2,au c.1]
  .rcases Jo.mp a with rfl|a
   .rw[d _ nd.1];exact aB
   .exact m u a
theorem lN:∀as:List ao,aW (as.map V.ref) (as.map cn)
 | []=>.nil
 | a::as=>.cons rfl (lN as)
theorem kr:∀{xs:List V}{us:List av}{j:Nat}{u:av}{x:V},aW xs us->us[j]? = some u->xs[j]? = some x->bD x u
 | _,_,0,u,x,.cons r _,e,f=>by
  simp only[List.getElem?_cons_zero,Lm] at e f;subst e;subst f;exact r
 | _,_,j+1,u,x,.cons _ r,e,f=>by
  rw[List.getElem?_cons_succ] at e f;exact kr r e f
 | _,_,_,_,_,.nil,e,_=>by simp at e
end
section
def F0(K:cb)(ta:TA):TE:=λσ H Q=>ta σ H λvs H1=>∃l1 l2 xs ys,vs=[.ref l1,.ref l2]/\SqL K H1 l1 xs/\SqL K H1 l2 ys /\
 ∀(H2:Hp) (as:List ao),be H1 H2->as.length=(xs.zip ys).length->(∀t∈as.zip (xs.zip ys),H1 t.1=none/\H2 t.1=some (.tup [t.2.1,t.2.2]))->∀r,H2 r=none->Q (.ref r) (upd H2 r (.lst (as.map V.ref)))
end
section
variable {K:cb}{N:ao->Prop}{H1 H2:Hp}
theorem rO(k:be H1 H2)(hN:∀a,H1 a=none->¬N a):∀(as:List ao) {xs ys:List V}{d1 d2:List ah},DNs K N H1 xs d1->DNs K N H1 ys d2->as.length=(xs.zip ys).length->(∀t∈as.zip (xs.zip ys),H1 t.1=none/\H2 t.1=some (.tup [t.2.1,t.2.2])) ->
  DNs K N H2 (as.map V.ref) ((d1.zip d2).map λp=>hZ [p.1,p.2])
 | [],_,_,_,_,.nil,_,_,_=>.nil
 | [],_,_,_,_,.cons _ _,.nil,_,_=>.nil
 | [],_,_,_,_,.cons _ _,.cons _ _,e,_=>by simp at e
 | _::_,_,_,_,_,.nil,_,e,_=>by simp at e
 | _::_,_,_,_,_,.cons _ _,.nil,e,_=>by simp at e
 | a::as,_,_,_,_,.cons u us,.cons w ws,e,h=>by
  simp only[Kk,JX,Nat.add_right_cancel_iff] at e;simp only[Kk,Jr];obtain⟨h1,h2⟩:=h (a,_,_) (by rw[Kk,Kk];exact Jm);refine .cons (.tup (SnT.of h2 (hN a h1)) (.cons (u.keep (aX.same k)) (.cons (w.keep (aX.same k)) .nil))) (rO k hN as us ws e λt b=>h t ?_);rw[Kk,Kk];exact Jq _ b
end
section
def CL(t:DA):DE:=λenv R=>t env λss a=>∃s1 s2 d1 d2,ss=[s1,s2]/\aO a s1=some (.list d1)/\aO a s2=some (.list d2)/\R (.ow ((d1.zip d2).map λp=>hZ [p.1,p.2])) a
end
end _L
namespace _L
open PySem PySem.Spec PyProof.Rows
def uZ(h:Pairs (Qc p w) es kvs):Pairs (Qc p' w') es kvs:=by
 induction h with
 | nil=>exact .nil
 | cons h1 h2 _ a=>exact .cons h1 h2 a
def ia{h:bg}(x:h.DictOf (Qc p w) a kvs):h.DictOf (Qc p' w') a kvs:=by obtain⟨o,es,ep,h1,h2,h3,h4,h5,h6⟩:=x;exact⟨o,es,ep,h1,h2,h3,h4,uZ h5,h6⟩
abbrev PrI:List (Int×V)->List (Int×av)->Prop:=Paired (λ(p:Int×V) (q:Int×av)=>p.1=q.1/\bD p.2 q.2)
section
variable {X:Cx}{pins:List (ao×Obj)}{σ:St}{H:Hp}{s:az}{a:ao}{k:Int}
def fX(I:Inv X pins σ H s)(b:H a=some (.ext (aZ a es))):es.length<=sizeLine/\(a==Qb)=false/\∃xs,PrI es xs/\s.heap.DictOf (Qc X.prog X.w) a xs:=by obtain⟨⟨z,y,xs,r,h⟩,_⟩:=I.hok a _ b;exact⟨z,y,xs,r,h _ _⟩
def CZ{es:List (Int×V)}{xs:List (Int×av)}{kvs:List (Int×ah)}{K:cb}(k:Int)(r:PrI es xs):es.map (λp=>p.1)=kvs.map (λp=>p.1)->DVs K H (es.map λp=>p.2) (kvs.map λp=>p.2) ->
  (aI kvs k=none/\QI xs k=none)\/∃(i:Nat) (d:ah) (v:V) (u:av),aI kvs k=some d/\QI xs k=some u/\(es.map λp=>p.2)[i]? = some v/\(kvs.map λp=>p.2)[i]? = some d/\bD v u:=by
 induction r generalizing kvs with
 | nil =>
  intro e _;cases kvs with
  | nil=>exact .inl ⟨rfl,rfl⟩
  | cons kv kvs=>simp at e
 | @cons p q es xs r t a =>
  intro e h;cases kvs with
  | nil=>simp at e
  | cons kv kvs =>
   rw[Jr,Jr] at e h;injection e with e1 e2;cases h with
   | cons h1 h2 =>
    by_cases hk:kv.1=k
    .have hq:q.1=k:=by rw[<-r.1,e1,hk]
     refine .inr ⟨0,kv.2,p.2,q.2,by rw[aq,Mz hk],?_,rfl,rfl,r.2⟩;simp[QI,JY,hq]
    .have hq:¬q.1=k:=λz=>hk (by rw[<-e1,r.1,z]);have b:aI (kv::kvs) k=aI kvs k:=by rw[aq,MA hk]
     have c:QI (q::xs) k=QI xs k:=by simp[QI,JY,hq]
     rw[b,c];rcases a e2 h2 with z|⟨i,d,v,u,z1,z2,z3,f,g⟩
     .exact .inl z
     .exact .inr ⟨i+1,d,v,u,z1,z2,by simpa using z3,by simpa using f,g⟩
end
section
variable {X:Cx}
def DF(K:cb):R2:=λx y H Q=>∃(k:Int) (a:ao) (es:List (Int×V)) (kvs:List (Int×ah)),x=.ref a/\y=.int k/\H a=some (.ext (aZ a es))/\DVs K H (es.map λp=>p.2) (kvs.map λp=>p.2) /\
 es.map (λp=>p.1)=kvs.map (λp=>p.1)/\(aI kvs k).isSome=true/\∀(i:Nat) v d,aI kvs k=some d->(es.map λp=>p.2)[i]? = some v->(kvs.map λp=>p.2)[i]? = some d->Q v H
def IR:IxR X (DF X.K):=by
 intro c slice pins s σ H x y v u Q I j l h m;obtain⟨k,a,es,kvs,rfl,rfl,n,hv,e,b,q⟩:=h;cases (show v=cn a from j);obtain⟨t,rfl⟩:=l;obtain⟨z,y,xs,r,dd⟩:=fX I n;have g:=dd.mapOf;have hT:=g.typeIs;unfold Zp;refine jj ?_;rw[getitemInPython_of_ne hT.not_modules];refine jj (Qj hT x4.lookup ?_);have fin:j4 (kw X.prog X.w) X.A (ZE slice false (.ref a) (.int k t)) (λr f=>j4 (kw X.prog X.w) X.A (letTemporaryGo c (.ref a) r >>= λ_=>pure r) (EP X pins σ Q) X.xe f) X.xe s:=by
  rw[m];rcases CZ k r e hv with⟨z1,_⟩|⟨i,d,v,u,z1,z2,z3,o,p⟩
  .rw[z1] at b;cases b
  .refine wpAny_operating (wpAny_getItem_of (knd:=Qc X.prog X.w) (bQ k t) g z2 ?_);exact jj (wpAny_letTemporaryGo (j0 ⟨v,H,I.tok _,p,q i v d z1 z3 o⟩))
 first
  | exact j0 (jj fin)
  | exact jj (j0 (jj fin))
  | exact jj fin
theorem iY{κ β:Type} [DecidableEq κ]:∀(es:List (κ×β)) (k:κ),(es.any λp=>decide (p.1=k))=(aI es k).isSome
 | [],k=>rfl
 | p::es,k=>by
  rw[Kx,iY es k,aq];by_cases h:p.1=k <;> simp[h]
def gF{κ β a:Type} [DecidableEq κ]{es:List (κ×β)}{kvs:List (κ×a)}(k:κ)(e:es.map (λp=>p.1)=kvs.map (λp=>p.1)):(aI es k).isSome=(aI kvs k).isSome:=by
 have h:∀{β:Type} (es:List (κ×β)),(aI es k).isSome=(es.map λp=>p.1).any λx=>decide (x=k):=λes=>by rw[<-iY,List.any_map];rfl
 rw[h,h,e]
def jp(r:PrI es xs)(k:Int)(rv:bD v u):PrI (cV es k v) (stored xs k u):=by
 have e:(aI es k).isSome=(xs.any λkv=>decide (kv.1=k)):=by
  rw[<-iY]
  induction r with
  | nil=>rfl
  | @cons p q ps qs h t a=>rw[Kx,Kx,a,h.1]
 unfold cV stored;rw[e];by_cases c:(xs.any λkv=>decide (kv.1=k))=true
 .rw[Mz c,Mz c];clear e c
  induction r with
  | nil=>exact .nil
  | @cons p q ps qs h t a =>
   rw[Jr,Jr];refine .cons ?_ a;by_cases hk:p.1=k
   .rw[Mz hk,Mz (show q.1=k by rw[<-h.1,hk])];exact⟨h.1,rv⟩
   .rw[MA hk,MA (λz=>hk (by rw[h.1,z]))];exact h
 .rw[MA c,MA c];exact Paired.snoc r ⟨rfl,rv⟩
def Ge:C2:=λx y v H Q=>∃(k:Int) (a:ao) (es:List (Int×V)),x=.ref a/\y=.int k/\H a=some (.ext (aZ a es))/\es.length<sizeLine/\Q (upd H a (.ext (aZ a (cV es k v))))
def Ga:Fn X Ge:=by
 intro pins s σ H x y v ov iv u Q I f g rv h;obtain⟨k,a,es,rfl,rfl,d,B,q⟩:=h;cases (show ov=cn a from f);obtain⟨t,rfl⟩:=g;obtain⟨z,y,xs,r,dd⟩:=fX I d;have hz:xs.length<=sizeLine:=by rw[<-Paired.length r];exact z
 refine wpAny_setItem_pairs (hsz:=hz) (knd:=Qc X.prog X.w) (bQ k t) dd λh' c i=>?_;obtain⟨o,j,ep,h1,h2⟩:=id c;refine⟨_,?_,q⟩;refine I.write (x:=a) (e:=a) (by rw[d];exact True.intro) (.inl rfl) (λb q l z=>(i.2 b l).trans z) ⟨_,h1⟩ ?_;have new:aZ a (cV es k v) h':=⟨by have:=qB es k v;omega,y,_,jp r k rv,λp w=>ia c⟩
 exact⟨new,⟨_,h1⟩,λm n hx A=>hx.keep λo e=>A _ e⟩
def F2:TE:=λ_ H Q=>∀p,H p=none->Q (.ref p) (upd H p (.ext (aZ p [])))
def kh(h:bg)(a:Qb<h.objs.size):ft P w H (h.push { cls:=.type "dict",data:=.dict #[] }) h.objs.size (.ext (aZ h.objs.size [])):=by have e:=JA (o:=({ cls:=.type "dict",data:=.dict #[] }:Obj)) h rfl;exact⟨⟨JD _,beq_eq_false_iff_ne.mpr (Ne.symm (JH a)),[],.nil,λp w=>⟨_,#[],0,e,⟨rfl,rfl,rfl⟩,rfl,λx hx=>by simp at hx,.nil,Ki⟩⟩,⟨_,e⟩,λh1 h2 hx b=>hx.keep λo e=>b _ e⟩
def Bu:PE X (.Dict [] [] pos) F2:=λpins s σ H Q I h =>
 wpAny_Dict_empty ⟨.ref s.heap.objs.size,_,I.laid (a:=s.heap.objs.size) (o:=.ext (aZ s.heap.objs.size [])) (t':=s.toks) (λ_ _ q=>Jn _ q) (Jx _) (kh s.heap I.big'),rfl,h _ (I.hok.fresh (Jx _))⟩
end
theorem iU:∀{kvs a:List (Int×ah)},kvs.map (λp=>(eb p.1,p.2))=a.map (λp=>(eb p.1,p.2))->kvs=a
 | [],[],_=>rfl
 | [],_::_,e=>by simp at e
 | _::_,[],e=>by simp at e
 | (k,v)::xs,(k',v')::ys,e=>by
  rw[Jr,Jr] at e;injection e with e1 e2;injection e1 with e1 e3;injection e1 with e1;simp only at e1 e3;rw[e1,e3,iU e2]
section
variable {K:cb}{M P N:ao->Prop}{H0 H:Hp}{σ0 σ:St}{env:List Sl}{ts:List (V×Sl)}{v:V}{d:ah}{kvs:List (Int×ah)}
abbrev IDN(K:cb)(N:ao->Prop)(H:Hp)(es:List (Int×V))(kvs:List (Int×ah)):Prop:=DNs K N H (es.map λp=>p.2) (kvs.map λp=>p.2)/\es.map (λp=>p.1)=kvs.map (λp=>p.1)
def pF(e:bz kv=dG kvs):False:=rD e.symm
def DN.idc_of(h:DN K N H v d)(e:d=dG kvs):∃a es,v=.ref a/\H a=some (.ext (aZ a es))/\IDN K N H es kvs:=by
 cases h with
 | fz _=>simp[fzD,dG] at e
 | dct _ _ _ _ _=>exact(pF e).elim
 | @idc a es b n c hv f =>
  injection e with e;injection e with _ e;have e:=iU e;subst e;exact⟨a,es,rfl,c,hv,f⟩
 | _=>cases e
theorem Vw.idc_of(h:Vw K N H v d)(e:d=dG kvs):∃a es,v=.ref a/\H a=some (.ext (aZ a es))/\IDN K N H es kvs:=by
 cases h with
 | dn h=>exact h.idc_of e
 | ow h q=>cases e
 | dct _ _ _ _=>exact(pF e).elim
 | @idc a es b c hv f =>
  injection e with e;injection e with _ e;have e:=iU e;subst e;exact⟨a,es,rfl,c,hv,f⟩
def OT.idc_of(h:OT K N H v d S)(e:d=dG kvs):∃a es,v=.ref a/\S=[a]/\H a=some (.ext (aZ a es))/\IDN K N H es kvs:=by
 cases h with
 | fz _=>simp[fzD,dG] at e
 | dct _ _ _ _=>exact(pF e).elim
 | @idc a es b c hv f =>
  injection e with e;injection e with _ e;have e:=iU e;subst e;exact⟨a,es,rfl,rfl,c,hv,f⟩
 | _=>cases e
def FC:G2:=λd e R=>∃(kvs:List (Int×ah)) (k:Int) (x:ah),d=dG kvs/\e=.int k/\aI kvs k=some x/\R x
def C5:b8 K (DF K) FC:=by rintro N H x y d e R Q b c ⟨kvs,k,z,rfl,rfl,hg,hR⟩ hq;obtain⟨a,es,rfl,f,hv,g⟩:=b.idc_of rfl;refine⟨k,a,es,kvs,rfl,c.int,f,hv.dv,g,by rw[hg];rfl,λi v d hd h1 h2=>?_⟩;rw[hg] at hd;cases hd;obtain⟨h,e1,dn⟩:=hv.get h1;rw[h2] at e1;cases e1;exact hq _ _ hR dn
def mh(k:Int)(h2:IDN K N H es kvs)(dn:DN K N H v d):IDN K N H (cV es k v) (cV kvs k d):=by
 obtain⟨h2,e⟩:=h2;unfold cV;rw[gF k e];by_cases c:(aI kvs k).isSome=true
 .rw[Mz c,Mz c];clear c
  induction es generalizing kvs with
  | nil =>
   cases kvs with
   | nil=>exact⟨.nil,rfl⟩
   | cons q kvs=>simp at e
  | cons p es b =>
   cases kvs with
   | nil=>simp at e
   | cons q kvs =>
    rw[Jr,Jr] at e h2;injection e with e1 e2;cases h2 with
    | cons f g =>
     obtain⟨i2,i1⟩:=b g e2;simp only[Jr];by_cases h:q.1=k
     .have a:p.1=k:=e1.trans h;simp only[h,a,if_true];exact⟨.cons dn i2,by rw[Jr,Jr,i1]⟩
     .have a:¬p.1=k:=λz=>h (e1.symm.trans z);simp only[h,a,if_false];exact⟨.cons f i2,by rw[Jr,Jr,i1,e1]⟩
 .rw[MA c,MA c];refine⟨?_,by rw[Jy,Jy,e];rfl⟩;rw[Jy,Jy];exact h2.app (.cons dn .nil)
def Rel.idct{i:Nat}{S:List ao}(h:Rel K M P H0 σ0 σ env ts H)(e:env[i]? = some (.tr S (dG kvs))):∃a es,σ[i]? = some (some (.ref a))/\S=[a]/\H a=some (.ext (aZ a es))/\IDN K (Nw M (aG σ env ts)) H es kvs:=by obtain⟨x,e1,m⟩:=h.slot e;obtain⟨v,ev,ot,_⟩:=h.e.tr _ _ _ m;obtain⟨a,es,rfl,b,c,hv⟩:=ot.idc_of rfl;exact⟨a,es,by rw[e1,ev],b,c,hv⟩
end
section
variable {X:Cx}{K:cb}{pos:Pos}
def C6(hK:X.K=K):IxR X (DF K):=by subst hK;exact IR
def CH(i:Nat)(tj te:DE):DS:=λDD env=>te env λs1 b=>(∃S kvs,b[i]? = some (.tr S (dG kvs)))/\tj b λs2 a=>∃(S:List ao) (kvs:List (Int×ah)) (k:Int) (d:ah),
 a[i]? = some (.tr S (dG kvs))/\aL a s2=some (.int k)/\aL a s1=some d/\kvs.length<sizeLine/\DD.nx (a.set i (.tr S (dG (cV kvs k d))))
def uL(i:Nat){y:bt}{npos b:Pos}{j:bb}(hK:X.K=K)(hN:X.N[i]? = some y)(hj:PE X j (up K tj))(G:PE X e (up K te))
  (hv:Vis X.env.scope y:=by first|exact lA rfl|exact di ci|exact di (di rfl)) (hd:(y==("__debug__" : bt))=false:=by decide)
  (p:(y==("__classdict__" : bt))=false:=by decide)
  (I:∀v,QE (.Subscript (.Name y npos) j b) X.env v=(do
   let ov <-Qk [v] (eval (.Name y npos) X.env)
   let iv <-Qk [v,ov] (eval j X.env)
   QV b
   Qk [v,ov,iv] (Q7 ov iv v)
   ZK [v,ov,iv] []):=by intro _;rfl)
  (J:Q1 [.Subscript (.Name y npos) j b] e pos.line X.env=pure false:=by rfl) (hw:Q2 [.Subscript (.Name y npos) j b] e X.env=pure none:=by rfl)
  (h1:(Qg [.Subscript (.Name y npos) j b] X.env).map (·.2)=[QE (.Subscript (.Name y npos) j b) X.env]:=by rfl):PS X (.Assign [.Subscript (.Name y npos) j b] e pos) (upS K (CH i tj te)):=by
 subst hK;refine(qP G (uU (bG hN hv hd p) hj Ga I) J hw h1).imp λD σ H h=>?_;obtain⟨M,P,H0,σ0,env,ts,DD,nv,q,L,ok⟩:=h;refine⟨M,P,H0,σ0,env,ts,_,q,L,λs1 l v1 H1 h1 g=>?_⟩;obtain⟨⟨Y,C,O⟩,h1⟩:=h1;obtain⟨a,_,o,_⟩:=g.idct O;refine⟨.ref a,o,M,P,H0,σ0,l,ts++[(v1,s1)],_,g,h1,λs2 f r H2 h2 m=>?_⟩;obtain⟨S,kvs,k,d,e2,Q,T,Z,hR⟩:=h2;have c:Rel X.K M P H0 σ0 σ f (ts++[(v1,s1),(r,s2)]) H2:=by simpa using m
 have t:=c.kept (v:=v1) (s:=s1) (!1) T;have u:=c.kept (v:=r) (s:=s2) (!1) Q;obtain⟨a',es,n,w,U,hv⟩:=c.drop.idct e2;rw[o] at n;cases n;have z:r=.int k:=by cases u;rfl
 subst z;have E:es.length=kvs.length:=by have:=congrArg fI hv.2;simpa using this
 refine⟨k,a,es,rfl,rfl,U,!0,ok.nx _ _ _ hR ?_⟩;have F:=mh (k:=k) hv t;have V:Nw M (aG σ f ts) a:=by obtain⟨x,A,B,e1,q1,q2⟩:=c.drop.split e2;refine .inr ?_;rw[q1,am,ar];rw[o] at e1;cases e1;rw[aS,w];simp
 have W:aX (Nw M (aG σ f ts)) H2 (upd H2 a (.ext (aZ a (cV es k v1)))):=aX.own V;refine c.drop.retreeT (R:=[]) e2 o (by rw[w];simp) (!1) ?_;rw[w];exact .idc aB (F.1.keep W) F.2
def CO:DE:=λenv R=>∀S,R (.tr S (dG [])) env
def zN:PE X (.Dict [] [] pos) (up K CO):=Bu.imp λσ H Q h=>by
 obtain⟨M,P,H0,σ0,env,ts,R,a,b,hq⟩:=h
 exactλp c=>hq _ _ _ _ (b [p]) (a.withRes (a.e.addO c λ_=>.idc (es:=[]) (kvs:=[]) aB .nil rfl) rfl)
end
section
variable {X:Cx}{K:cb}
def A1(hx:∀e s,X.xe e s->False)(h:PSs X body (upS K t)):PS X (.Try body (h₀::a) [] [] pos) (upS K t):=λpins s σ H D I w =>
 wpAny_Try_except (z5 (h pins s σ H D I w) (λf s1 q=>match f,q with
  | .next,q=>QT q
  | .brk,q=>q
  | .cont,q=>q
  | .ret _,q=>q) λe s1 z=>(hx e s1 z).elim)
end
end _L
namespace _L
open PySem PySem.Spec PyProof.Rows PySem.W
end _L
namespace _L
open PySem PySem.Spec PyProof.Rows
def kt(r:PrI es xs)(k:Int):(QI xs k).isSome=(aI es k).isSome:=by
 induction r with
 | nil=>rfl
 | @cons p q es xs h t a =>
  rw[aq];by_cases hk:p.1=k
  .have hq:q.1=k:=by rw[<-h.1,hk]
   rw[Mz hk];simp[QI,JY,hq]
  .have hq:¬q.1=k:=λz=>hk (by rw[h.1,z]);rw[MA hk,<-a];simp[QI,JY,hq]
def AH(r:PrI es xs)(k:Int)(h:QI xs k=some u):∃v,aI es k=some v/\bD v u:=by
 induction r with
 | nil=>simp[QI] at h
 | @cons p q es xs a t b =>
  rw[aq];by_cases hk:p.1=k
  .have hq:q.1=k:=by rw[<-a.1,hk]
   have e:q.2=u:=by simpa[QI,JY,hq] using h
   exact⟨p.2,Mz hk,e▸a.2⟩
  .have hq:¬q.1=k:=λz=>hk (by rw[a.1,z]);rw[MA hk];exact b (by simpa[QI,JY,hq] using h)
section
variable {X:Cx}
def HH:R2:=λx y H Q=>∃(k:Int) (a:ao) (es:List (Int×V)),x=.int k/\y=.ref a/\H a=some (.ext (aZ a es))/\Q (.bl (aI es k).isSome) H
def uD:R2:=λx y H Q=>∃(k:Int) (a:ao) (es:List (Int×V)),x=.int k/\y=.ref a/\H a=some (.ext (aZ a es))/\Q (.bl (!(aI es k).isSome)) H
def Ek:OpR X (k0 .In) HH:=by intro pins s σ H x y v u Q I b c h;obtain⟨k,a,es,rfl,rfl,d,q⟩:=h;cases (show u=cn a from c);obtain⟨t,rfl⟩:=b;obtain⟨z,y,xs,r,dd⟩:=fX I d;refine wpAny_in_of (knd:=Qc X.prog X.w) (bQ k t) y dd.mapOf ?_;rw[kt r];exact⟨.bl _,H,I.tok _,rfl,q⟩
def gu:OpR X (k0 .NotIn) uD:=by intro pins s σ H x y v u Q I b c h;obtain⟨k,a,es,rfl,rfl,d,q⟩:=h;cases (show u=cn a from c);obtain⟨t,rfl⟩:=b;obtain⟨z,y,xs,r,dd⟩:=fX I d;refine wpAny_notIn_of (knd:=Qc X.prog X.w) (bQ k t) y dd.mapOf ?_;rw[kt r];exact⟨.bl _,H,I.tok _,rfl,q⟩
def xD:V->List V->Hp->VK->Prop:=λx vs H Q=>∃(a:ao) (es:List (Int×V)) (k:Int) (v:V),x=.ref a/\vs=[.int k,v]/\H a=some (.ext (aZ a es))/\es.length<sizeLine /\
 (∀u,aI es k=some u->Q u H)/\(aI es k=none->Q v (upd H a (.ext (aZ a (cV es k v)))))
def sR:MtR X "dict.setdefault" xD:=by
 intro pins s σ H x vs v us Q I l rv h;obtain⟨a,es,k,w,rfl,rfl,i,K,q1,q2⟩:=h;cases (show v=cn a from l);cases rv with
 | cons m rv =>
  cases rv with
  | cons j rv =>
   cases rv;obtain⟨t,rfl⟩:=m;rename_i n;obtain⟨z,y,xs,r,dd⟩:=fX I i;have hz:xs.length<=sizeLine:=by rw[<-Paired.length r];exact z
   obtain⟨o,A,ep,h1,h2⟩:=id dd;refine Zx F.slot_dict_setdefault ⟨o,h1,h2.1.1⟩ F.entry_dict_setdefault (F.args_dict_setdefault_3 _ _ _) (kt_meets_setdefault (Qc X.prog X.w) a (bQ k t) y n) ⟨xs,dd,hz,λu B=>?_,λhn h' d C=>?_⟩
   .obtain⟨w',e1,e2⟩:=AH r k B;exact⟨w',H,I.tok _,e2,q1 w' e1⟩
   .have f:aI es k=none:=by
     have:=kt r k;rw[hn] at this;cases e:aI es k with
     | none=>rfl
     | some x=>rw[e] at this;cases this
    obtain⟨o',D,E,c,g⟩:=id d;refine⟨w,_,I.write (x:=a) (e:=a) (by rw[i];exact True.intro) (.inl rfl) (λb q G z=>(C.2 b G).trans z) ⟨_,c⟩ ?_,j,q2 f⟩;have new:aZ a (cV es k w) h':=⟨by have:=qB es k w;omega,y,_,jp r k j,λp w=>ia d⟩
    exact⟨new,⟨_,c⟩,λc g hx J=>hx.keep λo e=>J _ e⟩
def ID(r:V->List V->Hp->VK->Prop)(to:TE)(t:TA):TE:=λσ H Q=>to σ H λx H1=>(∃a es,x=.ref a/\H1 a=some (.ext (aZ a es)))/\t σ H1 λxs H2=>r x xs H2 Q
variable {o e:bb}{es:List bb}{to:TE}{t:TA}{name:bt}{apos cpos:Pos}{id:String}{r:V->List V->Hp->VK->Prop}
def Ed(l:Q8 "dict")(slot:Slot "dict" name id)(i:Z0 (.builtin id)=pure (.type "method_descriptor"))(m:MtR X id r)(ho:PE X o to)(n:PA X (e::es) t)
  (d:qb o name X.env (eval o X.env)=eval o X.env:=by rfl)
  (g:((k6 cpos (j1 (e::es) X.env)).all (λx=>!x.1)&&(Qy cpos (Qi [] X.env)).all (λx=>x.1.isSome)
   && decide ((e::es).length+([]:List Qd).length+(if ([]:List Qd).isEmpty then 0 else 1)<30))=true:=by rfl)
  (f:(apos.endLine==cpos.line)=true:=by rfl) (p:j1 (e::es) X.env=(false,eval e X.env)::j1 es X.env:=by rfl) (c:(k6 cpos (j1 es X.env)).any (·.1)=false:=by rfl) :
  PE X (.Call (.Attribute o name apos) (e::es) [] cpos) (ID r to t):=by intro pins s σ H Q I h;refine Q6 d g f rfl (thn (ho pins s σ H _ I h) λv s1 j=>?_);obtain⟨x,H1,k,q,ty,q1⟩:=j;obtain⟨a,u,rfl,w⟩:=ty;cases (show v=cn a from q);obtain⟨_,_,_,_,o,_,_,h1,h2,_⟩:=fX k w;refine⟨"dict",id,l,slot,i,⟨o,h1,h2.1⟩,λb e=>by cases e;exact⟨o,h1,h2.2.1⟩,?_⟩;have hA:=n cpos pins s1 σ H1 _ k q1;rw[p] at hA ⊢;refine Calls.callWith_builtin (by show(false || (k6 cpos (j1 es X.env)).any (·.1))=false;rw[c] <;> rfl) (Calls.evalArgs_plain ?_);exact thn hA λus s2 ⟨vs,H2,y,z,q2⟩=>m pins s2 σ H2 (.ref a) vs _ us Q y rfl z q2
end
section
variable {K:cb}
def GU:G2:=λd e R=>∃k kvs,d=.int k/\e=dG kvs/\R (.bool (aI kvs k).isSome)
def pA:G2:=λd e R=>∃k kvs,d=.int k/\e=dG kvs/\R (.bool (!(aI kvs k).isSome))
def IJ:b8 K HH GU:=by rintro N H x y d e R Q b c ⟨k,kvs,rfl,rfl,hR⟩ hq;obtain⟨a,es,rfl,f,hv⟩:=c.idc_of rfl;refine⟨k,a,es,b.int,rfl,f,?_⟩;rw[gF k hv.2];exact hq _ _ hR (.bl _)
def kW:b8 K uD pA:=by rintro N H x y d e R Q b c ⟨k,kvs,rfl,rfl,hR⟩ hq;obtain⟨a,es,rfl,f,hv⟩:=c.idc_of rfl;refine⟨k,a,es,b.int,rfl,f,?_⟩;rw[gF k hv.2];exact hq _ _ hR (.bl _)
end
section
variable {X:Cx}{K:cb}{e:bb}{te tj:DE}
def Hb(i:Nat)(tj te:DE):DS:=λDD env=>(∃S kvs,env[i]? = some (.tr S (dG kvs)))/\tj env λs1 b=>te b λs2 a=>∃(S:List ao) (kvs:List (Int×ah)) (k:Int) (d:ah),
 a[i]? = some (.tr S (dG kvs))/\aL a s1=some (.int k)/\aL a s2=some d/\kvs.length<sizeLine/\if (aI kvs k).isSome=true then DD.nx a else DD.nx (a.set i (.tr S (dG (cV kvs k d))))
def Gj(i:Nat){npos apos cpos pos:Pos}(hK:X.K=K)(hN:X.N[i]? = some y)(hj:PE X j (up K tj))(Y:PE X e (up K te))
  (hv:Vis X.env.scope y:=by first|exact lA rfl|exact di ci|exact di (di rfl)) (hd:(y==("__debug__" : bt))=false:=by decide)
  (E:(y==("__classdict__" : bt))=false:=by decide)
  (h2:j1 [e] X.env=[(false,eval e X.env)]:=by rfl)
  (l:qb (.Name y npos) "setdefault" X.env (eval (.Name y npos) X.env)=eval (.Name y npos) X.env:=by rfl)
  (n:((k6 cpos (j1 [j,e] X.env)).all (λx=>!x.1)&&(Qy cpos (Qi [] X.env)).all (λx=>x.1.isSome)
   && decide ([j,e].length+([]:List Qd).length+(if ([]:List Qd).isEmpty then 0 else 1)<30))=true:=by rfl)
  (m:(apos.endLine==cpos.line)=true:=by rfl) (T:j1 [j,e] X.env=(false,eval j X.env)::j1 [e] X.env:=by rfl) (f:(k6 cpos (j1 [e] X.env)).any (·.1)=false:=by rfl) :
  PS X (.Expr (.Call (.Attribute (.Name y npos) "setdefault" apos) [j,e] [] cpos) pos) (upS K (Hb i tj te)):=by
 subst hK;refine(oM (Ed oi ti tf sR (bG hN hv hd E) (cj hj (cj Y eK h2) T) l n m T f)).imp λD σ H h=>?_;obtain⟨M,P,H0,σ0,env,ts,DD,nv,o,⟨⟨S0,U,Z⟩,ht⟩,ok⟩:=h;obtain⟨a,G,w,_,I,_⟩:=o.idct Z;refine⟨.ref a,w,⟨a,G,rfl,I⟩,M,P,H0,σ0,env,ts,_,o,ht,λs1 p v1 H1 h1 q=>⟨M,P,H0,σ0,p,ts++[(v1,s1)],_,q,h1,λs2 c C H2 h2 r=>?_⟩⟩;obtain⟨S,kvs,k,d,e2,ek,ed,hl,hR⟩:=h2;have b:Rel X.K M P H0 σ0 σ c (ts++[(v1,s1),(C,s2)]) H2:=by simpa using r
 have J:=b.kept (v:=v1) (s:=s1) (!1) ek;have L:=b.kept (v:=C) (s:=s2) (!1) ed;obtain⟨a',es,t,O,hH,hv⟩:=b.drop.idct e2;rw[w] at t;cases t;have Q:v1=.int k:=by cases J;rfl
 subst Q;have V:es.length=kvs.length:=by have:=congrArg fI hv.2;simpa using this
 have g:=gF k hv.2;refine⟨a,es,k,C,rfl,rfl,hH,!0,λu hu=>?_,λhn=>?_⟩
 .rw[hu] at g;rw[Mz (show(aI kvs k).isSome=true from g.symm)] at hR;exact ok.nx _ _ _ hR b.drop
 .rw[hn] at g;rw[MA (show ¬(aI kvs k).isSome=true fromλz=>L9 (g.trans z))] at hR;have W:=mh (k:=k) hv L;have na:Nw M (aG σ c ts) a:=by
   obtain⟨x,A,B,e1,q1,q2⟩:=b.drop.split e2;refine .inr ?_;rw[q1,am,ar];rw[w] at e1;cases e1;rw[aS,O];simp
  have kN:aX (Nw M (aG σ c ts)) H2 (upd H2 a (.ext (aZ a (cV es k C)))):=aX.own na;refine ok.nx _ _ _ hR (b.drop.retreeT (R:=[]) e2 w (by rw[O];simp) (!1) ?_);rw[O];exact .idc aB (W.1.keep kN) W.2
end
section
variable {X:Cx}{K:cb}
def GH(hK:X.K=K):IxR X (λx y H Q=>C4 K x y H Q\/DF K x y H Q):=(ai hK).or (C6 hK)
def Cg:G2:=λd e R=>gIx d e R\/FC d e R
def Gz:b8 K (λx y H Q=>C4 K x y H Q\/DF K x y H Q) Cg:=by
 rintro N H x y d e R Q a b (h|h) hq
 .exact .inl (mIx _ _ _ _ _ _ _ _ a b h hq)
 .exact .inr (C5 _ _ _ _ _ _ _ _ a b h hq)
end
end _L
namespace _L
open PySem PySem.Spec PyProof.Rows PySem.W
def mM:Sl->Sl
 | .fr d=>.fr d
 | .ow ds=>.fr (.list ds)
 | .io ds=>.fr (.list ds)
 | .tr _ d=>.fr d
 | _=>.un
def v5(t:DE):DE:=λenv R=>t (env.map mM) λs a=>∃m:Int,aO a s=some (.int m)/\R (.fr (.int m)) env
def A6{X:Cx}{K:cb}{e:bb}{t:DE}(h:PE X e (up K t)):PE X e (up K (v5 t)):=h.imp λσ H Q h=>by
 obtain⟨M,P,H0,σ0,env,ts,R,c,u,hq⟩:=h;have n:∀(x:Option V) (s:Sl),(x,s)∈aG σ (env.map mM) []->∃s',s=mM s'/\(x,s')∈aG σ env ts:=λx s m=>by
  have m:(x,s)∈σ.zip (env.map mM):=by simpa[aG] using m
  rw[List.zip_map_right] at m;obtain⟨⟨A,s'⟩,l,e⟩:=Jk.mp m;cases e;exact⟨s',rfl,Jl _ l⟩
 have p:∀a,a ∉ oas (aG σ (env.map mM) []):=λa z=>by
  obtain⟨⟨x,s⟩,w,y⟩:=bh.mp z;obtain⟨s',rfl,_⟩:=n x s w;rcases mo y with⟨_,⟨ds,e⟩|⟨ds,e⟩⟩|⟨S,d,e,_⟩ <;> cases s' <;> cases e
 have g:∀b,¬Nw N0 (aG σ (env.map mM) []) b:=λb z=>z.elim (λz=>z.elim) λz=>p b z;refine⟨N0,N0,H,σ,_,[],_,⟨⟨aX.refl,λa z=>z,λa z=>z.elim,λa z=>z.elim,λx d m=>?_,λx ds m=>?_,λx ds m=>?_,λx S d m=>?_,?_⟩,by rw[Je];exact c.len,(λv j m=>by cases m),λj ds' m=>?_⟩,u,λs q v H1 h1 f=>?_⟩
 .obtain⟨s',e,l⟩:=n x _ m;cases s' with
  | fr d' =>
   cases e;obtain⟨v,e1,dn⟩:=c.e.fr x _ l;exact⟨v,e1,dn.to λb _ _ z=>absurd z (g b)⟩
  | ow ds =>
   cases e;obtain⟨a,vs,e1,o,k,r⟩:=c.e.ow x _ l;exact⟨_,e1,.lst (SnL.of o (g a)) (k.to λb _ _ z=>absurd z (g b))⟩
  | tr S d' =>
   cases e;obtain⟨v,e1,ot,r⟩:=c.e.tr x _ _ l;exact⟨v,e1,ot.dn (λb z=>absurd z (g b)) λa o=>g a⟩
  | un=>cases e
  | io ds =>
   cases e;obtain⟨a,vs,e1,o,k,r⟩:=c.e.io x _ l;exact⟨_,e1,.lst (SnL.of o (g a)) (k.to λb _ _ z=>absurd z (g b))⟩
  | vw i=>cases e
 .obtain⟨s',e,_⟩:=n _ _ m;cases s' <;> cases e
 .obtain⟨s',e,_⟩:=n _ _ m;cases s' <;> cases e
 .obtain⟨s',e,_⟩:=n _ _ m;cases s' <;> cases e
 .rw[List.eq_nil_iff_forall_not_mem.mpr p];exact Ki
 .have m2:=Km m;obtain⟨s,_,e1⟩:=Jk.mp m2;cases s <;> cases e1
 .obtain⟨m,e1,hR⟩:=h1;have ev:=(f.view (v:=v) (s:=s) (!1) e1).int;subst ev;exact hq _ _ _ _ hR ((c.same f.e.keep.none).addFr (.int m))
section
variable {X:Cx}{K:cb}
def CI(i:Nat):DE:=λenv R=>∃a d ds s',env[i]? = some a/\gQ a=some (d::ds)/\cN a ds=some s'/\R (.fr d) (env.set i s')
def DW(i:Nat){y:bt}{apos cpos npos p5:Pos}{j2:Nat}(hK:X.K=K)(hN:X.N[i]? = some y)
  (hv:Vis X.env.scope y:=by first|exact lA rfl|exact di ci|exact di (di rfl)) (hd:(y==("__debug__" : bt))=false:=by decide)
  (l:(y==("__classdict__" : bt))=false:=by decide)
  (f:j1 [.Constant (.int 0) j2 p5] X.env=[(false,eval (.Constant (.int 0) j2 p5) X.env)]:=by rfl)
  (c:qb (.Name y npos) "pop" X.env (eval (.Name y npos) X.env)=eval (.Name y npos) X.env:=by rfl)
  (g:((k6 cpos (j1 [.Constant (.int 0) j2 p5] X.env)).all (λx=>!x.1)&&(Qy cpos (Qi [] X.env)).all (λx=>x.1.isSome)&&decide ([Expr.Constant (.int 0) j2 p5].length+([]:List Qd).length+(if ([]:List Qd).isEmpty then 0 else 1)<30))=true:=by rfl)
  (e:(apos.endLine==cpos.line)=true:=by rfl) (b:(k6 cpos (j1 [] X.env)).any (·.1)=false:=by rfl) :
  PE X (.Call (.Attribute (.Name y npos) "pop" apos) [.Constant (.int 0) j2 p5] [] cpos) (up K (CI i)) :=
 (kBm (K:=K) hK ei nf m5 qY (bG hN hv hd l) (cj j9 eK f) c g e f b).imp λσ H Q h=>by
 obtain⟨M,P,H0,σ0,env,ts,R,j,⟨r,d,ds,s',m,p,es,hR⟩,hq⟩:=h;obtain⟨a,vs,n,o,q⟩:=j.mine m p;cases q with
 | @cons u us _ _ dn q2 =>
  refine⟨.ref a,n,.inl ⟨rfl,_,SqL.of o⟩,a,_,0,0,u,rfl,rfl,o,!2,!2,by simp[ZC],rfl,hq _ _ _ _ hR ?_⟩;have k:=j.addFr dn;exact k.mut (ds:=d::ds) (vs':=us) (ds':=ds) m es n (by
   have : Nw M (aG σ env (ts++[(u,Sl.fr d)]))=Nw M (aG σ env ts):=by
    rw[aC];unfold Nw;have:oas (aG σ env ts++tmp [(u,Sl.fr d)])=oas (aG σ env ts):=by
     rw[am];have:oas (tmp [(u,Sl.fr d)])=[]:=by
      show oas [(some u,Sl.fr d)]=[]
      rw[ar];cases u <;> rfl
     rw[this,JM]
    rw[this]
   rw[this];exact q2)
def DNs.rev(q:DNs K N H vs ds):DNs K N H vs.reverse ds.reverse :=
 DNs.rec (motive_1:=λ_ _ _=>True) (motive_2:=λvs ds _=>DNs K N H vs.reverse ds.reverse)
 trivial (λ_=>trivial) (λ_=>trivial)
 (λ_ _ _=>trivial) (λ_ _ _=>trivial)
 (λ_ _ _ _ _ _ _=>trivial) (λ_ _ _ _ _=>trivial) (λ_ _=>trivial) .nil (λdn _ _ a=>by
  rw[Kf,Kf];exact a.app (.cons dn .nil)) q
def Hd(i:Nat):DE:=λenv R=>∃a ds s',env[i]? = some a/\gQ a=some ds/\cN a ds.reverse=some s'/\R (.fr .none) (env.set i s')
def Gk(i:Nat){apos cpos npos:Pos}(hK:X.K=K)(hN:X.N[i]? = some y)
  (hv:Vis X.env.scope y:=by first|exact lA rfl|exact di ci|exact di (di rfl)) (hd:(y==("__debug__" : bt))=false:=by decide)
  (e:(y==("__classdict__" : bt))=false:=by decide)
  (b:qb (.Name y npos) "reverse" X.env (eval (.Name y npos) X.env)=eval (.Name y npos) X.env:=by rfl) (c:(apos.endLine==cpos.line)=true:=by rfl) :
  PE X (.Call (.Attribute (.Name y npos) "reverse" apos) [] [] cpos) (up K (Hd i)) :=
 (GL (K:=K) hK ei PySem.F.slot_list_reverse PySem.F.type_list_reverse sS (bG hN hv hd e) b c).imp λσ H Q h=>by
 obtain⟨M,P,H0,σ0,env,ts,R,d,⟨l,ds,s',f,k,es,hR⟩,hq⟩:=h;obtain⟨a,vs,g,j,q⟩:=d.mine f k;exact⟨.ref a,g,.inl ⟨rfl,vs,SqL.of j⟩,a,vs,rfl,rfl,j,hq _ _ _ _ hR ((d.mut (ds:=ds) f es g q.rev).addFr .non)⟩
def Dr(tk tv:TE):TE:=λσ H Q=>∀p,H p=none->tk σ (upd H p (.ext (aZ p []))) λx H1=>tv σ H1 λy H2=>∃k:Int,x=.int k/\H2 p=some (.ext (aZ p []))/\Q (.ref p) (upd H2 p (.ext (aZ p [(k,y)])))
def xO(hk:PE X e1 tk)(hv:PE X e2 tv):PE X (.Dict [some e1] [e2] pos) (Dr tk tv):=by
 intro pins s σ H Q I h;have j:=I.laid (a:=s.heap.objs.size) (o:=.ext (aZ s.heap.objs.size [])) (h':=s.heap.push { cls:=.type "dict",data:=.dict #[] }) (t':=s.toks) (λ_ _ q=>Jn _ q) (Jx _) (kh s.heap I.big');refine wpAny_Dict_any rfl rfl (!1) (!1) (pairTrees_cons_walk (thn (hk pins _ σ _ _ j (h _ (I.hok.fresh (Jx _)))) λu s1 d=>?_));obtain⟨x,H1,l,m,q1⟩:=d;refine thn (hv pins s1 σ H1 _ l q1) λw s2 f=>?_;obtain⟨y,H2,g,n,k,ex,i,q⟩:=f;refine pairTrees_nil_walk ?_;subst ex;obtain⟨t,rfl⟩:=m;generalize s.heap.objs.size=p at *;obtain⟨z,hd,xs,r,dd⟩:=fX g i;cases r;unfold storeAll;rw[KS];refine jj (jj (wpAny_dictSet_pairs (hsz:=JD _) (knd:=Qc X.prog X.w) (bQ k t) dd λh' c v=>j0 ?_));dsimp only;rw[KJ];refine j0 ⟨.ref p,_,?_,rfl,q⟩;obtain⟨o,A,ep,h1,h2⟩:=id c;refine g.write (x:=p) (e:=p) (by rw[i];exact True.intro) (.inl rfl) (λb q B z=>(v.2 b B).trans z) ⟨_,h1⟩ ?_;have new:aZ p [(k,y)] h':=⟨by rw[zg];simp,hd,_,.cons ⟨rfl,n⟩ .nil,λp w=>ia c⟩
 exact⟨new,⟨_,h1⟩,λC D hx E=>hx.keep λo e=>E _ e⟩
variable {pos:Pos}{e1 e2:bb}{tk tv:DE}
def v8(tk tv:DE):DE:=λenv R=>tk env λs1 b=>tv b λs2 a=>∃(k:Int) (d:ah),aL a s1=some (.int k)/\aL a s2=some d/\∀S,R (.tr S (dG [(k,d)])) a
def A9(hk:PE X e1 (up K tk))(hv:PE X e2 (up K tv)):PE X (.Dict [some e1] [e2] pos) (up K (v8 tk tv)):=by
 refine(xO hk hv).imp λσ H Q h=>?_;obtain⟨M,P,H0,σ0,env,ts,R,g,w,hq⟩:=h;intro p x;refine⟨M,P,H0,σ0,env,_,_,g.withRes (g.e.addO x λ_=>.idc (es:=[]) (kvs:=[]) aB .nil rfl) rfl,w,λs1 i v1 H1 h1 j=>⟨M,P,H0,σ0,i,_,_,j,h1,λs2 c o H2 h2 l=>?_⟩⟩;obtain⟨k,d,y,z,hR⟩:=h2;have b:Rel K M P H0 σ0 σ c ((ts++[(.ref p,.tr [p] (dG []))])++[(v1,s1),(o,s2)]) H2:=by simpa using l
 have m:=b.kept (v:=v1) (s:=s1) (!1) y;have n:=b.kept (v:=o) (s:=s2) (!1) z;have f:=b.drop;have hE:=f.e;rw[aC] at hE m n;obtain⟨v',ev,ot,E⟩:=hE.tr _ _ _ (Jg _ Jm);obtain⟨a,es,q,F,A,r⟩:=ot.idc_of (kvs:=[]) rfl;rw[q] at ev;cases ev;have t:es=[]:=by simpa using r.2
 subst t;have u:v1=.int k:=by cases m;rfl
 subst u;refine⟨k,rfl,A,hq _ _ _ _ (hR [p]) ?_⟩;have C:Nw M (aG σ c ts++tmp [(V.ref p,Sl.tr [p] (dG []))]) p:=.inr (by rw[am];exact Jg _ (bh.mpr ⟨_,Jf.mpr rfl,Jf.mpr rfl⟩));have D:aX (Nw M (aG σ c ts++tmp [(V.ref p,Sl.tr [p] (dG []))])) H2 (upd H2 p (.ext (aZ p [(k,o)]))):=aX.own C;refine f.drop.withRes ?_ rfl;refine bN.retreeR (B:=[]) (R:=[]) (S:=[p]) hE (!1) (!1) ?_;exact .idc (es:=[(k,o)]) (kvs:=[(k,d)]) aB ((DNs.cons n .nil).keep D) rfl
end
section
variable {prog:ky}{w:k3}{A:Around}{E:av->az->Prop}{s:az}{d a:ao}{xs:List (ay×ao×av)}{k:ay}{v:av}
def yQ(l:A.units+1<zs)(c:cL prog w s.heap k a)(n:jM prog w s.heap d xs)
  (h1:∀b u,QF xs k=some (b,u)->Q u { s with toks:=s.toks+(k.2.length+3) })
  (hQ:QF xs k=none->∀h',jM prog w h' d (ZJ xs k a v)->gw d s.heap h'->Q v { s with heap:=h',toks:=s.toks+(k.2.length+3) }) (hsz:xs.length<=sizeLine) :
  j4 (kw prog w) A (ZR d (.ref a) v) Q E s:=by
 obtain⟨o,es,ep,ho,hc,hd,i,g,hn,q⟩:=n;unfold ZR
 try with_reducible refine k5 ?_
 refine jj ((aV prog w).pyHash l c ?_);refine jj (wpAny_dictFind_heap (knd:=aV prog w) (s:={ s with toks:=s.toks+(aV prog w).draws k }) l c ho hd i g hn ?_ ?_)
 .intro f;have h:k ∉ xs.map (·.1):=not_mem_keys_of_get f;refine jj (Qr (jj (wpAny_updateDictKeys (hz:=by have e:=size_of_entries (knd:=aV prog w) i;omega) (s:={ s with toks:=s.toks+(aV prog w).draws k }) ho hd (j0 (hQ (Zy f) _ ⟨_,_,ep+1,JW _ ho (r4 (nn hd _)),
   hc.mapDictKeys _,nn hd _,?_,?_,?_,?_⟩ (dk ..))))))
  all_goals rw[storedH_new (Zy f)]
  .simp[i,jC,entryOfKey];rfl
  .intro x hx;rcases Jj.mp hx with hx|hx
   .exact(aV prog w).keeps (g x hx) ho hd (dk ..)
   .simp only[Jf] at hx;subst hx;exact(aV prog w).keeps c ho hd (dk ..)
  .rw[Jy,Ju];refine⟨hn,!1,λx hx y m=>?_⟩;simp only[Jr,Kv,Jf] at m;subst m
   exactλe=>h (e▸hx)
  .rw[q];simp
 .intro j p hj;refine jj (QH (s:={ s with toks:=s.toks+(aV prog w).draws k }) ho hd ?_);rw[entry_at (knd:=aV prog w) i j,hj];exact jj (Qr (j0 (h1 _ _ (atKey_of_get hn hj))))
def gU(hd:(d==Qb)=false)(dflt:av) :
  MeetsIn prog w (Builtin.«dict.setdefault» ⟨[.ref d,.ref a,dflt],[]⟩) (λA R s=>A.in1.units+1<zs/\∃k xs,cL prog w s.heap k a/\jM prog w s.heap d xs/\xs.length<=sizeLine /\
   (∀b u,QF xs k=some (b,u)->R (.ok (.ret u)) { s with toks:=s.toks+(k.2.length+3) }) /\
   (QF xs k=none->∀h',jM prog w h' d (ZJ xs k a dflt)->gw d s.heap h'->R (.ok (.ret dflt)) { s with heap:=h',toks:=s.toks+(k.2.length+3) })) :=
 .of_wp λA R s ⟨h,k,xs,c,g,hz,h1,h2⟩=>by
  unfold Builtin.«dict.setdefault»;refine jj ?_;unfold Builtin.Dict.keyAndDefault;refine jj (Zc g.of.typeIs ?_);show j4 _ _ (pure (d,cn a,some dflt)) _ _ s;refine j0 ?_;show j4 _ _ (if (d==Qb)=true then _ else (ZR d (.ref a) dflt >>= _)) _ _ s;rw[MA (by rw[hd];exact JC)];exact jj (yQ h c g (λb u hv=>j0 ⟨u,rfl,h1 b u hv⟩) (λhn h' e f=>j0 ⟨dflt,rfl,h2 hn h' e f⟩) hz)
end
section
variable {X:Cx}
def sf(k:ay)(a:Paired (λ(p:ay×ao×V) (q:ay×ao×av)=>p.1=q.1/\p.2.1=q.2.1/\bD p.2.2 q.2.2) es xs) :
  (aI es k=none/\QF xs k=none)\/∃(p:ao×V) (b:ao) (u:av),aI es k=some p/\QF xs k=some (b,u)/\bD p.2 u:=by
 induction a with
 | nil=>exact .inl ⟨rfl,rfl⟩
 | @cons p q es xs r t c =>
  by_cases hk:p.1=k
  .have hq:q.1=k:=by rw[<-r.1,hk]
   refine .inr ⟨p.2,q.2.1,q.2.2,by rw[aq,Mz hk],?_,r.2.2⟩;simp[QF,JY,hq]
  .have hq:¬q.1=k:=λz=>hk (by rw[r.1,z]);have d:QF (q::xs) k=QF xs k:=by simp[QF,JY,hq]
   rw[aq,MA hk,d];exact c
def Hv(K:cb)(H:Hp)(a:ao)(es:List (ay×ao×V)):Prop:=H a=some (.ext (bx a es))/\∃kvs:List (ay×ah),DVs K H (es.map λp=>V.ref p.2.1) (kvs.map λp=>bi p.1)/\es.map (λp=>p.1)=kvs.map (λp=>p.1)
def qJ(K:cb):V->List V->Hp->VK->Prop:=λx vs H Q=>∃(a b:ao) (es:List (ay×ao×V)) (k:ay) (v:V),x=.ref a/\vs=[.ref b,v]/\DV K H (.ref b) (bi k)/\Hv K H a es/\es.length<sizeLine /\
 (∀p,aI es k=some p->Q p.2 H)/\(aI es k=none->Q v (upd H a (.ext (bx a (nR es k b v)))))
def sQ(d:X.A.units+2<zs):MtR X "dict.setdefault" (qJ X.K):=by
 intro pins s σ H x vs v us Q I t rv h;obtain⟨a,b,es,k,w,rfl,rfl,B,⟨m,kvs,hk,e⟩,U,q1,q2⟩:=h;cases (show v=cn a from t);cases rv with
 | cons C rv =>
  cases rv with
  | cons n rv =>
   cases rv;obtain⟨V,D,E,st⟩:=eQ I B C;cases D;subst E;rename_i G;obtain⟨z,y,xs,r,dd⟩:=dct_of I m hk e;have hz:xs.length<=sizeLine:=by rw[<-Paired.length r];exact z
   refine Zx F.slot_dict_setdefault dd.of.typeIs F.entry_dict_setdefault (F.args_dict_setdefault_3 _ _ _) (gU y G) ⟨dR (prog:=X.prog) (w:=X.w) d,k,xs,st,dd,hz,λc u d=>?_,λhn h' f J=>?_⟩
   .rcases sf k r with⟨_,z2⟩|⟨p,c',L,z1,z2,z3⟩
    .rw[d] at z2;cases z2
    .rw[d] at z2;cases z2;exact⟨p.2,H,I.tok _,z3,q1 p z1⟩
   .have g:aI es k=none:=by
     rcases sf k r with⟨z1,_⟩|⟨p,c',L,z1,z2,z3⟩
     .exact z1
     .rw[hn] at z2;cases z2
    obtain⟨o,i,ep,h1,h2,h3,h4,_,h5⟩:=f;refine⟨w,_,I.write (x:=a) (e:=a) (by rw[m];exact True.intro) (.inl rfl) (λb q M z=>(J.2 b M).trans z) ⟨_,h1⟩ ?_,n,q2 g⟩;have new:bx a (nR es k b w) h':=⟨by have:=qO es k b w;omega,y,_,jq r k n,o,i,ep,h1,h2,h3,h4,h5⟩
    refine⟨new,⟨_,h1⟩,λN O hx P=>?_⟩;obtain⟨a1,a2,j,R,o',ds',l,S,T⟩:=hx;exact⟨a1,a2,j,R,o',ds',l,P _ S,T⟩
def DH(K:cb):V->List V->Hp->VK->Prop:=λx vs H Q=>∃(a b:ao) (es:List (ay×ao×V)) (k:ay) (v:V),x=.ref a/\vs=[.ref b,v]/\DV K H (.ref b) (bi k)/\Hv K H a es /\
 (∀p,aI es k=some p->Q p.2 H)/\(aI es k=none->Q v H)
def x8(c:X.A.units+2<zs):MtR X "dict.get" (DH X.K):=by
 intro pins s σ H x vs v us Q I d rv h;obtain⟨a,b,es,k,w,rfl,rfl,f,⟨g,kvs,hk,e⟩,q1,q2⟩:=h;cases (show v=cn a from d);cases rv with
 | cons i rv =>
  cases rv with
  | cons j rv =>
   cases rv;obtain⟨o,l,m,st⟩:=eQ I f i;cases l;subst m;rename_i n;obtain⟨z,y,xs,r,dd⟩:=dct_of I g hk e;refine Zx F.slot_dict_get dd.of.typeIs F.entry_dict_get (F.args_dict_get_3 _ _ _) (meetsH_dict_get_default (aV X.prog X.w) a b y n) ⟨dR (prog:=X.prog) (w:=X.w) c,k,xs,st,dd.of,?_⟩;rcases sf k r with⟨z1,z2⟩|⟨p,c',q,z1,z2,z3⟩
   .rw[z2];exact⟨w,H,I.tok _,j,q2 z1⟩
   .rw[z2];exact⟨p.2,H,I.tok _,z3,q1 p z1⟩
def HB(r:V->List V->Hp->VK->Prop)(to:TE)(t:TA):TE:=λσ H Q=>to σ H λx H1=>(∃a es,x=.ref a/\H1 a=some (.ext (bx a es)))/\t σ H1 λxs H2=>r x xs H2 Q
variable {o e:bb}{es:List bb}{to:TE}{t:TA}{name:bt}{apos cpos:Pos}{id:String}{r:V->List V->Hp->VK->Prop}
def zR(l:Q8 "dict")(slot:Slot "dict" name id)(i:Z0 (.builtin id)=pure (.type "method_descriptor"))(m:MtR X id r)(ho:PE X o to)(n:PA X (e::es) t)
  (d:qb o name X.env (eval o X.env)=eval o X.env:=by rfl)
  (g:((k6 cpos (j1 (e::es) X.env)).all (λx=>!x.1)&&(Qy cpos (Qi [] X.env)).all (λx=>x.1.isSome)
   && decide ((e::es).length+([]:List Qd).length+(if ([]:List Qd).isEmpty then 0 else 1)<30))=true:=by rfl)
  (f:(apos.endLine==cpos.line)=true:=by rfl) (p:j1 (e::es) X.env=(false,eval e X.env)::j1 es X.env:=by rfl) (c:(k6 cpos (j1 es X.env)).any (·.1)=false:=by rfl) :
  PE X (.Call (.Attribute o name apos) (e::es) [] cpos) (HB r to t):=by intro pins s σ H Q I h;refine Q6 d g f rfl (thn (ho pins s σ H _ I h) λv s1 j=>?_);obtain⟨x,H1,k,q,ty,q1⟩:=j;obtain⟨a,u,rfl,w⟩:=ty;cases (show v=cn a from q);obtain⟨_,_,o,ds,h1,h2,_⟩:=fZ k w;refine⟨"dict",id,l,slot,i,⟨o,h1,h2.1⟩,λb e=>by cases e;exact⟨o,h1,h2.2.1⟩,?_⟩;have hA:=n cpos pins s1 σ H1 _ k q1;rw[p] at hA ⊢;refine Calls.callWith_builtin (by show(false || (k6 cpos (j1 es X.env)).any (·.1))=false;rw[c] <;> rfl) (Calls.evalArgs_plain ?_);exact thn hA λus s2 ⟨vs,H2,y,z,q2⟩=>m pins s2 σ H2 (.ref a) vs _ us Q y rfl z q2
def DC(K:cb):V->V->Hp->VK->Prop:=λx y H Q=>∃(a b:ao) (es:List (ay×ao×V)) (k:ay) (p:ao×V),x=.ref a/\y=.ref b/\DV K H (.ref b) (bi k)/\Hv K H a es/\aI es k=some p/\Q p.2 H
def GO(d:X.A.units+2<zs):HW X (DC X.K):=by
 intro pins s σ H x y v u Q I f g h;obtain⟨a,b,es,k,p,rfl,rfl,i,⟨j,kvs,hk,e⟩,c,q⟩:=h;cases (show v=cn a from f);obtain⟨n,l,m,st⟩:=eQ I i g;cases l;subst m;obtain⟨z,y,xs,r,dd⟩:=dct_of I j hk e;rcases sf k r with⟨z1,_⟩|⟨p',c',o,z1,z2,z3⟩
 .rw[c] at z1;cases z1
 .rw[c] at z1;cases z1;exact wpAny_getItem_heap (knd:=aV X.prog X.w) (dR d) st dd.of z2 ⟨p.2,H,I.tok _,z3,q⟩
end
abbrev Wd:=List (ay×List (ah×ay))
def w9(q:ah×ay):ah:=.tuple [q.1,bi q.2]
def wdK(W:Wd):List (ay×ah):=W.map λp=>(p.1,.list (p.2.map w9))
abbrev Ldl:=List (ay×List ay)
def lI:Ldl->ay->ay->Ldl
 | [],y,x=>[(y,[x])]
 | p::ld,y,x=>if p.1=y then (p.1,p.2++[x])::ld else p::lI ld y x
def pj(ld:Ldl):List (ay×ah):=ld.map λp=>(p.1,.list (p.2.map λk=>bi k))
def tF(ld:Ldl)(x:ay)(qs:List (ah×ay)):Ldl:=qs.foldl (λld q=>lI ld q.2 x) ld
def c8(W:Wd):Ldl:=W.foldl (λld p=>tF ld p.1 p.2) []
def LdB(ld:Ldl)(c:Nat):Prop:=ld.length<=c/\∀p∈ld,p.2.length<=c
def zi(ld:Ldl)(y x:ay):(lI ld y x).length<=ld.length+1:=by
 induction ld with
 | nil=>simp[lI]
 | cons q ld a =>
  unfold lI;split
  .simp
  .simp;exact a
theorem LdB.add:∀{ld:Ldl}{c:Nat} (y x:ay),LdB ld c->LdB (lI ld y x) (c+1)
 | [],c,y,x,h=>⟨by simp[lI],λp a=>by simp[lI] at a;rw[a];simp⟩
 | p :: ld,c,y,x,h=>by
  obtain⟨h1,h2⟩:=h;unfold lI;split
  .refine⟨by simp at h1 ⊢;omega,λq hq=>?_⟩;rcases Jo.mp hq with rfl|hq
   .have:=h2 p (!1);simp;exact this
   .have:=h2 q (by simp[hq]);omega
  .have key:=zi ld y x;have i:=LdB.add (ld:=ld) (c:=c) y x ⟨by simp at h1;omega,λq hq=>h2 q (by simp[hq])⟩;refine⟨by simp at h1 ⊢;omega,λq hq=>?_⟩;rcases Jo.mp hq with rfl|hq
   .have:=h2 q (!1);omega
   .exact i.2 q hq
section
variable {K:cb}{N:ao->Prop}{H0 H H':Hp}{a p:ao}{o:HO}
inductive LdE (K:cb) (N:ao->Prop) (H0 H:Hp) (a:ao):List (ay×ao×V)->Ldl->List ao->Prop
 | nil:LdE K N H0 H a [] [] []
 | cons {k:ay}{kb b:ao}{vs:List V}{xs:List ay}{es:List (ay×ao×V)}{ld:Ldl}{bs:List ao}:DN K N H0 (.ref kb) (bi k)->H b=some (.lst vs)->DNs K N H0 vs (xs.map λk=>bi k)->H0 b=none->b≠a->b ∉ bs->LdE K N H0 H a es ld bs->LdE K N H0 H a ((k,kb,.ref b)::es) ((k,xs)::ld) (b::bs)
variable {es:List (ay×ao×V)}{ld:Ldl}{bs:List ao}
def LdE.keep(h:LdE K N H0 H a es ld bs)(k:∀b∈bs,H' b=H b):LdE K N H0 H' a es ld bs:=by
 induction h with
 | nil=>exact .nil
 | cons h1 h2 h3 h4 h5 h6 _ c=>exact .cons h1 ((k _ (!1)).trans h2) h3 h4 h5 h6 (c λb d=>k b (by simp[d]))
def LdE.lives(h:LdE K N H0 H a es ld bs):∀b∈bs,b≠a/\H0 b=none/\∃vs,H b=some (.lst vs):=by
 induction h with
 | nil=>intro b c;cases c
 | cons h1 h2 h3 h4 h5 h6 _ d =>
  intro b c;rcases Jo.mp c with rfl|c
  .exact⟨h5,h4,_,h2⟩
  .exact d b c
def LdE.keys(h:LdE K N H0 H a es ld bs):es.map (λp=>p.1)=(pj ld).map (λp=>p.1)/\DNs K N H0 (es.map λp=>V.ref p.2.1) ((pj ld).map λp=>bi p.1):=by
 induction h with
 | nil=>exact⟨rfl,.nil⟩
 | cons h1 h2 h3 h4 h5 h6 _ b=>exact⟨congrArg (List.cons _) b.1,.cons h1 b.2⟩
def LdE.vals(h:LdE K N H0 H a es ld bs)(c:be H0 H)(d:∀b,M b->N b)(hM:∀b,M b->H0 b≠none):DNs K M H (es.map λp=>p.2.2) ((pj ld).map λp=>p.2):=by
 induction h with
 | nil=>exact .nil
 | cons h1 h2 h3 h4 h5 h6 _ e=>exact .cons (.lst (SnL.of h2 λz=>hM _ z h4) ((h3.keep (aX.same c)).to λb _ _ z=>d b z)) e
def LdE.found(h:LdE K N H0 H a es ld bs)(hq:aI es y=some q)(l:H p=none)(dx:DN K N H0 d (bi x)):∃b vs e,q.2=.ref b/\H b=some (.lst vs)/\b∈bs/\e∈ld/\vs.length=e.2.length/\LdE K N H0 (upd (upd H p (.lst [])) b (.lst (vs++[d]))) a es (lI ld y x) bs:=by
 have f:∀{b vs},H b=some (.lst vs)->b≠p:=λe z=>by rw[z,l] at e;cases e
 induction h with
 | nil=>cases hq
 | @cons k kb b vs xs es ld bs h1 h2 h3 h4 h5 h6 g m =>
  rw[aq] at hq;by_cases z:k=y
  .rw[Mz z] at hq;cases hq;refine⟨b,vs,(k,xs),rfl,h2,!1,!1,by rw[h3.len];simp,?_⟩;unfold lI;rw[Mz z];refine .cons h1 aB ?_ h4 h5 h6 (g.keep λc hc=>?_)
   .rw[Jy];exact h3.app (.cons dx .nil)
   .obtain⟨_,_,ws,e⟩:=g.lives c hc;rw[au (λz:c=b=>h6 (z▸hc)),au (f e)]
  .rw[MA z] at hq;obtain⟨i,vs',e,q1,q2,j,n,o,r⟩:=m hq;refine⟨i,vs',e,q1,q2,by simp[j],by simp[n],o,?_⟩;unfold lI;rw[MA z];refine .cons h1 ?_ h3 h4 h5 h6 r;rw[au (λz:b=i=>h6 (z▸j)),au (f h2)];exact h2
def LdE.new(h:LdE K N H0 H a es ld bs)(hn:aI es y=none)(g:DN K N H0 (.ref d) (bi y))(i:H p=none)(j:H0 p=none)(l:p≠a)(dx:DN K N H0 f (bi x)):LdE K N H0 (upd (upd (upd H p (.lst [])) a o) p (.lst ([]++[f]))) a (es++[(y,d,.ref p)]) (lI ld y x) (bs++[p]):=by
 have c:∀{b vs},H b=some (.lst vs)->b≠p:=λe z=>by rw[z,i] at e;cases e
 induction h with
 | nil=>exact .cons g aB (.cons dx .nil) j l (!1) .nil
 | @cons k kb b vs xs es ld bs h1 h2 h3 h4 h5 h6 n m =>
  rw[aq] at hn;by_cases z:k=y
  .rw[Mz z] at hn;cases hn
  .rw[MA z] at hn;unfold lI;rw[MA z];refine .cons h1 ?_ h3 h4 h5 ?_ (m hn)
   .rw[au (c h2),au h5,au (c h2)];exact h2
   .exactλz=>(Jj.mp z).elim h6 λz=>c h2 (Jf.mp z)
end
def zd{es:List (ay×ao×V)}(h:aI es k=none):(es.any λp=>decide (p.1=k))=false:=by rw[iY,h];rfl
abbrev AK(K:cb):TS:=FX (Du Dt (pC 1)) (FX (F1 (HP (wR 0)) (pC 2) (F1 (Cb K (tOp (Fu K) (wR 0) (wR 2))) (pC 3) (Dq (tBM K "list" uE (HB (qJ K) (wR 1) (xi (tOp (C4 K) (wR 3) (tC (.int 1))) (xi (HA Ft) Ft))) (xi (wR 2) Ft))))) (Hz (wR 1)))
theorem gZ{κ β:Type} [DecidableEq κ]:∀{kvs:List (κ×β)}{k:κ}{v:β},(kvs.map λp=>p.1).Nodup->(k,v)∈kvs->aI kvs k=some v
 | [],_,_,_,h=>by cases h
 | q :: kvs,k,v,nd,h=>by
  rw[Jr] at nd;obtain⟨a,b⟩:=JO.mp nd;rw[aq];rcases Jo.mp h with e|e
  .rw[<-e,Mz rfl]
  .rw[MA λz=>a (by rw[z];exact Jk.mpr ⟨_,e,rfl⟩)];exact gZ b e
def LdB.mono{ld:Ldl}{c c':Nat}(h:LdB ld c)(hc:c<=c'):LdB ld c':=⟨Jt h.1 hc,λp a=>Jt (h.2 p a) hc⟩
def wH(ld:Ldl)(x:ay)(qs:List (ah×ay))(hi:i<qs.length):tF ld x (qs.take (i+1))=lI (tF ld x (qs.take i)) qs[i].2 x:=by unfold tF;rw[J6,Ji hi,LX];rfl
def sW(W:Wd)(hi:i<W.length):c8 (W.take (i+1))=tF (c8 (W.take i)) W[i].1 W[i].2:=by unfold c8;rw[J6,Ji hi,LX];rfl
def LdN(K:cb)(M:ao->Prop)(H:Hp)(a:ao)(ld:Ldl)(c:Nat)(H2:Hp):Prop:=∃es bs,H2 a=some (.ext (bx a es))/\LdE K (λb=>M b\/H b=none) H H2 a es ld bs/\be H H2/\LdB ld c
def yk{K:cb}{W:Wd}{M:ao->Prop}{w:ao}{H:Hp}{Q:VK}(hM:∀b,M b->H b≠none)(dw:DN K M H (.ref w) (bz (wdK W)))(nd:(W.map λp=>p.1).Nodup)(hl:W.length<=100)(hr:∀p∈W,p.2.length<=100)
  (hq:∀a H',be H H'->H a=none->DN K M H' (.ref a) (bz (pj (c8 W)))->Q (.ref a) H'):AK K { nx:=λ_ H'=>Q .non H',rt:=Q } [some (.ref w),none,none,none] H:=by
 obtain⟨w',r,e,t,B,C,R⟩:=dw.dct_of rfl;cases e;have S:∀b o,H b=some o->(M b\/H b=none)->M b:=λb o e z=>z.elim id λz=>by rw[z] at e;cases e
 have B:=B.to S;have C:=C.to S;have f:∀{H':Hp},be H H'->aX (λb=>M b\/H b=none) H H':=λg b o _ e=>g b o e;have b2:r.length=W.length:=by have:=congrArg fI R;simpa[wdK] using this
 intro a ha;have T:be H (upd H a (.ext (bx a []))):=be.new ha;refine⟨.ref w,rfl,w,r,rfl,T _ _ t,λj m σ H2=>m=W.length - j/\j<=W.length/\(∃x y,σ=[some (.ref w),some (.ref a),x,y])/\LdN K M H a (c8 (W.take j)) (100*j) H2,⟨_,rfl,JD _,⟨none,none,rfl⟩,[],[],aB,.nil,T,⟨by simp[c8],by simp[c8]⟩⟩,?_⟩;rintro j m σ H2 ⟨rfl,hj,⟨x,y,rfl⟩,es,bs,hA,le,g,D⟩;by_cases E:j<W.length
 .refine .inr ⟨⟨!0,r,g _ _ t,rfl⟩,λσ' H'=>(∃x y,σ'=[some (.ref w),some (.ref a),x,y])/\LdN K M H a (c8 (W.take (j+1))) (100*(j+1)) H',λσ' H' z=>⟨W.length - (j+1),!0,rfl,E,z⟩,λv H' yl=>?_⟩;obtain⟨eh,ev⟩:=yl;subst eh;have ev:=ev r (g _ _ t);obtain⟨dv,U,F⟩:=B.get ev;have V:dv=bi W[j].1:=by
   rw[JE,wdK,JE,Ji E] at U;cases U;rfl
  subst V;have X:W[j]∈W:=JF E;have Y:aI (wdK W) W[j].1=some (.list (W[j].2.map w9)):=gZ (by rw[wdK,JI];exact nd) (Jk.mpr ⟨_,X,rfl⟩);have b3:=hr _ X;rw[sW W E];generalize b4:c8 (W.take j)=ld at *;generalize hx:W[j].1=k at *;generalize b5:W[j].2=qs at *;obtain⟨O,_,rfl,_,_⟩:=F.tuple;refine⟨.ref w,rfl,.ref O,rfl,k,w,r,wdK W,rfl,(F.keep (f g)).dv,g _ _ t,(B.keep (f g)).dv,(C.keep (f g)).dv,R,by rw[Y];rfl,λi v' d hd h1 h2=>?_⟩;rw[Y] at hd;cases hd;obtain⟨d',e1,a6⟩:=C.get h1;rw[h2] at e1;cases e1;obtain⟨l,us,rfl,sl,Z⟩:=a6.list;have b6:us.length=qs.length:=by rw[Z.len,Je]
  have G:∀{I:Hp},be H I->SqL K I l us:=λs3=>(sl.keep (f s3)).sq;refine⟨l,rfl,⟨us,G g⟩,λi m σ I=>m=qs.length - i/\i<=qs.length/\(∃y,σ=[some (.ref w),some (.ref a),some (.ref O),y])/\LdN K M H a (tF ld k (qs.take i)) (100*j+i) I,⟨_,rfl,JD _,⟨y,rfl⟩,es,bs,hA,le,g,D⟩,?_⟩;clear hA le g D;rintro i m σ I ⟨rfl,hi,⟨y,rfl⟩,es,bs,hA,le,g,D⟩;by_cases A:i<qs.length
  .refine .inr ⟨⟨us,us[i],G g,Ji (!0)⟩,λσ' H'=>(∃y,σ'=[some (.ref w),some (.ref a),some (.ref O),y])/\LdN K M H a (tF ld k (qs.take (i+1))) (100*j+(i+1)) H',λσ' H' z=>⟨qs.length - (i+1),!0,rfl,A,z⟩,λu H' yl=>?_⟩;obtain⟨eh,eu⟩:=yl;rw[eh];clear eh;have eu:=eu us (G g);obtain⟨du,a0,a7⟩:=Z.get eu;rw[JE,Ji A] at a0;cases a0;rw[wH ld k qs A];generalize b1:qs[i].2=z at *;obtain⟨tb,ys,rfl,st,s⟩:=DN.tuple (show DN K _ H u (.tuple [qs[i].1,bi qs[i].2]) from a7);rw[b1] at s;generalize tF ld k (qs.take i)=ld2 at *;cases s with
   | @cons y0 ys _ _ d0 s =>
    cases s with
    | @cons y1 ys _ _ d1 s =>
     cases s;obtain⟨yb,_,rfl,_,_⟩:=d1.tuple;refine⟨.ref a,rfl,⟨a,es,rfl,hA⟩,.ref tb,rfl,.inr ⟨tb,_,1,.ref yb,rfl,rfl,(st.keep (f g)).sq,wB _ _ _,JD _,λp N=>?_⟩⟩;have J:be H (upd I p (.lst [])):=λb o e=>be.new N _ _ (g b o e);have a3:H p=none:=by
      cases e:H p with
      | none=>rfl
      | some o=>rw[g _ _ e] at N;cases N
     have pa:p≠a:=λz=>by rw[z,hA] at N;cases N
     have a4:upd I p (.lst []) a=some (.ext (bx a es)):=by rw[au (Ne.symm pa)];exact hA
     obtain⟨k1,k2⟩:=le.keys;have c3:es.length=ld2.length:=by have:=congrArg fI k1;simpa[pj] using this
     have c4:=D.1;have P:∀n:Nat,n<=100*j+i->n<sizeLine:=λn h=>Jp (show n<1000000 by omega) af;refine⟨a,yb,es,z,.ref p,rfl,rfl,(d1.keep (f J)).dv,⟨a4,pj ld2,(k2.keep (f J)).dv,k1⟩,P _ (!0),λq hq=>?_,λhn=>?_⟩
     .obtain⟨b,vs,e,q1,q2,q3,q4,q5,q6⟩:=le.found hq N F;obtain⟨ba,b0,_⟩:=le.lives b q3;have hb:upd I p (.lst []) b=some (.lst vs):=by rw[au λz=>by rw[z,N] at q2;cases q2];exact q2
      rw[q1];refine⟨.inl ⟨rfl,vs,SqL.of hb⟩,.ref O,rfl,b,vs,.ref O,rfl,rfl,hb,P _ (by rw[q5];exact D.2 e q4),⟨_,rfl⟩,es,bs,by rw[au (Ne.symm ba)];exact a4,q6,λc o L=>?_,D.add z k⟩;rw[au λz=>by rw[z,b0] at L;cases L];exact J c o L
     .have a5:upd (upd I p (.lst [])) a (.ext (bx a (nR es z yb (.ref p)))) p=some (.lst []):=by rw[au pa];exact aB
      refine⟨.inl ⟨rfl,[],SqL.of a5⟩,.ref O,rfl,p,[],.ref O,rfl,rfl,a5,P _ (JD _),⟨_,rfl⟩,es++[(z,yb,.ref p)],bs++[p],?_,le.new hn d1 N a3 pa F,λc o L=>?_,D.add z k⟩
      .rw[au (Ne.symm pa),aB];unfold nR;rw[zd hn,MA (!2)]
      .rw[au (λz:c=p=>by rw[z,a3] at L;cases L),au (λz:c=a=>by rw[z,ha] at L;cases L)];exact J c o L
  .have:i=qs.length:=!0
   subst this;rw[Ke] at le D;exact .inl ⟨⟨us,G g,!0⟩,⟨_,_,rfl⟩,es,bs,hA,le,g,D.mono (!0)⟩
 .have:j=W.length:=!0
  subst this;rw[Ke] at le;refine .inl ⟨⟨!0,r,g _ _ t,rfl⟩,.ref a,rfl,hq a H2 g ha ?_⟩;obtain⟨k1,k2⟩:=le.keys;exact .dct (λz=>hM a z ha) hA ((k2.keep (f g)).to λb _ _ z=>.inl z) (le.vals g (λb z=>.inl z) hM) k1
def uc:DSp:=λss R=>∃W:Wd,ss=[.fr (bz (wdK W))]/\(W.map λp=>p.1).Nodup/\W.length<=100/\(∀p∈W,p.2.length<=100)/\R (.fr (bz (pj (c8 W)))) [.un]
def yj{K:cb}{vs:List V}{H:Hp}{Q:VK}{E:XK}(h:spD K uc vs H Q E):AK K { nx:=λ_ H'=>Q .non H',rt:=Q } (vs.map some++[none,none,none]) H:=by
 obtain⟨M,ss,R,k,f,⟨W,rfl,nd,h1,h2,hR⟩,hq⟩:=h;obtain⟨v,rfl⟩:∃v,vs=[v]:=by
  match vs,k with
  | [v],_=>exact⟨v,rfl⟩
 obtain⟨v',ev,dn⟩:=f.fr (some v) (bz (wdK W)) (by simp[tmp]);cases ev;have g:∀(s:Sl) (E:List Ent),cK (some v,s)=[]->oas E=[]->oas ((some v,s)::E)=[]:=λs E e1 e2=>by rw[ar,e1,e2];rfl
 have dn:DN K M H v (bz (wdK W)):=dn.to λb _ _ z=>.inl z;obtain⟨w,_,rfl,_⟩:=dn.dct_of rfl;have io:∀c,¬tz [V.ref w] [Sl.fr (bz (wdK W))] c:=λc z=>by
  have e:oas (tmp ([V.ref w].zip [Sl.fr (bz (wdK W))]))=[]:=by simp[oas,tmp,cK]
  unfold tz at z;rw[e] at z;cases z
 refine yk f.mt dn nd h1 h2 λa H' j l i=>hq _ _ _ _ hR rfl ?_;have mem:∀x s,(x,s)∈tmp ((V.ref a,Sl.fr (bz (pj (c8 W))))::[V.ref w].zip [Sl.un])->(x=some (.ref a)/\s=.fr (bz (pj (c8 W))))\/s=.un:=λx s m=>by
  simp[tmp] at m;rcases m with m|m
  .exact .inl m
  .exact .inr m.2
 have g:oas (tmp ((V.ref a,Sl.fr (bz (pj (c8 W))))::[V.ref w].zip [Sl.un]))=[]:=by simp[oas,tmp,cK]
 refine⟨λb o _ e=>j b o e,λb z e=>?_,f.mt,f.pm,λx d m=>?_,λx d m=>?_,λx d m=>?_,λx S d m=>?_,by rw[g];exact Ki⟩
 .cases e2:H b with
  | none=>exact z e2
  | some o=>rw[j _ _ e2] at e;cases e
 .rcases mem _ _ m with⟨e1,e2⟩|e2
  .cases e2;exact⟨_,e1,i.to λb _ _ z=>z.elim id λz=>by rw[g] at z;cases z⟩
  .cases e2
 .rcases mem _ _ m with⟨e1,e2⟩|e2 <;> cases e2
 .rcases mem _ _ m with⟨e1,e2⟩|e2 <;> cases e2
 .rcases mem _ _ m with⟨e1,e2⟩|e2 <;> cases e2
theorem iV{K:cb}{N:ao->Prop}{H:Hp}:∀{es:List (ay×ao×V)}{kvs:List (ay×ah)} (k:ay),es.map (λp=>p.1)=kvs.map (λp=>p.1)->DNs K N H (es.map λp=>p.2.2) (kvs.map λp=>p.2) ->
  (aI es k=none/\aI kvs k=none)\/∃p d,aI es k=some p/\aI kvs k=some d/\DN K N H p.2 d
 | [],[],k,_,_=>.inl ⟨rfl,rfl⟩
 | [],_::_,k,e,_=>by simp at e
 | _::_,[],k,e,_=>by simp at e
 | p :: es,q::kvs,k,e,h=>by
  rw[Jr,Jr] at e h;injection e with e1 e2;cases h with
  | cons h1 h2 =>
   rw[aq,aq,e1];by_cases z:q.1=k
   .rw[Mz z,Mz z];exact .inr ⟨_,_,rfl,rfl,h1⟩
   .rw[MA z,MA z];exact iV k e2 h2
section
variable {X:Cx}{K:cb}{o e1 e2 e:bb}{to t1 t2 te tj:DE}{apos cpos pos:Pos}
def CN(to t1 t2:DE):DE:=λenv R=>to env λc env0=>(∃kvs,aO env0 c=some (bz kvs))/\t1 env0 λs1 b=>t2 b λs2 a=>∃(kvs:List (ay×ah)) (k:ay) (d:ah),aL a c=some (bz kvs)/\aL a s1=some (bi k)/\aL a s2=some d/\R (.fr ((aI kvs k).getD d)) a
def DY(hK:X.K=K)(W:X.A.units+2<zs)(ho:PE X o (up K to))(h1:PE X e1 (up K t1))(h2:PE X e2 (up K t2))
  (y:j1 [e2] X.env=[(false,eval e2 X.env)]:=by rfl)
  (i:qb o "get" X.env (eval o X.env)=eval o X.env:=by rfl)
  (m:((k6 cpos (j1 [e1,e2] X.env)).all (λx=>!x.1)&&(Qy cpos (Qi [] X.env)).all (λx=>x.1.isSome)
   && decide ([e1,e2].length+([]:List Qd).length+(if ([]:List Qd).isEmpty then 0 else 1)<30))=true:=by rfl)
  (j:(apos.endLine==cpos.line)=true:=by rfl) (T:j1 [e1,e2] X.env=(false,eval e1 X.env)::j1 [e2] X.env:=by rfl) (f:(k6 cpos (j1 [e2] X.env)).any (·.1)=false:=by rfl) :
  PE X (.Call (.Attribute o "get" apos) [e1,e2] [] cpos) (up K (CN to t1 t2)):=by
 subst hK;refine(zR oi PySem.F.slot_dict_get PySem.F.type_dict_get (x8 W) ho (cj h1 (cj h2 eK y) T) i m j T f).imp λσ H Q h=>?_;obtain⟨M,P,H0,σ0,env,ts,R,z,Y,hq⟩:=h;refine⟨M,P,H0,σ0,env,ts,_,z,Y,λn env0 v0 Z B g=>?_⟩;obtain⟨⟨U,C⟩,B⟩:=B;obtain⟨l,D,rfl,E,_⟩:=(g.view (v:=v0) (s:=n) (!1) C).dct_of rfl;refine⟨⟨l,D,rfl,E⟩,M,P,H0,σ0,env0,ts++[(.ref l,n)],_,g,B,λs1 q v1 H1 h1 r=>⟨M,P,H0,σ0,q,(ts++[(.ref l,n)])++[(v1,s1)],_,r,h1,λs2 t G H2 h2 u=>?_⟩⟩;obtain⟨kvs,k,d,I,J,L,hR⟩:=h2;have c:Rel X.K M P H0 σ0 σ t (ts++[(.ref l,n),(v1,s1),(G,s2)]) H2:=by simpa using u
 have N:=c.kept (v:=.ref l) (s:=n) (!1) I;have w:=c.kept (v:=v1) (s:=s1) (!1) J;have O:=c.kept (v:=G) (s:=s2) (!1) L;obtain⟨a,es,e,ha,hk,hv,S⟩:=N.dct_of rfl;cases e;obtain⟨b,_,rfl,_,_⟩:=w.tuple;refine⟨l,b,es,k,G,rfl,rfl,w.dv,⟨ha,kvs,hk.dv,S⟩,λp V=>?_,λhn=>?_⟩
 .rcases iV k S hv with⟨z1,_⟩|⟨p',d',z1,z2,z3⟩
  .rw[V] at z1;cases z1
  .rw[V] at z1;cases z1;rw[z2] at hR;exact hq _ _ _ _ hR (c.drop.addFr z3)
 .rcases iV k S hv with⟨_,z2⟩|⟨p',d',z1,z2,z3⟩
  .rw[z2] at hR;exact hq _ _ _ _ hR (c.drop.addFr O)
  .rw[hn] at z1;cases z1
def CT(i:Nat)(f:Int->Int->Int)(tj te:DE):DS:=λDD env=>(∃S kvs,env[i]? = some (.tr S (bz kvs)))/\tj env λs1 b=>∃(S:List ao) (kvs:List (ay×ah)) (k:ay) (n:Int),b[i]? = some (.tr S (bz kvs))/\aL b s1=some (bi k)/\aI kvs k=some (.int n)/\te b λs2 a =>
 ∃(S:List ao) (m:Int),a[i]? = some (.tr S (bz kvs))/\aL a s1=some (bi k)/\aL a s2=some (.int m)/\kvs.length<sizeLine/\DD.nx (a.set i (.tr S (bz (cV kvs k (.int (f n m))))))
def D0(i:Nat){y:bt}{npos o:Pos}{j:bb}{op:Zz}{f:Int->Int->Int}(hK:X.K=K)(Z:X.A.units+2<zs)(hN:X.N[i]? = some y)(hp:PIp X op (ipI f))(hj:PE X j (up K tj))(he:PE X e (up K te))
  (hv:Vis X.env.scope y:=by first|exact lA rfl|exact di ci|exact di (di rfl)) (hd:(y==("__debug__" : bt))=false:=by decide)
  (G:(y==("__classdict__" : bt))=false:=by decide)
  (ha:∀ov iv new,augStore j ov iv new=(do Qk [new,ov,iv] (Q7 ov iv new);ZK [new,ov,iv] [];pure .next):=by intros;rfl):PS X (.AugAssign (.Subscript (.Name y npos) j o) op e pos) (upS K (CT i f tj te)):=by
 subst hK;refine(Bh (bG hN hv hd G) hj (GO Z) he hp (Dy Z) ha).imp λD σ H h=>?_;obtain⟨M,P,H0,σ0,env,ts,DD,nv,q,⟨⟨S0,a0,e0⟩,ht⟩,ok⟩:=h;obtain⟨a,_,r,_⟩:=q.dct e0;refine⟨.ref a,r,M,P,H0,σ0,env,ts,_,q,ht,λs1 t v1 H1 h1 g=>?_⟩;obtain⟨S1,kvs,k,n,e1,I,hg,h1⟩:=h1;obtain⟨a1,J,u,_,L,O,Q,w⟩:=g.dct e1;rw[r] at u;cases u;have z:=g.kept (v:=v1) (s:=s1) (!1) I;obtain⟨b,_,rfl,_,_⟩:=z.tuple;rcases iV k w Q with⟨_,z2⟩|⟨p,d',z1,z2,z3⟩
 .rw[hg] at z2;cases z2
 rw[hg] at z2;cases z2;have pv:p.2=.int n:=z3.dv.intI;refine⟨a,b,J,k,p,rfl,rfl,z.dv,⟨L,kvs,O.dv,w⟩,z1,M,P,H0,σ0,t,ts++[(.ref b,s1)],_,g,h1,λs2 l T H2 h2 C=>?_⟩;obtain⟨S,m,e2,ek,ed,hl,hR⟩:=h2;have c:Rel X.K M P H0 σ0 σ l (ts++[(.ref b,s1),(T,s2)]) H2:=by simpa using C
 have E:=c.kept (v:=.ref b) (s:=s1) (!1) ek;have U:=c.kept (v:=T) (s:=s2) (!1) ed;have V:T=.int m:=by cases U;rfl
 subst V;obtain⟨a',es,F,W,hH,hk,hv,Y⟩:=c.drop.dct e2;rw[r] at F;cases F;have a3:es.length=kvs.length:=by have:=congrArg fI Y;simpa using this
 refine⟨n,m,pv,rfl,k,a,b,es,kvs,rfl,rfl,E.dv,hH,hk.dv,Y,!0,ok.nx _ _ _ hR ?_⟩;obtain⟨p1,p2,p3⟩:=uN (b:=b) (k:=k) (v:=.int (f n m)) (d:=.int (f n m)) Y hk hv E (.int _);have na:Nw M (aG σ l ts) a:=by obtain⟨x,A,B,e1,q1,q2⟩:=c.drop.split e2;refine .inr ?_;rw[q1,am,ar];rw[r] at e1;cases e1;rw[aS,W];simp
 have kN:aX (Nw M (aG σ l ts)) H2 (upd H2 a (.ext (bx a (nR es k b (.int (f n m)))))):=aX.own na;refine c.drop.retreeT (R:=[]) e2 r (by rw[W];simp) (!1) ?_;rw[W];exact .dct aB (p2.keep kN) (p3.keep kN) p1
end
section
def sr(k:A.handled=none)(I d:ao)(g:d≠I)(es:Array QW)(ep:Nat) :
  Walks prog w A I [I,d] [I] es.size (λi v=>∃h:i<es.size,v=es[i].key) (λi h=>h.IsKeyIter I d i es.size ep/\∃od,h.get? d=some od/\od.data=.dict es ep) where
 sub:=λb a=>by simp at a;simp[a]
 frame:=λ_ _ _ st hk=>⟨st.1.at λo e=>hk I (!1) o e,let ⟨od,h1,h2⟩:=st.2;⟨od,hk d (!1) od h1,h2⟩⟩
 item:=λi s Q E hi st hQ=>by
  obtain⟨st,od,h1,h2⟩:=st;refine qX st h1 h2 hi λh' c f=>?_;exact hQ _ h' s.toks ⟨hi,rfl⟩ ⟨c,od,(f.2 d g).trans h1,h2⟩ λb o a e=>(f.2 b (λh=>a (by simp[h]))).trans e
 done:=λs Q E st hQ=>by
  obtain⟨st,od,h1,h2⟩:=st;exact rN k st h1 h2 (Jx _) λh' j=>hQ h' s.toks λb o a e=>j b o (λh=>a (by simp[h])) e
 self:=λ_ _ _ _ st hQ=>wpAny_pyIter_keyiter st.1 hQ
def yA(g:(d==Qb)=false)(ho:s.heap.get? d=some o)(hc:o.ExactDict)(e:o.data=.dict es ep)(f:es.size<=2 ^ 24)
  (h : Q false s):j4 (kw prog w) A (nm (.ref d)) Q E s:=by
 unfold nm;refine jj (Qj ⟨_,ho,hc.1⟩ F.slot_dict_len.lookup ?_);generalize c:("dict.__len__" : String)=id0
 wp_delta
 rw[show splitId id0=some ("dict", "__len__") from by subst c;decide +kernel];subst c;refine jj (Qz (T := "dict") (b:=true) ⟨_,ho,hc.1⟩ (by rw[isSubtype_type];kernel_rfl) ?_);refine ZH (λa=>absurd a (!2)) (λ_=>?_);refine ZH (λ_=>?_) (λa=>absurd (!3) a);refine jj (ZZ (T := "dict") ⟨_,ho,hc.1⟩ ?_);exact j0 h
def pD(J:A.handled=none)(x:(d==Qb)=false)(ho:s.heap.get? d=some o)(hc:o.ExactDict)(c:o.data=.dict es ep)(y:es.size<=2 ^ 24)(S:ao)(res:av)(q:Nat)(u:s.heap.get? S=some { cls:=.type "list",data:=.seq #[] q })
  (hR:∀h' tk j c',(∀b o,b≠S->s.heap.get? b=some o->h'.get? b=some o)->h'.get? S=some { cls:=.type "list",dict:=none,data:=.seq j c',slots:=#[] } ->
   ItemsOf (λi v=>∃h:i<es.size,v=es[i].key) j es.size->R (.ok (.ret res)) { s with heap:=h',toks:=tk }) :
  j4 (kw prog w) A.in1 (eS (.ref S) (.ref d) res)
   (λfin s'=>match fin with|.done f=>R (.ok f) s'|.again c'=>c'.quiet=true/\Qv (kw prog w) A c' R s') (λe s'=>R (.error e) s') s:=by
 have p:S≠d:=λe=>by
  rw[e,ho] at u;injection u with u;rw[u] at c;cases c
 have z:S<s.heap.objs.size:=Jv u;have r:S≠s.heap.objs.size:=JH z;have E:d≠s.heap.objs.size:=JH (Jv ho);have G:S ∉ [s.heap.objs.size,d]:=λB=>by
  simp at B;rcases B with e|e
  .exact r e
  .exact p e
 have W:=(sr (prog:=prog) (w:=w) (A:=A.in1) J s.heap.objs.size d E es ep).toS;have key:∀(h:bg) (l tk:Nat),h.IsKeyIter s.heap.objs.size d 0 es.size ep->h.get? d=some o->(∀b o,b≠S->s.heap.get? b=some o->h.get? b=some o) ->
   h.get? S=some { cls:=.type "list",data:=.seq #[] l }->Qv (kw prog w) A (.builtin "list.extend.loop" ⟨[.ref S,.ref s.heap.objs.size,res],[]⟩) R { s with heap:=h,toks:=tk }:=by
  intro h l tk H hd hk a;refine codeAny_extend_loopS W (by rw[zg];omega) S G res es.size 0 _ #[] l rfl (JD _) ⟨H,o,hd,c⟩ a (ItemsOf.nil _) λs' j c' B I C=>?_;rw[Moved.eq_with B];refine hR s'.heap s'.toks j c' (λb o D e=>B.heap b o (λm=>?_) (hk b o D e)) I C;rcases Jo.mp m with K|m
  .exact D K
  .exact absurd (Jv e) (by rw[Jf.mp m];exact Kn _)
 unfold eS;refine jj (ZZ (T := "dict") ⟨_,ho,hc.1⟩ ?_);have h1:i3 (.ref S) (.ref d)=false:=by simp[i3,p]
 have h2:(i4 "dict" == i4 "list")=false:=!2
 have h3:(i4 "dict" == i4 "tuple")=false:=!2
 simp only[h1,h2,h3,Ms,JL,if_false];refine jj (mV x ho hc c ?_);have a:=Jn { cls:=.type "dict_keyiterator",data:=.fields #[.ref d,.int 0 0,.int es.size 0,.int ep 0] } u;have g:=Jn { cls:=.type "dict_keyiterator",data:=.fields #[.ref d,.int 0 0,.int es.size 0,.int ep 0] } ho;have k:(s.heap.push { cls:=.type "dict_keyiterator",data:=.fields #[.ref d,.int 0 0,.int es.size 0,.int ep 0] }).IsKeyIter s.heap.objs.size d 0 es.size ep:=⟨_,JA _ rfl,rfl,rfl⟩
 refine jj (k5 (yA x g hc c y ?_));refine ZH (λ_=>?_) (λ_=>j0 ⟨QB F.plain_extend_loop _,key _ q _ k g (λb o _ e=>Jn _ e) a⟩);refine jj (Qr ?_);refine jj ?_;show j4 _ _ (Zj S (·.push .none) >>= λ_=>Zj S (·.pop)) _ _ _;refine jj (QC a rfl ?_);have n:=JW (ef (·.push dt)) a rfl;refine QC (hz:=by seq_fits) n rfl ?_;have t:=JW (ef (·.pop)) n rfl;refine j0 ⟨QB F.plain_extend_loop _,key _ _ _ (k.at λo e=>?_) ?_ (λb o D e=>?_) t⟩
 .exact(JU _ _ r).trans ((JU _ _ r).trans e)
 .exact(JU _ _ p).trans ((JU _ _ p).trans g)
 .exact(JU _ _ (Ne.symm D)).trans ((JU _ _ (Ne.symm D)).trans (Jn _ e))
def nz(n:A.handled=none)(m:(d==Qb)=false)(ho:s.heap.get? d=some o)(hc:o.ExactDict)(c:o.data=.dict es ep)(f:es.size<=2 ^ 24)
  (hQ:∀h' tk g,(∀b o,s.heap.get? b=some o->h'.get? b=some o)->s.heap.objs.size<=h'.objs.size->ItemsOf (λi v=>∃h:i<es.size,v=es[i].key) g es.size->Q g.toList { s with heap:=h',toks:=tk }) :
  j4 (kw prog w) A (collect (.ref d)) Q E s:=by
 have key:∀R:Z6->az->Prop,(∀h' tk a c',(∀b o,b≠s.heap.objs.size->(s.heap.push { cls:=.type "list",data:=.seq ([]:List av).toArray }).get? b=some o->h'.get? b=some o)->h'.get? s.heap.objs.size=some { cls:=.type "list",dict:=none,data:=.seq a c',slots:=#[] }->ItemsOf (λi v=>∃h:i<es.size,v=es[i].key) a es.size->R (.ok (.ret (.ref s.heap.objs.size))) { s with heap:=h',toks:=tk }) ->
   Qv (kw prog w) A (.builtin "list.__iadd__" ⟨[.ref s.heap.objs.size,.ref d],[]⟩) R { s with heap:=s.heap.push { cls:=.type "list",data:=.seq ([]:List av).toArray } }:=λR hR=>by
  refine QD F.entry_list_iadd ?_;rw[Around.under_plainId F.plain_list_iadd _];show j4 _ A.in1 (eS (.ref s.heap.objs.size) (.ref d) (.ref s.heap.objs.size)) _ _ _;exact pD (R:=R) (A:=A) (s:={ s with heap:=s.heap.push { cls:=.type "list",data:=.seq ([]:List av).toArray } }) n m (Jn _ ho) hc c f s.heap.objs.size _ 0 (JA _ rfl) hR
 unfold collect;refine jj (wpAny_runValue (QD F.entry_proto_collect ?_));rw[Around.under_plainId F.plain_proto_collect _];show j4 _ A.in1 (newList [] >>= λl=>again (.builtin "list.__iadd__" ⟨[l,.ref d],[]⟩)) _ _ s;refine jj (Ql ?_);refine j0 ⟨QB F.plain_list_iadd _,key _ λh' tk a c' hk j k=>?_⟩;show j4 _ A (load s.heap.objs.size >>= _) _ _ _;refine jj (wpAny_load j ?_);exact j0 (hQ h' tk a (λb o e=>hk b o (JH (Jv e)) (Jn _ e)) (KM (Jv j)) k)
def sx(l b:ao)(items a:Array av)(n u:Nat)(dd f:Option ao)(sl k:Array (Option av))(m:∀j (h:j<items.size),∃x t,items[j]=eC x t)(o:∀j (h:j<a.size),∃x t,a[j]=eC x t) :
  Meets (Builtin.«tuple.__lt__» ⟨[.ref l,.ref b],[]⟩)
   (λA R s=>s.heap.get? l=some { cls:=.type "tuple",dict:=dd,data:=.seq items n,slots:=sl }/\s.heap.get? b=some { cls:=.type "tuple",dict:=f,data:=.seq a u,slots:=k } /\
    ∀c:Bool,R (.ok (.ret (.bool c))) s) :=
 .of_wp λprog w A R s h=>by
  obtain⟨v,g,d,tk,os⟩:=s;obtain⟨z,B,h⟩:=h;have D:=AutoSeq1.sub_tuple_tuple;have C:(items.toList.zip a.toList).length=min items.size a.size:=!1
  wp_walk using wpAny_loadPart' z,wpAny_loadPart' B,QM _ (λrest b s'=>b.1=none/\s'=⟨v,g,d,tk,os⟩/\∃i,rest=(items.toList.zip a.toList).drop i) _
  case turn =>
   rintro⟨y,x⟩ rest b s' ⟨hb',rfl,i,hz⟩;have e:i<(items.toList.zip a.toList).length:=by
    rcases Nat.lt_or_ge i (items.toList.zip a.toList).length with h'|h'
    .exact h'
    .rw[Kp h'] at hz;cases hz
   have p:i<min items.size a.size:=C▸e;have h1:i<items.size:=Jp p (KC _ _);have h2:i<a.size:=Jp p (Nat.min_le_right _ _);rw[K9 e] at hz;injection hz with hyx hrest;have q:y=items[i]:=by have:=congrArg Prod.fst hyx;simpa using this
   have hx:x=a[i]:=by have:=congrArg Prod.snd hyx;simpa using this
   obtain⟨x1,t1,e1⟩:=m i h1;obtain⟨r,t2,e2⟩:=o i h2;rw[e1] at q;rw[e2] at hx;subst q hx;refine jj (QN ?_);cases hq:x1==r with
   | true =>
    wp_walk
    exact⟨rfl,rfl,i+1,hrest⟩
   | false =>
    rw[Mz (show(!false)=true from rfl)];refine jj (Qr ?_);refine jj (show j4 (kw prog w) A.in1 (k0 .Lt (.int x1 t1) (.int r t2)) _ _ _ from wpAny_lt_int ?_);refine jj (j0 ?_);exact j0 (j0 ⟨_,rfl,h _⟩)
  case fin =>
   rintro⟨E,F⟩ s' ⟨hb',rfl,i,hz⟩;simp only at hb';subst hb'
   wp_walk
   exact⟨_,rfl,h _⟩
  case h =>
   exact⟨rfl,rfl,0,rfl⟩
def vp{items a:Array av}{d ob:Obj}(m:s.heap.get? l=some d)(cl:d.cls=.type "tuple")(dl:d.data=.seq items n)(o:s.heap.get? b=some ob)(p:ob.cls=.type "tuple")(q:ob.data=.seq a k)(e:∀j (h:j<items.size),∃x t,items[j]=eC x t)(f:∀j (h:j<a.size),∃x t,a[j]=eC x t)
  (u:A.units<zs) (h:∀c:Bool,Q (.bool c) s):j4 (kw prog w) A (k0 .Lt (.ref l) (.ref b)) Q E s:=by
 obtain⟨cls,dd,data,sl⟩:=d;obtain⟨r,g,data2,i⟩:=ob;simp only at cl dl p q;subst cl dl p q;exact Z3 (op:=.Lt) ⟨_,m,rfl⟩ ⟨_,o,rfl⟩ F.slot_tuple_lt F.entry_tuple_lt (F.args_tuple_lt_2 _ _) (sx l b items a n k dd g sl i e f)
  ⟨m,o,λc=>show hI c≠Ly/\Q (.bool c) s from⟨(λx=>nomatch x),h c⟩⟩ u
def Fp(h:bg)(v:av):Prop:=∃(a:ao) (o:Obj) (n:Nat) (x:Int) (t:Tok) (l:ao) (b:Obj) (m:Nat) (its:Array av) (c:List Int) (as:List ao),v=.ref a/\h.get? a=some o/\o.cls=.type "tuple" /\ o.data=.seq #[.int x t,.ref l] n/\h.get? l=some b/\b.cls=.type "tuple" /\ b.data=.seq its m/\(∀j (h:j<its.size),∃x t,its[j]=eC x t)/\Reads h (.ref l) (.tuple (c.map eb)) as
theorem z8:∀{us:List av},(∀u∈us,Fp h u)->∃fs,KatTups h us fs/\fs.length=us.length/\∀f∈fs,∃x t,f=eC x t
 | [],_=>⟨[],.nil,rfl,λf b=>by simp at b⟩
 | u::us,k=>by
  obtain⟨fs,h1,h2,h3⟩:=z8 (us:=us) λv hv=>k v (by simp[hv]);obtain⟨a,o,n,x,t,l,_,_,its,g,as,rfl,e,c,d,_⟩:=k u (!1);refine⟨.int x t::fs,.cons e c d (by rfl) h1,by simp[h2],λf b=>?_⟩;rcases Jo.mp b with rfl|b
  .exact⟨x,t,rfl⟩
  .exact h3 f b
def B3(H:A.units+64<zs)(i:Fp s.heap u)(j:Fp s.heap v)(h:∀b,C b s):j4 (kw prog w) A (Z5 (tuples' true) u v) C E s:=by
 obtain⟨a,o,n,x,t,l,I,m,its,f,as,rfl,e,c,d,k,i1,i2,p,q⟩:=i;obtain⟨J,o',K,L,t',M,r,N,its',g,y,rfl,z,c',d',B,D,j2,F,G⟩:=j;refine kat_lt e d z d' ?_;refine kat_cons (QN ?_);refine kat_go (λ_=>kat_yes ?_) λ_=>kat_no (oneLt_int (h _));refine kat_cons (Lz _ _ _ _ _ _ _ _ _ _ _ _ q G ?_ ?_ ?_ ?_)
 .simp[dV,bW]
 .simp[dV,bW]
 .have:∀f:List Int,(hZ (f.map eb)).depth<=64:=λf=>p7 (F8 f);have:=this f;have:=KC (hZ (f.map eb)).depth (hZ (g.map eb)).depth;omega
 .refine kat_go (λ_=>kat_yes (kat_nil (h _))) λ_=>kat_no (kat_one _ _ ?_);exact vp k i1 i2 B D j2 p F (!0) λb=>h b
def B0(a:A.units+64<zs)(h2:2<=us.length)(k:∀u∈us,Fp s.heap u):nM prog w A us s:=by
 obtain⟨fs,h1,h3,h4⟩:=z8 k;refine kat_kind (T:=.type "int") h1 (!0) (λv hv=>?_) (by rfl) ⟨rfl,λi j C hi hj hc=>?_⟩
 .obtain⟨x,t,rfl⟩:=h4 v hv;exact .now
 .have e1:us.getD i dt=us[i]:=by simp[hi]
  have e2:us.getD j dt=us[j]:=by simp[hj]
  show j4 (kw prog w) A (Z5 _ (us.getD i dt) (us.getD j dt)) C (λ_ _=>False) s;rw[e1,e2];exact B3 a (k _ (JF hi)) (k _ (JF hj)) hc
end
section
variable {X:Cx}{pins:List (ao×Obj)}{σ:St}{H:Hp}{s:az}
def B1(I:Inv X pins σ H s)(hd:DV X.K H v (bi k))(r:bD v u):Fp s.heap u:=by obtain⟨n,i⟩:=k;obtain⟨a,xs,rfl,h,q⟩:=DV.tupI (hd:DV X.K H v (.tuple _));obtain⟨x,y,rfl,q1,q2⟩:=q.twoI;obtain⟨its,rv,⟨o,e,c,m,hd⟩,_⟩:=I.tuple h;obtain⟨D,p,rfl,f,g⟩:=tM rv;rw[q1.intI] at f;obtain⟨t,rfl⟩:=f;obtain⟨as,w⟩:=q2.reads I g (by simpa only[dV] using bW _);obtain⟨l,ys,rfl,h2,q2⟩:=q2.tupI;have e2:p=cn l:=g;have e3:u=cn a:=r;subst e2 e3;obtain⟨b,z,⟨A,B,cl,C,d⟩,_⟩:=I.tuple h2;exact⟨a,o,m,n,t,l,A,C,b.toArray,i,as,rfl,e,c,hd,B,cl,d,λj hj=>iT q2 z j (by simpa using hj),w⟩
theorem lO:∀es:List (ay×ao×V),aW (es.map λp=>V.ref p.2.1) (es.map λp=>cn p.2.1)
 | []=>.nil
 | _::es=>.cons rfl (lO es)
end
section
def CB(t:DA):DE:=λenv R=>t env λss a=>∃s kvs,ss=[s]/\aO a s=some (bz kvs)/\kvs.length<64/\∀ks:List ay,ks.Perm (kvs.map (·.1))->R (.ow (ks.map λk=>bi k)) a
end
def vL{p:Nat->Prop}{j:Nat}(h:p j):∃i,i<=j/\p i/\∀m,m<i->¬p m:=by
 induction j using Nat.strongRecOn with
 | _ j b =>
  by_cases z:∃m,m<j/\p m
  .obtain⟨m,a,pm⟩:=z;obtain⟨i,h1,h2,h3⟩:=b m a pm;exact⟨i,!0,h2,h3⟩
  .exact⟨j,Jx _,h,λm a pm=>z ⟨m,a,pm⟩⟩
section
variable {X:Cx}{K:cb}
def AX(K:cb):V->List V->Hp->VK->Prop:=λx vs H Q=>∃(p:ao) (xs:List V) (ks:List ay) (y:V) (k:ay),x=.ref p/\vs=[y]/\SqL K H p xs/\DVs K H xs (ks.map λk=>bi k)/\DV K H y (bi k)/\k∈ks/\ks.length<=1000000/\∀j:Nat,ks[j]? = some k->Q (.int j) H
theorem Ad:∀{xs:List V}{ks:List ay},DVs K H xs (ks.map λk=>bi k)->∀{i:Nat}{k:ay},ks[i]? = some k->∃x,xs[i]? = some x/\DV K H x (bi k)
 | _,[],_,i,k,e=>by simp at e
 | _,k'::ks,.cons d q,0,k,e=>by
  cases e;exact⟨_,rfl,d⟩
 | _,k'::ks,.cons d q,i+1,k,e=>by
  obtain⟨x,e1,d1⟩:=Ad q (i:=i) (by simpa using e);exact⟨x,by simpa using e1,d1⟩
def vm(V:X.A.units+80<zs):MtR X "list.index" (AX X.K):=by
 intro pins s σ H x vs v us Q I L rv h;obtain⟨p,xs,ks,y,k,rfl,rfl,M,d,B,hk,hz,q⟩:=h;cases (show v=cn p from L);obtain⟨u,rfl,C⟩:=rv.one;obtain⟨its,r,pl,_⟩:=I.list M;have W:=r.length;have N:xs.length=ks.length:=by rw[Cu d,Je]
 obtain⟨D,rfl,rfl,stk⟩:=eQ I B C;have item:∀(m:Nat) (a:m<its.length),∃b,its[m]=cn b/\cL X.prog X.w s.heap (ks[m]'(!0)) b/\r2 X.A.in1 s its[m] (.ref D) (decide (ks[m]'(!0)=k)):=λm a=>by
  obtain⟨x,e1,d1⟩:=Ad d (i:=m) (Ji (!0));obtain⟨u,e2,E⟩:=r.get e1;rw[Ji a] at e2;cases e2;obtain⟨b,rfl,e3,st⟩:=eQ I d1 E;obtain⟨as,O⟩:=d1.reads I E (by simp[dV,ew,bW]);obtain⟨bs,P⟩:=B.reads I C (by simp[dV,ew,bW]);have G:=SeqAt.eqAt_reads _ _ X.A.in1 s _ _ _ _ O P (by simp[dV,ew,bW]) (by simp[dV,ew,bW]) (by
   have:=KC (bi (ks[m]'(!0))).depth (bi k).depth;have h2:(bi (ks[m]'(!0))).depth<=2:=by simp[lu,ir,lj]
   show X.A.in1.units+_<zs;simp[Around.in1] at *;omega)
  refine⟨b,e3,st,?_⟩;have e4:eA (bi (ks[m]'(!0))) (bi k)=decide (ks[m]'(!0)=k):=vO _ _;rw[e4] at G;exact G
 obtain⟨R,f,S⟩:=J8 hk;obtain⟨j,hj,J,ne⟩:=vL (p:=λm=>ks[m]? = some k) (j:=R) (by rw[Ji f,S]);have e:j<its.length:=!0
 have ev:∃ev:av->Bool,∀(m:Nat) (a:m<its.length),ev its[m]=decide (ks[m]'(!0)=k):=by
  refine⟨λy=>@decide (∃b,y=.ref b/\cL X.prog X.w s.heap k b) (Classical.propDecidable _),λm a=>?_⟩;obtain⟨b,e1,st,_⟩:=item m a;by_cases z:ks[m]'(!0)=k
  .rw[decide_eq_true z];exact @decide_eq_true _ (Classical.propDecidable _) ⟨b,e1,z▸st⟩
  .rw[decide_eq_false z];refine @decide_eq_false _ (Classical.propDecidable _) λg=>?_;obtain⟨Y,e2,l⟩:=g;refine z ?_;rw[e1] at e2;cases e2;exact cL.inj st l
 obtain⟨ev,c⟩:=ev;obtain⟨⟨cls,dd,data,sl⟩,n,ho,hc,T,hd⟩:=pl;simp only at hc hd;subst hc hd;have o:ks[j]'(!0)=k:=by have:=J;rw[Ji (!0)] at this;cases this;rfl
 refine QP F.slot_list_index ⟨_,ho,rfl⟩ F.entry_list_index (F.args_list_index_2 _ _) (LL p its.toArray n dd sl (.ref D) ev j (by simpa using e) (!0) ?_ λm a t=>?_) ⟨ho,λy U=>?_,⟨.int j,H,I.tok _,⟨_,rfl⟩,q j J⟩⟩
 .show ev its[j]=true;rw[c j e,decide_eq_true o]
 .show ev (its[m]'(by simpa using a))=false;rw[c m (by simpa using a)];refine decide_eq_false λz=>ne m t ?_;rw[Ji (by simp at a;omega),z]
 .obtain⟨m,a,rfl⟩:=LF U;show r2 _ _ (its[m]'(by simpa using a)) _ (ev (its[m]'(by simpa using a)));rw[c m (by simpa using a)];exact(item m (by simpa using a)).choose_spec.2.2
def pJ(to ta:DE):DE:=λenv R=>to env λs b=>∃ks:List ay,aO b s=some (.list (ks.map λk=>bi k))/\ta b λs2 a=>∃k:ay,aO a s2=some (bi k)/\aO a s=some (.list (ks.map λk=>bi k))/\k∈ks/\ks.length<=1000000/\∀j:Nat,ks[j]? = some k->R (.fr (.int j)) a
def qN{apos cpos:Pos}(hK:X.K=K)(w:X.A.units+80<zs)(ho:PE X o (up K to))(y:PE X e (up K ta))
  (l:j1 [e] X.env=[(false,eval e X.env)]:=by rfl)
  (f:qb o "index" X.env (eval o X.env)=eval o X.env:=by rfl)
  (m:((k6 cpos (j1 [e] X.env)).all (λx=>!x.1)&&(Qy cpos (Qi [] X.env)).all (λx=>x.1.isSome)&&decide ([e].length+([]:List Qd).length+(if ([]:List Qd).isEmpty then 0 else 1)<30))=true:=by rfl)
  (g:(apos.endLine==cpos.line)=true:=by rfl) (c:(k6 cpos (j1 [] X.env)).any (·.1)=false:=by rfl) :
  PE X (.Call (.Attribute o "index" apos) [e] [] cpos) (up K (pJ to ta)):=by
 subst hK;refine(kBm (K:=X.K) rfl ei H7 Hs (vm w) ho (cj y eK l) f m g l c).imp λσ H Q h=>?_;obtain⟨M,P,H0,σ0,env,ts,R,r,z,hq⟩:=h;refine⟨M,P,H0,σ0,env,ts,_,r,z,λs1 n v1 H1 h1 d=>?_⟩;obtain⟨ks,e1,h1⟩:=h1;obtain⟨a,vs,ev,sq,q⟩:=(d.view (v:=v1) (!1) e1).list;subst ev;refine⟨.inl ⟨rfl,_,sq⟩,M,P,H0,σ0,n,ts++[(.ref a,s1)],_,d,h1,λs2 p s H2 h2 b=>?_⟩;obtain⟨k,e3,e4,hi,hz,hR⟩:=h2;have t:=(b.view (v:=s) (!1) e3).dv;obtain⟨B,vs',ev,u,q'⟩:=(b.view (v:=.ref a) (!1) e4).list;cases ev;refine⟨a,vs',ks,s,k,rfl,rfl,u,q'.dv,t,hi,hz,λj hj=>hq _ _ _ _ (hR j hj) ?_⟩;have i:Rel X.K M P H0 σ0 σ p (ts++[(.ref a,s1),(s,s2)]) H2:=by simpa using b
 exact i.drop.addFr (.int _)
end
section
def lX{prog:ky}{w:k3}{A:Around}{E:av->az->Prop}{s:az}{ks vs:List av}{k:Unit×SortSt->Sem PySem.Fin}{P:PySem.Fin->az->Prop}(o:ks.length=vs.length)(d:vs.length<64)(hok:2<=vs.length->nM prog w A ks s)
  (h : ∀(ws:List av) st,ws.Perm vs->(arrOf st).map (·.2)=ws.toArray->failedOf st=none->j4 (kw prog w) A (k ((),st)) P E s) :
  let F:=λκ=>((if vs.toArray.size<2 then pure () else sortRuns').run (SortSt.mk' κ (ks.toArray.zip vs.toArray) #[] 7 none)) >>= k
  j4 (kw prog w) A (if vs.toArray.size<2 then pure general' >>= F else keyKind' ks.toArray >>= F) P E s:=by
 dsimp only;by_cases h2:2<=vs.length
 .have hn2:¬vs.toArray.size<2:=by rw[Jw];omega
  rw[MA hn2,MA hn2];refine jj (z5 (hok h2) (λκ f g=>?_) λ_ _ x=>x.elim);obtain⟨rfl,c⟩:=g;refine jj (z5 (kat_run (G:=λp s2=>Pn vs.length p/\s2=f) (Q:=λa s2=>∃p:Array Nat,Pn vs.length p/\arrOf a=p.map (kas_item (ks.toArray.zip vs.toArray))/\failedOf a=none/\s2=f)
   o h2 d (λp' a s2 a1 a2 r q=>⟨p',q.1,a2,r,q.2⟩) (vz (λs2=>s2=f) (λi j C s2 hi hj e hc=>by subst e;exact c i j C (!0) (!0) λb=>hc b _ rfl) (λp s2 t e=>⟨t,e⟩) (xt (n:=vs.length) (!0)) rfl)) ?_ λ_ _ e=>e)
  rintro⟨⟨⟩,a⟩ s2 ⟨p,l,m,u,rfl⟩;exact h _ a (uV l) (kat_snds o m) u
 .have hn2:vs.toArray.size<2:=by rw[Jw];omega
  rw[Mz hn2,Mz hn2];refine jj (j0 (jj (j0 (h vs _ (List.Perm.refl _) ?_ rfl))));show(ks.toArray.zip vs.toArray).map (·.2)=_;apply Array.toList_inj.mp;simp;exact vl (!0)
def FS(prog:ky)(w:k3)(A:Around)(s:az)(l:ao)(vs:List av):Prop:=∀{E:av->az->Prop}{Q:List av->az->Prop},(∀h' tk,(∀b o,s.heap.get? b=some o->h'.get? b=some o)->s.heap.objs.size<=h'.objs.size->Q vs { s with heap:=h',toks:=tk })->j4 (kw prog w) A (collect (.ref l)) Q E s
def nA(a:s.heap.IsList l vs.toArray)(c:vs.length<64):FS prog w A s l vs:=λh =>
 collect_list a (h _ s.toks (λb o e=>by rw[Heap.get?_update_ne _ _ _ _ (JH (Jv e))];exact Jn _ e) (by rw[K5,size_push'];omega)) (by rw[zg];omega)
def t8(ho:s.heap.get? a=some (Qh "list" vs.toArray n))(i:vs.length<64)
  (hk:2<=vs.length->∀h',(∀b o,b≠a->s.heap.get? b=some o->h'.get? b=some o)->nM prog w A vs { s with heap:=h' })
  (h : ∀(ws:List av) h' c,ws.Perm vs->(∀b o,b≠a->s.heap.get? b=some o->h'.get? b=some o)->h'.get? a=some (Qh "list" ws.toArray c)->P (.done (.ret .none)) { s with heap:=h' }) :
  j4 (kw prog w) A (Builtin.«list.sort» ⟨[.ref a],[]⟩) P E s:=by
 obtain⟨h3,e3⟩:∃h3,h3=((s.heap.update a (ef λ_=>(#[]:Array av))).push (Qh "tuple" vs.toArray 0)).push (Qh "list" #[] 0):=⟨_,rfl⟩
 have f:=QU ho λ_=>(#[]:Array av)
 have keep:∀b o,b≠a->s.heap.get? b=some o->h3.get? b=some o:=λb o g e=>by
  rw[e3];exact Jn _ (Jn _ (((dk s.heap a _).2 b g).trans e))
 have d:∃e,h3.get? a=some (Qh "list" #[] e)/\_=e:=⟨_,by rw[e3];exact Jn _ (Jn _ f),rfl⟩
 obtain⟨e,d,k⟩:=d;rw[list_sort_plain];refine jj (Z4 ho rfl ?_);refine jj (QQ ho rfl ?_ (by rw[Jw,zg];omega) (JD _));refine jj (ZF f rfl ?_);refine jj (ZM ?_ (by show vs.length<=_;rw[zg];omega));refine jj (Zo ?_ (JD _));refine k5 ?_;rw[k];show j4 (kw prog w) A _ P E { s with heap:=((s.heap.update a (ef λ_=>(#[]:Array av))).push (Qh "tuple" vs.toArray 0)).push (Qh "list" #[] 0) };rw[<-e3];dsimp only;refine lX rfl i (λh2=>hk h2 h3 keep) λws st j ho l=>?_;dsimp only;rw[ho];refine jj (ZF d rfl ?_);refine jj (QQ d rfl ?_ (JD _) (by rw[Jw,j.length_eq,zg];omega));rw[l];simp only[bne_self_eq_false,JL,if_false];exact j0 (h _ _ _ j (λb o g e=>((dk _ a _).2 b g).trans (keep b o g e)) (QU d λ_=>ws.toArray))
def ox(i:FS prog w A.in1 s l vs)(f:vs.length<64)
  (hk:2<=vs.length->∀h' tk,(∀b o,s.heap.get? b=some o->h'.get? b=some o)->nM prog w A.in1.in1 vs { s with heap:=h',toks:=tk })
  (h : ∀(ws:List av) D h' tk c,ws.Perm vs->(∀b o,s.heap.get? b=some o->h'.get? b=some o)->s.heap.objs.size<=D->h'.get? D=some (Qh "list" ws.toArray c)->Q (.ref D) { s with heap:=h',toks:=tk }) :
  j4 (kw prog w) A (call (.builtin "sorted") [.ref l]) Q E s:=by refine Calls.call_function_entry kind_sorted plain_sorted entry_sorted (args_sorted1 _) ?_;unfold Builtin.«sorted»;refine jj (m:=checkCount "sorted" 1 1 _) (j0 ?_);refine jj (i λh1 tk kp a=>?_);refine jj (Zo ?_ (by rw[zg];omega));have d:(h1.push (Qh "list" vs.toArray 0)).get? h1.objs.size=some (Qh "list" vs.toArray 0):=JA _ rfl;have g:∀{h'},(∀b o,b≠h1.objs.size->(h1.push (Qh "list" vs.toArray 0)).get? b=some o->Heap.get? h' b=some o)->∀b o,s.heap.get? b=some o->h'.get? b=some o:=λk b o e=>k b o (JH (Jp (Jv e) a)) (Jn _ (kp b o e));refine jj (k5 (KX slot_list_sort ⟨_,d,rfl⟩ entry_list_sort ?bo (args_list_sort _)));exact t8 (s:={ s with heap:=h1.push (Qh "list" vs.toArray 0),toks:=tk }) d f (λh2 h' k=>hk h2 h' tk (g k)) λws h' c j k hD=>⟨_,rfl,j0 ⟨_,rfl,h ws _ h' tk c j (g k) a hD⟩⟩
end
def qQ{K:cb}{N:ao->Prop}{H:Hp}{vs:List V}{ds:List ah}{its ws:List av}(rv:aW vs its)(q:DNs K N H vs ds)(a:ws.Perm its):∃vs' es,aW vs' ws/\DNs K N H vs' es/\es.Perm ds:=by
 have b:=rv.length;have hd:=q.len;obtain⟨t,pt,rfl⟩:=cY (f:=λx:av×V×ah=>x.1) a (its.zip (vs.zip ds)) (by rw[L5];simp;omega);have hz:(t.map (·.2)).Perm (vs.zip ds):=by have:=pt.map (·.2);rwa [vl (by simp;omega)] at this
 refine⟨(t.map (·.2)).map (·.1),(t.map (·.2)).map (·.2),?_,vS λz h=>vR q z (hz.mem_iff.mp h),?_⟩
 .rw[JI];exact tL λx hx=>pR rv x (pt.mem_iff.mp hx)
 .have:=hz.map (·.2);rwa [vl (!0)] at this
section
variable {X:Cx}{K:cb}{KP:ah->Prop}{N:ao->Prop}{pins:List (ao×Obj)}{σ:St}{H:Hp}{s:az}
def tG(X:Cx)(KP:ah->Prop):Prop:=∀{A:Around}{pins:List (ao×Obj)}{σ:St}{H:Hp}{s:az}{kv:List V}{kd:List ah}{ks:List av},A.units+64<zs->Inv X pins σ H s->DVs X.K H kv kd->aW kv ks->(∀d∈kd,KP d)->2<=ks.length->nM X.prog X.w A ks s
def rp:tG X B8:=λa I q r k h2=>ED a h2 (vv I q r k)
def yr:tG X ER:=λa I q r k h2=>AU (!0) h2 (qD I q r k)
def yt:tG X z0:=λ_ I q r k h2=>B9 h2 (vF I q r k)
def EQ(d:ah):Prop:=∃k:ay,d=bi k
def yq:tG X EQ:=λ{A pins σ H s kv kd ks} a I q r k h2=>B0 a h2 (by
 clear h2
 induction r generalizing kd with
 | nil=>intro u a;cases a
 | cons r t b =>
  cases q with
  | cons d q =>
   intro u a;rcases Jo.mp a with rfl|a
   .obtain⟨k',e⟩:=k _ Jm;rw[e] at d;exact B1 I d r
   .exact b q (λd hd=>k d (Jq _ hd)) u a)
def tY(hg:tG X KP)(h:X.A.units+80<zs)(I:Inv X pins σ H s)(hc:FS X.prog X.w X.A.in1 s p its)(rv:aW vs its)(q:DNs X.K N H vs ds)(hk:∀d∈ds,KP d)(e:vs.length<64)
  (hQ:∀vs' es,es.Perm ds->DNs X.K N H vs' es->∀q,H q=none->Q (.ref q) (upd H q (.lst vs'))):j4 (kw X.prog X.w) X.A (call (.builtin "sorted") [.ref p]) (EP X pins σ Q) E s:=by have i:=rv.length;refine ox hc (!0) (λh2 h' tk k=>hg (by simp[Around.in1] at *;omega) (I.kept (t':=tk) k) q.dv rv hk h2) λws D h' tk c f k hD a=>?_;obtain⟨vs',es,g,q',b⟩:=qQ rv q f;exact⟨.ref D,_,I.laid (t':=tk) (o:=.lst vs') k hD ⟨by have:=q'.len;have:=b.length_eq;have:=q.len;rw[zg];omega,ws,c,g,a⟩,rfl,hQ vs' es b q' _ (I.hok.fresh hD)⟩
def wl(hK:X.K=K)(hg:tG X KP)(b:X.A.units+80<zs):eJ X (.builtin "sorted") (λxs H Q=>∃(p:ao) (vs:List V) (ds:List ah) (N:ao->Prop),xs=[.ref p]/\SqL K H p vs/\DNs K N H vs ds/\(∀d∈ds,KP d)/\vs.length<64 /\
  ∀vs' es,es.Perm ds->DNs K N H vs' es->∀q,H q=none->Q (.ref q) (upd H q (.lst vs'))):=by subst hK;intro pins s σ H xs us Q I r h;obtain⟨p,vs,ds,N,rfl,c,hd,hk,a,q⟩:=h;obtain⟨u,rfl,e⟩:=gK r;cases (show u=cn p from e);obtain⟨its,rv,f,_⟩:=I.list c;exact tY hg b I (nA f.isList (by rw[<-rv.length];exact a)) rv hd hk a q
def CA(KP:ah->Prop)(t:DA):DE:=λenv R=>t env λss a=>∃s ds,ss=[s]/\aO a s=some (.list ds)/\(∀d∈ds,KP d)/\ds.length<64/\∀es:List ah,es.Perm ds->R (.ow es) a
variable {e:bb}{p pos:Pos}{tl:DA}
def zM(hg:tG X KP)(hK:X.K=K)(i:X.A.units+80<zs)(c:Gl X "sorted")(j:X.mg "sorted" = none)(k:PA X [e] (upA K tl))(l:j1 [e] X.env=[(false,eval e X.env)]:=by rfl):PE X (.Call (.Name "sorted" p) [e] [] pos) (up K (CA KP tl)) :=
 (kJ (wl (K:=K) hK hg i) c j boot_sorted k (!2) (!2) l rfl).imp λσ H Q h=>by
 obtain⟨M,P,H0,σ0,env,ts,R,d,m,hq⟩:=h;refine⟨M,P,H0,σ0,env,ts,_,d,m,λss g vs H1 h1 n b=>?_⟩;obtain⟨s,ds,rfl,e1,hk,f,hR⟩:=h1;obtain⟨v,rfl⟩:=mP n;obtain⟨a,us,rfl,sq,q⟩:=(b.view (v:=v) (!1) e1).list;exact⟨a,us,ds,_,rfl,sq,q,hk,by rw[q.len];exact f,λu es o r p' t=>hq _ _ _ _ (hR es o) (b.resOw t r)⟩
end
section
variable {X:Cx}{KP:ah->Prop}{pins:List (ao×Obj)}{σ:St}{H0:Hp}{vs:List av}{A:Around}{E:av->az->Prop}{s:az}
def tZ(hg:tG X KP)(G:A.units+64<zs)(I:Inv X pins σ H0 s)(fa:iK X pins H0 a)(ho:s.heap.get? a=some (Qh "list" vs.toArray n))(j:vs.length<64)
  (call:∀x∈vs,∀H s',Inv X pins σ H s'->be H0 H->j4 (kw X.prog X.w) A (call f [x]) (λr s2=>∃d,KP d/\nO X pins σ H s' d r s2) (λ_ _=>False) s')
  (h : ∀(ws:List av) H s' c,ws.Perm vs->Inv X pins σ H s'->be H0 H->iK X pins H a->s'.heap.get? a=some (Qh "list" ws.toArray c)->P (.done (.ret .none)) s') :
  j4 (kw X.prog X.w) A (ksk_tree a f false) P E s:=by
 obtain⟨h3,e3⟩:∃h3,h3=((s.heap.update a (ef λ_=>(#[]:Array av))).push (Qh "tuple" vs.toArray 0)).push (Qh "list" #[] 0):=⟨_,rfl⟩
 obtain⟨kS,u⟩:∃kS,kS=((s.heap.update a (ef λ_=>(#[]:Array av))).push (Qh "tuple" vs.toArray 0)).objs.size:=⟨_,rfl⟩
 have l:=QU ho λ_=>(#[]:Array av)
 obtain⟨e1,v,J⟩:∃e,h3.get? a=some (Qh "list" #[] e)/\_=e:=⟨_,by rw[e3];exact Jn _ (Jn _ l),rfl⟩
 have K:h3.get? kS=some (Qh "list" (pu []) 0):=by rw[e3,u];exact JA _ rfl
 have hsz:kS=s.heap.objs.size+1:=by rw[u,size_push',K5]
 have m:a≠kS:=by rw[hsz];exact JH (KU (Jv ho))
 have L:=I.turnedN (t':=s.toks) (fp:=[a]) (h':=h3) (λb g=>by rw[Jf.mp g];exact fa) λb o g e=>by
  rw[e3];exact Jn _ (Jn _ (((dk s.heap a _).2 b (λz=>g (by simp[z]))).trans e))
 unfold ksk_tree;refine jj (Z4 ho rfl ?_);refine jj (QQ ho rfl ?_ (by rw[Jw,zg];omega) (JD _));refine jj (ZF l rfl ?_);refine jj (ZM ?_ (by show vs.length<=_;rw[zg];omega));refine jj (Zo ?_ (JD _));refine k5 ?_;rw[J];show j4 (kw X.prog X.w) A (ksk_rest a f false vs.toArray e1 (.ref ((s.heap.update a (ef λ_=>(#[]:Array av))).push (Qh "tuple" vs.toArray 0)).objs.size)) P E { s with heap:=((s.heap.update a (ef λ_=>(#[]:Array av))).push (Qh "tuple" vs.toArray 0)).push (Qh "list" #[] 0) };rw[<-e3,<-u];unfold ksk_rest;refine jj (Qr ?_);rw[List.forIn_toArray];refine jj (z5 (lV (f:=f) (A:=A) (e1:=e1) (n:=vs.length) m j (λx ks e s' C hz hx=>?_) call vs [] _ (λx hx=>hx) (!1) ⟨⟨H0,[],[],0,L,be.refl _,.nil,.nil,!1,fa,I.fpOk (!0) (I.hok.fresh (!0)),K⟩,v⟩) (λ_ s' hd=>?_) λ_ _ x=>x)
 .refine jj (Q0 (z5 hx (λk y hk=>?_) λ_ _ hF=>hF.elim));have e:=QU hk.1 (·.push k);rw[show(pu ks).push k=pu (ks++[k]) by simp] at e;dsimp only;exact jj (QQ hk.1 rfl (j0 ⟨rfl,k,y,_,hk.2,rfl,e⟩) (by rw[Jw,zg];omega) (by rw[Ma,Jw,zg];omega))
 .obtain⟨ks,M,⟨⟨H,kv,kd,c,D,N,rv,dn,hk,p,B,q⟩,la⟩⟩:=hd;refine jj (Z4 q rfl ?_);unfold ksk_end;simp only[JL,if_false];refine lX M j (λh2=>hg G D dn.dv rv hk (!0)) λws st F t O=>?_;have t1:=dk s'.heap kS (ef λ_=>(#[]:Array av));have i:=(t1.2 a m).trans la;unfold ksk_tail;dsimp only;rw[t];refine jj (QQ q rfl ?_ (by rw[Jw,zg];omega) (JD _));refine jj (wpAny_letGo ?_);refine jj (ZF i rfl ?_);simp only[JL,if_false];refine jj (QQ i rfl ?_ (JD _) (by rw[Jw,F.length_eq,zg];omega));rw[O];simp only[bne_self_eq_false,JL,if_false];refine j0 (h ws H _ _ F (D.turnedN (t':=s'.toks) (fp:=[kS,a]) (λb g=>?_) λb o g e=>?_) N p (QU i λ_=>ws.toArray))
  .rcases Jo.mp g with rfl|g
   .exact B
   .rw[Jf.mp g];exact p
  .simp only[Jo,JR,or_false,not_or] at g;exact((dk _ a _).2 b g.2).trans ((t1.2 b g.1).trans e)
def ou(hg:tG X KP)(t:A.units+80<zs)(I:Inv X pins σ H0 s)(k:FS X.prog X.w A.in1 s l vs)(j:vs.length<64)
  (call:∀x∈vs,∀H s',Inv X pins σ H s'->be H0 H->j4 (kw X.prog X.w) A.in1.in1 (call (.ref f) [x]) (λr s2=>∃d,KP d/\nO X pins σ H s' d r s2) (λ_ _=>False) s')
  (h : ∀(ws:List av) H s' D c,ws.Perm vs->Inv X pins σ H s'->be H0 H->iK X pins H D->s'.heap.get? D=some (Qh "list" ws.toArray c)->Q (.ref D) s') :
  j4 (kw X.prog X.w) A (B2 (.builtin "sorted") [.ref l] [(gh "key",.ref f)]) Q E s:=by refine call_function_entry_kw kind_sorted plain_sorted entry_sorted (ksk_s1 _ _) ?_;unfold Builtin.«sorted»;refine jj (m:=checkCount "sorted" 1 1 _) (j0 ?_);refine jj (k λh1 tk kp a=>?_);refine jj (Zo ?_ (by rw[zg];omega));have i:(h1.push (Qh "list" vs.toArray 0)).get? h1.objs.size=some (Qh "list" vs.toArray 0):=JA _ rfl;refine jj (k5 (wpAny_call_entry_kw slot_list_sort ⟨_,i,rfl⟩ entry_list_sort ?bo (ksk_l1 _ _)));show j4 (kw X.prog X.w) A.in1.in1 (Builtin.«list.sort» ⟨[.ref h1.objs.size],[(gh "key",.ref f)]⟩) _ _ _;rw[ksk_t1];exact tZ hg (by simp[Around.in1] at *;omega) (I.kept (t':=tk) λb o e=>Jn _ (kp b o e)) (I.fpOk a (I.hok.fresh a)) i j call λws H s' c n p q fp g=>⟨_,rfl,j0 ⟨_,rfl,h ws H s' _ c n p q fp g⟩⟩
end
def B4(KP:ah->Prop)(tb:DE)(es:List ah):Prop:=tb (es.map .fr) λs env=>∃kd,aL env s=some kd/\KP kd
section
variable {X:Cx}{pins:List (ao×Obj)}{σ:St}{H:Hp}{s:az}{KP:ah->Prop}
def Hu(KP:ah->Prop)(X:Cx)(H:Hp):VK:=λv H'=>be H H'/\∃kd,KP kd/\DN X.K N0 H' v kd
def yu{fl:Except av Flow}{s':az}(I:Inv X pins σ H s)(hq:CR CX0 X.stack X.prog X.w H s (Hu KP X H) E0 fl s'):∃r,fl=.ok (.ret r)/\∃kd,KP kd/\nO X pins σ H s kd r s':=by
 cases fl with
 | error e=>exact hq.elim
 | ok fl =>
  cases fl with
  | ret z =>
   obtain⟨v1,H',os,bare,un,hok,rv,d,kd,c,dn⟩:=hq;refine⟨_,rfl,kd,c,H',v1,I.call' (ch:=[]) os un hok bare (λb z=>nomatch z),d,rv,dn,λb o a e=>⟨un.keep b o e a.1 (λz=>?_) (!1),un.free b o e a.1 (!1)⟩⟩;rcases Jo.mp (I.stkSub b z) with z|z
   .exact a.2.1 z
   .exact a.2.2.1 z
  | _=>exact False.elim hq
def vx(q:DNs X.K N0 H vs ds)(hk:B4 KP tb ds):up X.K tb (vs.map some) H (Hu KP X H):=by refine⟨N0,N0,H,_,_,[],_,AW q,hk,λs1 env' v' H' ⟨kd,hR,c⟩ a=>⟨(a.e.keep).none,kd,c,?_⟩⟩;exact(a.kept (ts:=[]) (v:=v') (s:=s1) (!1) hR).to λb _ _ z=>z.elim
end
section
variable {X:Cx}{K:cb}{e:bb}{t:TA}{q0 pos kpos lpos:Pos}{params:Zm}{scope:Qn}{body:bb}{p x:bt}{i:Nat}{tb:DE}{KP:ah->Prop}{KR:St->Hp->ah->Prop}
def FW(K:cb)(KR:St->Hp->ah->Prop)(t:TA):TE:=λσ H Q=>t σ H λxs H1=>∃(q:ao) (vs:List V) (N:ao->Prop) (ds:List ah),xs=[.ref q]/\SqL K H1 q vs/\DNs K N H1 vs ds/\(∀d∈ds,KR σ H1 d)/\vs.length<64 /\
 ∀vs' es H2,be H1 H2->es.Perm ds->DNs K N H2 vs' es->∀q,H2 q=none->Q (.ref q) (upd H2 q (.lst vs'))
def uW(hK:X.K=K)(hG:tG X KP)(L:zk X)(U:eM 4 X.A)(hg:Gl X "sorted")(W:X.mg "sorted" = none)(Y:PA X [e] t)(n:ZS params X.env=([],[]))
  (F:∀{pins:List (ao×Obj)}{s:az}{σ:St}{H:Hp},Inv X pins σ H s->∃clos,QO scope X.env=pure clos)
  (G:∀{σ:St}{H H':Hp}{d:ah},KR σ H d->be H H'->KR σ H' d)
  (j:∀{pins:List (ao×Obj)}{s:az}{σ:St}{H:Hp}{clos:List (bt×ao)}{f c':ao}{pm ctv u:av}{v:V}{d:ah},Inv X pins σ H s->QO scope X.env=pure clos->s.heap.get? f=some (Zs "<lambda>" (X.env.qual ++ "<lambda>") params body scope clos pm c' ctv)->s.heap.CodeRec (.ref c') (X.env.qual ++ "<lambda>") ->
   bD v u->DN X.K N0 H v d->KR σ H d->Qv (kw X.prog X.w) X.A.in1.in1 (.call (.ref f) ⟨[u],[]⟩) (CR CX0 X.stack X.prog X.w H s (Hu KP X H) E0) s)
  (p:k6 pos (j1 [e] X.env)=(false,eval e X.env)::k6 pos (j1 [] X.env)) :
  PE X (.Call (.Name "sorted" q0) [e] [⟨some "key",.Lambda params body scope lpos,kpos⟩] pos) (FW K KR t):=by
 subst hK;intro pins s σ H Q I h;obtain⟨clos,hc⟩:=F I;refine QX (gA I hg W boot_sorted ?_ (!2) (!2));refine callWith_kw (thn (Y pos pins s σ H _ I h) λus s1 J=>?_) p (by rw[p];rfl) rfl rfl;obtain⟨xs,H1,Z,r,q⟩:=J;show j4 _ _ (evalAll [(do let v <-eval (.Lambda params body scope lpos) X.env;QV pos;pure v)]) _ _ s1;refine wpAny_evalAll_cons (jj (vt Z L hc n λf c' pm ctv s2 H2 M x B k cz=>jj (Zn (j0 (wpAny_evalAll_nil ?_)))));obtain⟨p0,vs,N,ds,rfl,sq,dn,C,a0,q⟩:=q;obtain⟨u,rfl,ru⟩:=gK r;cases (show u=cn p0 from ru);obtain⟨its,rv,hp,_⟩:=M.list (x.seq sq);have R:=rv.length;generalize i:Zs "<lambda>" (X.env.qual ++ "<lambda>") params body scope clos pm c' ctv=fo at B;have I3:Inv X ((f,fo)::pins) σ H2 s2:=M.pins_of λz hz=>by
  rcases Jo.mp hz with rfl|hz
  .exact⟨B,k.1,k.2.1,k.2.2.1,λv=>by rw[<-i];exactλz=>by cases z⟩
  .exact M.pin z (Jg _ hz)
 have O:DNs X.K N0 H2 vs ds:=(dn.keep (aX.same x)).to λb _ _ z=>z.elim;refine ou hG (jo U) I3 (nA hp.isList (!0)) (!0) (λy hy H' s' l g=>?_) λws H' s' D c m l g a gD=>?_
 .obtain⟨v,d,rx,dx,md⟩:=vT O rv y hy;have S:=(l.pin (f,fo) (Jg _ Jm)).1;rw[<-i] at S;obtain⟨oc,u,ws,t,e1,e2,e3⟩:=cz;obtain⟨P,_⟩:=l.hok c' _ (g _ _ e1);exact wpAny_call (Zv (j l hc S ⟨_,_,_,_,rfl,P,e2,e3⟩ rx (dx.keep (aX.same g)) (G (C d md) (x.trans g))) λres s' hq=>by
   obtain⟨z,rfl,h⟩:=yu l hq;exact h)
 .have I4:Inv X pins σ H' s':=l.pins_of λz hz=>l.pin z (Jg _ (Jq _ hz));have E:iK X pins H' D:=⟨a.1,a.2.1,a.2.2.1,a.2.2.2.1,a.2.2.2.2.1,λz hz=>a.2.2.2.2.2 z (by
   rcases Jj.mp hz with hz|hz
   .exact Jl _ hz
   .exact Jg _ (Jq _ hz))⟩
  obtain⟨vs',es,r',q',T⟩:=qQ rv (dn.keep (aX.same (x.trans g))) m;exact⟨.ref D,_,I4.track (o:=.lst vs') E ⟨by have:=q'.len;have:=T.length_eq;have:=dn.len;rw[zg];omega,_,c,r',gD⟩,rfl,q vs' es _ (x.trans g) T q' _ a.1⟩
variable {tl:DA}
def CF(KP:ah->Prop)(tb:DE)(t:DA):DE:=λenv R=>t env λss a=>∃s ds,ss=[s]/\aO a s=some (.list ds)/\ds.length<64/\(∀d∈ds,B4 KP tb [d])/\∀es:List ah,es.Perm ds->R (.ow es) a
def CC(KP:ah->Prop)(tb:DE)(i:Nat)(t:DA):DE:=λenv R=>t env λss a=>∃s ds b,ss=[s]/\aO a s=some (.list ds)/\a[i]? = some (.fr b)/\ds.length<64/\(∀d∈ds,B4 KP tb [d,b])/\∀es:List ah,es.Perm ds->R (.ow es) a
def DR(hG:tG X KP)(hK:X.K=K)(L:zk X)(t:eM 4 X.A)(hg:Gl X "sorted")(y:X.mg "sorted" = none)(z:PA X [e] (upA K tl))(S:ax [p] [p] scope)
  (B:∀(qual:bt) (pm c ctv u:av),QK (kla_fn "<lambda>" qual params body scope [] pm c ctv) ⟨[u],[]⟩=pure [(p,u)])
  (i:QO scope X.env=pure []) (j:ZS params X.env=([],[]))
  (g:∀(A:Around) (s:az) (H:Hp) (f:ao) (cd:av),PE (tD CX0 X.prog X.w X.K X.mg X.base [p] (X.env.qual ++ "<lambda>") scope f cd A X.stack s H E0) body (up X.K tb))
  (l:k6 pos (j1 [e] X.env)=(false,eval e X.env)::k6 pos (j1 [] X.env):=by rfl) :
  PE X (.Call (.Name "sorted" q0) [e] [⟨some "key",.Lambda params body scope lpos,kpos⟩] pos) (up K (CF KP tb tl)) :=
 (uW (KR:=λ_ _ d=>B4 KP tb [d]) hK hG L t hg y z j (λ_=>⟨[],i⟩) (λh _=>h) (λI hc ho m r hd hk=>by
  rw[i] at hc;cases hc;exact BX (k:=1) (CX:=CX0) (E:=E0) (ps:=[p]) S t.in1.in1 I.env0.in1.in1 ho m (B _ _ _ _ _) (.cons r .nil) rfl (g _ _ _ _ _) (vx (.cons hd .nil) hk)) l).imp λσ H Q h=>by
 obtain⟨M,P,H0,σ0,env,ts,R,n,C,hq⟩:=h;refine⟨M,P,H0,σ0,env,ts,_,n,C,λss x vs H1 h1 D b=>?_⟩;obtain⟨s,ds,rfl,e1,o,hk,hR⟩:=h1;obtain⟨v,rfl⟩:=mP D;obtain⟨a,us,rfl,sq,q⟩:=(b.view (v:=v) (!1) e1).list;exact⟨a,us,_,ds,rfl,sq,q,hk,by rw[q.len];exact o,λvs' es H2 F G J p' N=>hq _ _ _ _ (hR es G) ((b.same F).resOw N J)⟩
def DQ(i:Nat)(hG:tG X KP)(hK:X.K=K)(L:zk X)(hr:eM 4 X.A)(hg:Gl X "sorted")(hm:X.mg "sorted" = none)(ha:PA X [e] (upA K tl))(S:lJ p x scope)
  (hN:X.N[i]? = some x) (hv:Vis X.env.scope x) (l:X.env.kindOf x=some .cell\/X.env.kindOf x=some .free) (O:X.env.kindOf x≠some .local)
  (hb:∀(qual:bt) (cl:List (bt×ao)) (pm c ctv u:av),QK (kla_fn "<lambda>" qual params body scope cl pm c ctv) ⟨[u],[]⟩=pure [(p,u)])
  (C:∀c,X.env.cells.lookup x=some c->QO scope X.env=pure [(x,c)]) (D:ZS params X.env=([],[]))
  (n:∀(A:Around) (s:az) (H:Hp) (f:ao) (cd:av) (c:ao),eM 1 (A.deeper (envX (X.env.qual ++ "<lambda>") scope s.heap.objs.size f cd [(x,c)]))->PE (Ak CX0 X.prog X.w X.K X.mg X.base [p,x] (X.env.qual ++ "<lambda>") scope f cd [(x,c)] A X.stack s H E0) body (up X.K tb))
  (T:k6 pos (j1 [e] X.env)=(false,eval e X.env)::k6 pos (j1 [] X.env):=by rfl) :
  PE X (.Call (.Name "sorted" q0) [e] [⟨some "key",.Lambda params body scope lpos,kpos⟩] pos) (up K (CC KP tb i tl)) :=
 (uW (KR:=λσ H d=>∃v0 o,σ[i]? = some (some v0)/\DN K N0 H v0 o/\B4 KP tb [d,o]) hK hG L hr hg hm ha D (λI=>let ⟨c,hc⟩:=I.ok.has x l;⟨_,C c hc⟩) (λ⟨v0,o,U,dn,hk⟩ V=>⟨v0,o,U,dn.keep (aX.same V),hk⟩) (λ{pins s σ H clos f c' pm ctv u v d} I hc ho W r hd hk=>by
  subst hK;obtain⟨c,t⟩:=I.ok.has x l;rw[C c t] at hc;cases hc;obtain⟨v0,o,Y,y,hk⟩:=hk;obtain⟨m,a6,F⟩:=I.loc;obtain⟨u0,Z,B⟩:=F i x v0 hN Y hv;have j:s.heap.IsCell c (some u0):=by
   rcases B with⟨z,_⟩|⟨_,c2,G,ic⟩
   .exact absurd z O
   .rw[t] at G;cases G;exact ic
  have J:eM 2 X.A.in1.in1:=hr.in1.in1;exact yp (k:=1) (CX:=CX0) (E:=E0) S J I.env0.in1.in1 ho W (hb _ _ _ _ _ _) j Z (I.freeC x c t) r (n _ _ _ _ _ _ (J.deeper _)) (vx (.cons hd (.cons y .nil)) hk)) T).imp λσ H Q h=>by
 obtain⟨M,P,H0,σ0,env,ts,R,a0,ht,hq⟩:=h;refine⟨M,P,H0,σ0,env,ts,_,a0,ht,λss a5 vs H1 h1 hl g=>?_⟩;obtain⟨s,ds,o,rfl,e1,U,a3,hk,hR⟩:=h1;obtain⟨v,rfl⟩:=mP hl;obtain⟨a,us,rfl,sq,q⟩:=(g.view (v:=v) (!1) e1).list;obtain⟨x0,ex,m0⟩:=g.slot U;obtain⟨v0,a4,y⟩:=g.e.fr _ _ m0;exact⟨a,us,_,ds,rfl,sq,q,λd hd=>⟨v0,o,by rw[ex,a4],y.to λb _ _ z=>z.elim,hk d hd⟩,by rw[q.len];exact a3,λvs' es H2 V pe qe p' hp=>hq _ _ _ _ (hR es pe) ((g.same V).resOw hp qe)⟩
end
section
variable {X:Cx}{K:cb}
def wm(hK:X.K=K)(hc:X.calm=true)(f:X.A.units+80<zs):eJ X (.builtin "sorted") (λxs H Q=>∃(p:ao) (es:List (ay×ao×V)) (ds:List ah) (N:ao->Prop),xs=[.ref p]/\H p=some (.ext (bx p es))/\DNs K N H (es.map λp=>V.ref p.2.1) ds/\(∀d∈ds,EQ d)/\es.length<64 /\
  ∀vs' es,es.Perm ds->DNs K N H vs' es->∀q,H q=none->Q (.ref q) (upd H q (.lst vs'))):=by
 subst hK;intro pins s σ H xs us Q I r h;obtain⟨p,es,ds,N,rfl,g,hd,hk,b,q⟩:=h;obtain⟨u,rfl,j⟩:=gK r;cases (show u=cn p from j);obtain⟨z,y,o,dd,h1,h2,h3,h4,h5⟩:=fZ I g;refine tY (its:=es.map λp=>cn p.2.1) yq f I (λ{E Q} hQ=>nz (I.ok.hd hc) y h1 h2 h3 (!0) λh' tk a kp c it=>?_) (lO es) hd hk (by rw[Je];exact b) q;have k:a.toList=es.map λp=>cn p.2.1:=by refine K4 (by rw[me,it.1];simp[h4]) λi l j2=>?_;rw[Je] at j2;obtain⟨z,e⟩:=it.2 i a[i] (!1);rw[Array.getElem_toList,e];have:=h5 i (!0) j2;simp[this]
 rw[k];exact hQ h' tk kp c
variable {e:bb}{p pos:Pos}{tl:DA}
def DP(hK:X.K=K)(hc:X.calm=true)(m:X.A.units+80<zs)(hg:Gl X "sorted")(n:X.mg "sorted" = none)(c:PA X [e] (upA K tl))(o:j1 [e] X.env=[(false,eval e X.env)]:=by rfl):PE X (.Call (.Name "sorted" p) [e] [] pos) (up K (CB tl)) :=
 (kJ (wm (K:=K) hK hc m) hg n boot_sorted c (!2) (!2) o rfl).imp λσ H Q h=>by
 obtain⟨M,P,H0,σ0,env,ts,R,g,q,hq⟩:=h;refine⟨M,P,H0,σ0,env,ts,_,g,q,λss i vs H1 h1 r b=>?_⟩;obtain⟨s,kvs,rfl,e1,t,hR⟩:=h1;obtain⟨v,rfl⟩:=mP r;obtain⟨a,es,rfl,c,hk,hv,u⟩:=(b.view (v:=v) (!1) e1).dct_of rfl;have j:es.length=kvs.length:=by have:=congrArg fI u;simpa using this
 refine⟨a,es,_,_,rfl,c,hk,λd hd=>?_,!0,λy es l w p' x=>?_⟩
 .obtain⟨p,_,rfl⟩:=Jk.mp hd;exact⟨_,rfl⟩
 .rw[show kvs.map (λp=>bi p.1)=(kvs.map (·.1)).map λk=>bi k by rw[JI];rfl] at l;obtain⟨ks,pk,rfl⟩:=cY (f:=λk:ay=>bi k) l (kvs.map (·.1)) rfl;exact hq _ _ _ _ (hR ks pk) (b.resOw x w)
end
section
variable {K:cb}{x qual p q r t:bt}{st:Stmt}{f:ao}{fd:ki}(F:Fun K x qual st f fd)
def BdA(x qual:bt)(st:Stmt)(us:List av)(ps:List (bt×av)):Prop:=∀(kV doc pm:av) (an:Option ao) (cdv ct:av),QK (gs x qual (eG st) (cE st) (ad st) .none kV doc pm an cdv ct) ⟨us,[]⟩=pure ps
include F
def bd1(h:∀a,BdA x qual st [a] [(p,a)]:=by intros;unfold BdA;intros;rfl):gH K fd [p] []:=F.binds (ps:=[p]) λ_ _ _ _ _ _ us b=>us1 (Q:=λus=>QK _ ⟨us,[]⟩=pure (pd _ us)) b λa=>h a _ _ _ _ _ _
def bd2(h:∀a b,BdA x qual st [a,b] [(p,a),(q,b)]:=by intros;unfold BdA;intros;rfl):gH K fd [p,q] []:=F.binds (ps:=[p,q]) λ_ _ _ _ _ _ us c=>us2 (Q:=λus=>QK _ ⟨us,[]⟩=pure (pd _ us)) c λa b=>h a b _ _ _ _ _ _
def bd3(h:∀a b c,BdA x qual st [a,b,c] [(p,a),(q,b),(r,c)]:=by intros;unfold BdA;intros;rfl):gH K fd [p,q,r] []:=F.binds (ps:=[p,q,r]) λ_ _ _ _ _ _ us d=>us3 (Q:=λus=>QK _ ⟨us,[]⟩=pure (pd _ us)) d λa b c=>h a b c _ _ _ _ _ _
def bd4(h:∀a b c d,BdA x qual st [a,b,c,d] [(p,a),(q,b),(r,c),(t,d)]:=by intros;unfold BdA;intros;rfl):gH K fd [p,q,r,t] []:=F.binds (ps:=[p,q,r,t]) λ_ _ _ _ _ _ us e=>us4 (Q:=λus=>QK _ ⟨us,[]⟩=pure (pd _ us)) e λa b c d=>h a b c d _ _ _ _ _ _
end
abbrev ZL(z TI TO i1 i2 l1 l2:ao)(i:Nat)(h:bg):Prop:=IsZip h z TI TO .none/\Zi h TI (.ref i1) (.ref i2)/\(∃p q,Zi h TO p q)/\h.IsListIter i1 l1 i/\h.IsListIter i2 l2 i
section
variable {z TI TO i1 i2 l1 l2:ao}
def ZL.obj(st:ZL z TI TO i1 i2 l1 l2 i h)(d:ao)(hd:d∈[z,TI,TO,i1,i2]):∃o,h.get? d=some o/\∀v,o.data≠.cell v:=by
 obtain⟨hz,a,⟨p,q,b⟩,⟨c,e1,_,d1⟩,f,e2,_,d2⟩:=st;simp only[Jo,JR,or_false] at hd;rcases hd with rfl|rfl|rfl|rfl|rfl
 .exact⟨_,hz,λv e=>nomatch (e:Data.fields _=Data.cell v)⟩
 .exact⟨_,a,λv e=>nomatch (e:Data.seq _ _=Data.cell v)⟩
 .exact⟨_,b,λv e=>nomatch (e:Data.seq _ _=Data.cell v)⟩
 .exact⟨c,e1,λv e=>by rw[d1] at e;cases e⟩
 .exact⟨f,e2,λv e=>by rw[d2] at e;cases e⟩
def ZAp.to{X:Cx}{pins:List (ao×Obj)}{σ:St}{H:Hp}{s:az}{xs ys:List V}(a:ZAp z TI TO i1 i2)(I:Inv X pins σ H s)(e:∀d∈[z,TI,TO,i1,i2],iK X pins H d)(h1:SqB X.K H false l1 xs)(h2:SqB X.K H false l2 ys):QZ z TI TO i1 i2 l1 l2 :=
 have b:=λd hd=>qo I h1 (e d hd);have c:=λd hd=>qo I h2 (e d hd)
 ⟨a.TIz,a.TOz,a.i1z,a.i2z,a.TITO,a.TIi1,a.TIi2,a.TOi1,a.TOi2,a.i12,b _ (!1),b _ (!1),b _ (!1),b _ (!1),c _ (!1),c _ (!1),c _ (!1),c _ (!1)⟩
def tN{P:ky}{w:k3}{K:cb}{es:List bb}{M:Nat}{pos:Pos}(j:ZAp z TI TO i1 i2) :
  Av P w K (.Tuple es M pos) (Itz K false false l1 l2) [z,TI,TO,i1,i2] z (ZL z TI TO i1 i2 l1 l2) where
 mem:=!1
 obj:=λi h st d hd=>st.obj d hd
 keep:=λi h h' st k=>by
  obtain⟨hz,a,⟨p,q,g⟩,h1,h2⟩:=st;exact⟨k z (!1) _ hz,k TI (!1) _ a,⟨p,q,k TO (!1) _ g⟩,h1.at λo e=>k i1 (!1) o e,h2.at λo e=>k i2 (!1) o e⟩
 item:=by
  intro X hP hw hK hc i pins s σ H E I B st hg;subst hP hw hK;obtain⟨xs,ys,x,y,b,c,hx,L⟩:=hg;obtain⟨hz,a,⟨p,q,g⟩,h1,h2⟩:=id st;obtain⟨C,l,m⟩:=I.seq b;obtain⟨D,n,r⟩:=I.seq c;obtain⟨u,N,O⟩:=l.get hx;obtain⟨v,hv,rv⟩:=n.get L;refine wpAny_pyNext_zip_item (j.to I B b c) hz a g h1 h2 m r (x:=u) (y:=v) (by simpa using N) (by simpa using hv) λh' a1 a2 R S U _ hk=>⟨_,rfl,wpAny_letOwnedTupleGo_zip a1 λV J f=>?_⟩
  have F:=λd hd=>let ⟨_,e,_⟩:=st.obj d hd;Jv e
  have Y:=f.extBut _ _ (J2 (F z (!1))) U;have hn:H s.heap.objs.size=none:=I.hok.fresh (Jx _);refine⟨.ref s.heap.objs.size,upd H s.heap.objs.size (.tup [x,y]),(I.turnedN (t':=s.toks) B λd o hd e=>f.extBut d o (λw'=>hd (by simp[w'])) (hk d o (λw'=>hd (by simp[w'])) (λw'=>hd (by simp[w'])) (λw'=>hd (by simp[w'])) (λw'=>hd (by simp[w'])) e)).track (T:=s.heap.objs.size) (o:=.tup [x,y]) (I.fpOk (Jx _) hn) ⟨by show 2<=sizeLine;decide,[u,v],.cons O (.cons rv .nil),_,Y,rfl,⟨_,rfl⟩,rfl⟩,rfl,⟨_,x,y,rfl,hn,rfl,λZ t=>by rw[I.seq_inj t b];exact hx,λZ t=>by rw[I.seq_inj t c];exact L⟩,⟨J,f.extBut _ _ j.TIz (hk _ _ j.TIz j.TITO j.TIi1 j.TIi2 a),⟨u,v,f.extBut _ _ j.TOz a2⟩,R.at λo e=>f.extBut _ o j.i1z e,S.at λo e=>f.extBut _ o j.i2z e⟩,λd hd=>?_⟩;rw[au (JH (F d hd))];exact(B d hd).1
 done:=by intro X hP hw hK hc i pins s σ H E I B st hg;subst hP hw hK;obtain⟨xs,ys,b,c,G⟩:=hg;obtain⟨hz,a,⟨p,q,g⟩,h1,h2⟩:=st;obtain⟨C,l,m⟩:=I.seq b;obtain⟨D,n,r⟩:=I.seq c;have a0:=l.length;have a6:=n.length;exact wpAny_pyNext_zip_end (I.ok.hd hc) (j.to I B b c) hz a g h1 h2 m r (G.imp (λh=>by simp;omega) λh=>by simp;omega) λh' hk=>⟨rfl,I.turnedN (t':=s.toks) B λd o hd e=>hk d o (λw'=>hd (by simp[w'])) (λw'=>hd (by simp[w'])) (λw'=>hd (by simp[w'])) (λw'=>hd (by simp[w'])) e⟩
 self:=λA i s Q E st h=>ZA st.1 h
end
section
variable {X:Cx}{K:cb}{e1 e2:bb}{ta:TA}{p q zp pos:Pos}
def Bq(hg:Gl X "zip")(t:X.mg "zip" = none)(w:PA X [e1,e2] ta)
  (x:j1 [e1,e2] X.env=[(false,eval e1 X.env),(false,eval e2 X.env)]) (b:j1 [e2] X.env=[(false,eval e2 X.env)]) :
  PI X (.Tuple es r a) (.Call (.Name "zip" p) [e1,e2] [] pos) (HN X.K false false ta):=by
 intro pins s σ H R I h;refine Call_ (gA I hg t v3 (eE (thn (w pos pins s σ H _ I h) λus s1 f=>?_) (by rw[x,b]) (by rw[b];rfl)));obtain⟨vs,H1,c,y,q1⟩:=f;obtain⟨l1,l2,xs,ys,rfl,g,i,q⟩:=q1;obtain⟨u,v,rfl,A,rv⟩:=tM y;cases (show u=cn l1 from A);cases (show v=cn l2 from rv);obtain⟨n,B,j⟩:=c.seq g;obtain⟨o,C,k⟩:=c.seq i;refine call_zip_2 j k λh' hz l m h1 h2 _ hk=>ZA hz ?_;have D:ZAp (s1.heap.objs.size+4) (s1.heap.objs.size+2) (s1.heap.objs.size+3) s1.heap.objs.size (s1.heap.objs.size+1):=by constructor <;> (intro z;simp only[ao] at *;omega)
 refine⟨s1.heap.objs.size+4,[s1.heap.objs.size+4,s1.heap.objs.size+2,s1.heap.objs.size+3,s1.heap.objs.size,s1.heap.objs.size+1],_,_,H1,rfl,c.kept (t':=s1.toks) hk,tN (l1:=l1) (l2:=l2) D,⟨hz,l,⟨_,_,m⟩,h1,h2⟩,λd hd=>?_,q⟩;have e:s1.heap.objs.size<=d:=by simp only[Jo,JR,or_false] at hd;rcases hd with rfl|rfl|rfl|rfl|rfl <;> first|exact Jx _|exact K3 _ _
 exact c.fpOk e (c.hok.fresh e)
def xM(hK:X.K=K)(L:X.calm=true)(M:Gl X "list")(N:X.mg "list" = none)(hg:Gl X "zip")(hm:X.mg "zip" = none)(O:PA X [e1,e2] ta)
  (P:j1 [.Call (.Name "zip" q) [e1,e2] [] zp] X.env=[(false,eval (.Call (.Name "zip" q) [e1,e2] [] zp) X.env)]:=by rfl)
  (m:k6 pos (j1 [.Call (.Name "zip" q) [e1,e2] [] zp] X.env)=[(false,eval (.Call (.Name "zip" q) [e1,e2] [] zp) X.env)]:=by rfl)
  (hs:j1 [e1,e2] X.env=[(false,eval e1 X.env),(false,eval e2 X.env)]:=by rfl) (r:j1 [e2] X.env=[(false,eval e2 X.env)]:=by rfl) :
  PE X (.Call (.Name "list" p) [.Call (.Name "zip" q) [e1,e2] [] zp] [] pos) (F0 K ta):=by
 subst hK;intro pins s σ H Q I h;refine Call_ (gA I M N vb (eE ?_ P rfl));rw[m];refine Calls.spliced_cons ?_;refine Call_ (gA I hg hm v3 (eE (thn (O zp pins s σ H _ I h) λus s1 R=>?_) (by rw[hs,r]) (by rw[r];rfl)));obtain⟨vs,H1,l,r1,q1⟩:=R;obtain⟨l1,l2,xs,ys,rfl,S,T,q⟩:=q1;obtain⟨u,v,rfl,ru,rv⟩:=tM r1;cases (show u=cn l1 from ru);cases (show v=cn l2 from rv);obtain⟨w,g,U,z1⟩:=l.list S;obtain⟨A,B,pl2,z2⟩:=l.list T;have i:=U.isList;have k:=pl2.isList;refine call_zip_2 i k λh' hz W C h1 h2 _ hk=>?_;refine Calls.spliced_nil ?_;obtain⟨o1,g1,_⟩:=id i;obtain⟨o2,g2,_⟩:=id k;have a0:=Jv g1;have a3:=Jv g2;generalize G:s1.heap.objs.size=n at *;have ap:QZ (n+4) (n+2) (n+3) n (n+1) l1 l2:=by constructor <;> (intro z;simp only[ao] at *;omega)
 have tl:n+3<h'.objs.size:=Jv C;refine lE (s:={ s1 with heap:=h' }) (xs:=w.toArray) (ys:=A.toArray) (I.ok.hd L) ap ⟨W,h1,h2,i.at λo e=>hk _ o e,k.at λo e=>hk _ o e,.inl ⟨rfl,hz,_,_,C⟩⟩ hz ?_ tl λh2 tk a4 c as kp hS D E F=>?_
 .have:=g.length;rw[Jw,<-this];exact Jt (KC _ _) z1
 have le:n<=h'.objs.size:=by simp only[ao] at *;omega
 have kk:∀b o,s1.heap.get? b=some o->h2.get? b=some o:=λb o e=>by
  have lb:=Jv e;rw[G] at lb;refine kp b o ?_ ?_ ?_ ?_ (hk b o e) <;> (intro z;simp only[ao] at *;omega)
 have I2:Inv X pins σ H1 { s1 with heap:=h2,toks:=tk }:=l.kept kk;have fr:∀a,n<=a->H1 a=none:=λa O=>l.hok.fresh (by rw[G];exact O);have d:as.length=(xs.zip ys).length:=by rw[D,KD,Jw,Jw,g.length,B.length]
 have f:(as.zip (xs.zip ys)).map (λt=>t.1)=as:=L5 (by rw[d];exact Jx _);obtain⟨Y,I3,s3,o3,g3⟩:=i9 (as.zip (xs.zip ys)) H1 I2 (by rw[f];exact E.nd) λt J=>by
  obtain⟨j,hj⟩:=List.getElem?_of_mem J;rw[KI] at hj;obtain⟨Z,j2⟩:=hj;rw[KI] at j2;obtain⟨j2,j3⟩:=j2;obtain⟨x,y,hx,hy,hp⟩:=E.pairs j t.1 Z;have ab:=E.above t.1 (Km Z);refine⟨l.fpOk (by rw[G];exact Jt le (Jt (Ku _) ab)) (fr _ (Jt le (Jt (Ku _) ab))),x,y,?_,?_,hp⟩
  .exact kr g (by simpa using hx) j2
  .exact kr B (by simpa using hy) j3
 have nS:h'.objs.size ∉ (as.zip (xs.zip ys)).map (λt=>t.1):=by rw[f];intro z;exact Nat.not_succ_le_self _ (E.above _ z)
 have f3:Y h'.objs.size=none:=by rw[o3 _ nS];exact fr _ le
 refine⟨.ref h'.objs.size,_,I3.track (o:=.lst (as.map V.ref)) (l.fpOk (by rw[G];exact le) f3) ⟨?_,as.map cn,c,lN as,?_⟩,rfl,q Y as s3 d (λt J=>⟨?_,g3 t J⟩) _ f3⟩
 .rw[Je,d,KD];exact Jt (KC _ _) z1
 .rw[<-F];exact hS
 .have:t.1∈as:=by rw[<-f];exact Jk.mpr ⟨t,J,rfl⟩
  exact fr _ (Jt le (Jt (Ku _) (E.above _ this)))
variable {tl:DA}
def A0{es:List bb}{t:Nat}{e:Pos}(hK:X.K=K)(hg:Gl X "zip")(u:X.mg "zip" = none)(w:PA X [e1,e2] (upA K tl))
  (x:j1 [e1,e2] X.env=[(false,eval e1 X.env),(false,eval e2 X.env)]:=by rfl) (j:j1 [e2] X.env=[(false,eval e2 X.env)]:=by rfl) :
  PI X (.Tuple es t e) (.Call (.Name "zip" p) [e1,e2] [] pos) (upI K (Ha false false tl)):=(show PI X _ _ (HN K false false (upA K tl)) by subst hK;exact Bq hg u w x j).imp λσ H R h=>by
 obtain⟨M,P,H0,σ0,env,ts,RR,k,y,hq⟩:=h;refine⟨M,P,H0,σ0,env,ts,_,k,y,λss f vs H1 h1 o c=>?_⟩;obtain⟨s,s',ds,d,rfl,z,A,hR⟩:=h1;obtain⟨v,v',rfl⟩:=Fy o;have g:=c.keptAll (vs:=[v,v']) (ds:=[sqD false ds,sqD false d]) o (λp B=>B) (by simp[bw,z,A]);have i:=c.drop.addFrs g;have i:Rel K M P H0 σ0 σ f (ts++[(v,.fr (sqD false ds)),(v',.fr (sqD false d))]) H1:=by simpa using i
 cases g with
 | cons dn q =>
  cases q with
  | cons l q =>
   obtain⟨a,_,rfl,_⟩:=DN.list dn;obtain⟨r,_,rfl,_⟩:=DN.list l;obtain⟨xs,sq,_⟩:=bj (b:=false) (a:=a) (ds:=ds) i (Jg _ (by simp[sqD]));obtain⟨m,n,_⟩:=bj (b:=false) (a:=r) (ds:=d) i (Jg _ (by simp[sqD]));exact⟨a,r,xs,m,rfl,sq,n,hq _ _ _ _ _ hR i yw⟩
def A5(hK:X.K=K)(e:X.calm=true)(f:Gl X "list")(g:X.mg "list" = none)(hg:Gl X "zip")(s:X.mg "zip" = none)(t:PA X [e1,e2] (upA K tl))
  (i:j1 [.Call (.Name "zip" q) [e1,e2] [] zp] X.env=[(false,eval (.Call (.Name "zip" q) [e1,e2] [] zp) X.env)]:=by rfl)
  (c:k6 pos (j1 [.Call (.Name "zip" q) [e1,e2] [] zp] X.env)=[(false,eval (.Call (.Name "zip" q) [e1,e2] [] zp) X.env)]:=by rfl)
  (u:j1 [e1,e2] X.env=[(false,eval e1 X.env),(false,eval e2 X.env)]:=by rfl) (j:j1 [e2] X.env=[(false,eval e2 X.env)]:=by rfl) :
  PE X (.Call (.Name "list" p) [.Call (.Name "zip" q) [e1,e2] [] zp] [] pos) (up K (CL tl)) :=
 (xM (K:=K) hK e f g hg s t i c u j).imp λσ H Q h=>by
 obtain⟨M,P,H0,σ0,env,ts,R,k,x,hq⟩:=h;refine⟨M,P,H0,σ0,env,ts,_,k,x,λss n vs H1 h1 y b=>?_⟩;obtain⟨s1,s2,d1,d2,rfl,e1,e2,hR⟩:=h1;obtain⟨v,w,rfl⟩:=Fy y;obtain⟨l1,xs,rfl,l,q1⟩:=(b.view (v:=v) (!1) e1).list;obtain⟨l2,ys,rfl,m,q2⟩:=(b.view (v:=w) (!1) e2).list;exact⟨l1,l2,xs,ys,rfl,l,m,λH2 as o d hz r z=>hq _ _ _ _ hR ((b.same o).resOw z (rO o (λa A=>b.newAddr A) as q1 q2 d hz))⟩
end
end _L
namespace _L
open PySem PySem.Spec PyProof.Rows
section
structure LpE(E:ig)(W:List Sl->Prop)(DD:ig):Prop where
 nx : ∀env,W env->E.nx env
 ct : ∀env,W env->E.ct env
 bk : ∀env,DD.nx env->E.bk env
 rt : ∀s env,DD.rt s env->E.rt s env
def iG(W:Nat->List Sl->Prop)(b:W 0 env)
  (c:∀E:Nat->ig,(∀i,LpE (E i) (W (i+1)) DD)->∀i env,(h:i<ds.length)->W i env->g ds[i] env λa=>tb (E i) a) (hd:∀env,W ds.length env->DD.nx env):FD ds g tb DD env:=⟨W,b,λi=>c (λi=>{ DD with nx:=dI (W (i+1)) ⟨⟩,ct:=dI (W (i+1)) ⟨⟩,bk:=DD.nx }) (λ_=>⟨λ_ z=>z,λ_ z=>z,λ_ z=>z,λ_ _ z=>z⟩) i,hd⟩
def gJ(W:Nat->List Sl->Prop)(d:∃m,W m env)
  (h : ∀E:Nat->ig,(∀m,LpE (E m) (λenv=>∃a,a<m/\W a env) DD)->∀m env,W m env->c env λk b=>if k=true then tb (E m) b else DD.nx b):Ag c tb DD env :=
 ⟨W,d,λm=>h (λm=>{ DD with nx:=dI (λenv'=>∃a,a<m/\W a env') ⟨⟩,ct:=dI (λenv'=>∃a,a<m/\W a env') ⟨⟩,bk:=DD.nx }) (λ_=>⟨λ_ z=>z,λ_ z=>z,λ_ z=>z,λ_ _ z=>z⟩) m⟩
end
end _L
namespace _W
open PySem _L
local macro_rules | `(tactic| walk_at "d2") => do
 let l <- (("Fg,Aj,CA,CF,CC,He,CL,CH,v5,mM,CI,Hd,v8,CN,CT,CB,pJ,Cg,GU,pA,Hb,FC,CO,CM,Cf,Hi,ly,Hg,CQ,CP,CG,GT,pz,GS,GR,ln,rS,vZ,yU,zF,pV,v6,Fd,Ah,Hj,kj,yR,dFz,nj,yS,Fe,v7,CJ,FM,CS,vY,FN,dOp,Ff,yZ,dUn,FG,yW,dC,pG,Hk,dOr,FJ,CV,dIf,rV,C7,FL,yY,FK,v9,nq,rW,dCB,rQ,FH,yV,lq,pH,vX,FO,FI,rR,yT,yX,Ha,tp,rT,Af,sqD,gI,gIC,gB,gBB,gEq,gNe,FE,yK,gIn,vJ,pB,gIx,FF,FB,v4,GQ,GX,GW,FA,GP,Ce,CK,CU,Sl.tr.injEq,Hf,Fv,jO,i8,slF,noL,o6,mH,qi,qF,mR,pY,pW,pX,pU,jV,i7,mT,mS,mQ,jA,iz,zI,zG,zH,zE,zD,zB,zC,zA,qk,qj,qh,qI,qG,qE,uA,uz,jS,m9,m6,m8,m4,rL,rM,cU,qz,qA,u4,u5,u6,u3,iH,nF,nE,se,sa,sd,r9,j5,jg,lQ,lS,pZ,lR,jW,mX,rz,mZ,mY,kf,fH,f6,lg,At,wB,As,Ar,Aq,Ap,Ao,An,rK,z9,Ab,um,qw,qx,List.map_cons,List.map_nil,List.length_cons,List.length_nil,List.cons_append,List.nil_append,List.append_nil,List.replicate_succ,List.replicate_zero,List.set_cons_succ,List.set_cons_zero,List.getElem?_cons_zero,List.getElem?_cons_succ,List.getElem?_nil,List.take_succ_cons,List.take_zero,List.take_nil,List.drop_succ_cons,List.drop_zero,List.drop_nil,Option.some.injEq,Option.bind_some,Option.bind_none,Option.map_some,Option.map_none,Sl.fr.injEq,Sl.ow.injEq,Sl.io.injEq,Sl.vw.injEq,PyData.int.injEq,PyData.bool.injEq,PyData.list.injEq,PyData.tuple.injEq,PyData.str.injEq,List.cons.injEq,reduceCtorEq,and_true,true_and,and_false,false_and,and_assoc,exists_eq_left',exists_eq_left,exists_and_left,exists_eq',exists_eq,exists_false,exists_const,Nat.reduceSub,Nat.reduceAdd,Nat.reduceLT,Nat.zero_add,Nat.lt_add_left_iff_pos,decide_eq_true_eq,ite_true,ite_false,Bool.false_eq_true,if_true,if_false,Bool.not_eq_true',Bool.not_eq_true,decide_eq_false_iff_not,Int.zero_add,String.reduceBEq,Bool.true_and,Bool.and_true,Bool.or_false,Bool.false_or,Bool.or_true,Bool.true_or,Bool.and_false,Bool.false_and,Bool.not_true,Bool.not_false,id_eq,Sl.ctorIdx,Nat.succ_eq_add_one".splitOn ",").toArray.mapM λs => `(Lean.Parser.Tactic.simpLemma| $(Lean.mkIdent s.toName):ident))
 `(tactic| simp only[$l,*])
local macro_rules | `(tactic| walk_at "d1") => do
 let l <- (("Aj,CA,CF,CC,He,CL,CH,v5,mM,CI,Hd,v8,CN,CT,CB,pJ,Cg,GU,pA,Hb,FC,CO,CM,Cf,Hi,ly,Hg,CQ,CP,CG,GT,pz,GS,GR,ln,rS,vZ,yU,zF,pV,v6,Fd,Ah,Hj,kj,yR,dFz,nj,yS,Fe,v7,CJ,FM,CS,vY,FN,dOp,Ff,yZ,dUn,FG,yW,dC,pG,Hk,dOr,FJ,CV,dIf,rV,C7,FL,yY,FK,v9,nq,rW,dCB,rQ,FH,yV,lq,pH,vX,FO,FI,rR,yT,yX,Ha,tp,rT,Af,sqD,gI,gIC,gB,gBB,gEq,gNe,FE,yK,gIn,vJ,pB,gIx,FF,FB,v4,GQ,GX,GW,FA,GP,Ce,CK,CU,Sl.tr.injEq,Hf,Fv,jO,i8,slF,noL,o6,mH,qi,qF,mR,pY,pW,pX,pU,jV,i7,mT,mS,mQ,jA,iz,zI,zG,zH,zE,zD,zB,zC,zA,qk,qj,qh,qI,qG,qE,uA,uz,jS,m9,m6,m8,m4,rL,rM,cU,qz,qA,u4,u5,u6,u3,iH,nF,nE,se,sa,sd,r9,j5,jg,lQ,lS,pZ,lR,jW,mX,rz,mZ,mY,kf,fH,f6,lg,At,wB,As,Ar,Aq,Ap,Ao,An,rK,z9,Ab,um,qw,qx,List.map_cons,List.map_nil,List.length_cons,List.length_nil,List.cons_append,List.nil_append,List.append_nil,List.replicate_succ,List.replicate_zero,List.set_cons_succ,List.set_cons_zero,List.getElem?_cons_zero,List.getElem?_cons_succ,List.getElem?_nil,List.take_succ_cons,List.take_zero,List.take_nil,List.drop_succ_cons,List.drop_zero,List.drop_nil,Option.some.injEq,Option.bind_some,Option.bind_none,Option.map_some,Option.map_none,Sl.fr.injEq,Sl.ow.injEq,Sl.io.injEq,Sl.vw.injEq,PyData.int.injEq,PyData.bool.injEq,PyData.list.injEq,PyData.tuple.injEq,PyData.str.injEq,List.cons.injEq,reduceCtorEq,and_true,true_and,and_false,false_and,and_assoc,exists_eq_left',exists_eq_left,exists_and_left,exists_eq',exists_eq,exists_false,exists_const,Nat.reduceSub,Nat.reduceAdd,Nat.reduceLT,Nat.zero_add,Nat.lt_add_left_iff_pos,decide_eq_true_eq,ite_true,ite_false,Bool.false_eq_true,if_true,if_false,Bool.not_eq_true',Bool.not_eq_true,decide_eq_false_iff_not,Int.zero_add,String.reduceBEq,Bool.true_and,Bool.and_true,Bool.or_false,Bool.false_or,Bool.or_true,Bool.true_or,Bool.and_false,Bool.false_and,Bool.not_true,Bool.not_false,id_eq,Sl.ctorIdx,Nat.succ_eq_add_one".splitOn ",").toArray.mapM λs => `(Lean.Parser.Tactic.simpLemma| $(Lean.mkIdent s.toName):ident))
 let h:=Lean.mkIdent `hW
 `(tactic| (refine'(?wf : Wk _ _) ?we ?wk ?wq; (case we => (intro $h:ident; simp only[$l,*] at $h:ident; exact $h)); (case wf => exactλ_ k q => k q); (case wk => (intro $h:ident; walk_at "wa"))))
local macro_rules | `(tactic| walk_at "wh") => do
 let h:=Lean.mkIdent `hW
 `(tactic| repeat (first | (with_reducible refine Exists.elim $h λ_ $h => ?_) | ((with_reducible refine And.elim (λe $h => ?_) $h); try subst e)))
local macro_rules | `(tactic| walk_at "ev") => do
 let l <- ("GZ,EW,IV,IW,G9,IX,G3,Cn,E4,EX,E5,E6,EZ,GY,Co,EY,G0,Cl,Ck,E3,G8,G5,Fb,Ct,G6,G7,Fc,Fa,E9,Cr,Cq,Cs,vN,yN".splitOn ",").toArray.mapM λs => `(Lean.Parser.Tactic.tacticSeq| with_reducible apply $(Lean.mkIdent s.toName))
 `(tactic| ((repeat' (first $[| $l]* | walk_at "wc")); done))
local macro_rules | `(tactic| walk_at "wc") => `(tactic| first | ((first | (with_reducible show _ = some (bi _)) | (with_reducible show _ = bi _) | (with_reducible show _ = List.map wD _) | (with_reducible show _ = bz _)); assumption) | exact rfl | with_reducible assumption | with_reducible exact fH _ | exact of_decide_eq_true rfl | exact BU rfl | ((first | (with_reducible show _ <= sizeLine) | (with_reducible show _ < sizeLine) | (with_reducible show _ = _) | (with_reducible show shp _)); assumption))
local macro_rules | `(tactic| walk_at "wa") => do
 let h:=Lean.mkIdent `hW
 let l <- ("Dj,Df,Dg,Dh,Di,Dl,AE,Dk,AA,w4,Ix,FU,FV".splitOn ",").toArray.mapM λs => `(Lean.Parser.Tactic.tacticSeq| (with_reducible apply $(Lean.mkIdent s.toName)); focus walk_at "ev")
 let m <- ("ws_seq,wg_name,wk_K,w_pop,w_popL,wx_set,wx_ret,wx_drop".splitOn ",").toArray.mapM λs => `(Lean.Parser.Tactic.tacticSeq| with_reducible apply $(Lean.mkIdent s.toName))
 `(tactic| (walk_at "wh"; repeat' (first | exact $h $[| $l]* $[| $m]* | walk_at "wc" | ((with_reducible show Ev _ _ _); walk_at "ev") | apply Exists.intro | refine And.intro rfl ?_ | (refine And.intro ?_ ?_; focus walk_at "wc") | refine And.intro ⟨_, rfl⟩ ?_ | refine And.intro ⟨_, _, rfl⟩ ?_ | (intro x; replace $h:ident := $h x; walk_at "wh") | (refine tJ rfl (fun $h => ?_) (fun $h => ?_) $h <;> walk_at "wh") | (refine AB (fun $h => ?_) (fun $h => ?_) $h <;> walk_at "wh") | (refine AC (fun $h => ?_) (fun $h => ?_) $h <;> walk_at "wh"))))
local macro_rules | `(tactic| walk_at "dN") => do
 let l <- ("hN,hM,hL".splitOn ",").toArray.mapM λs => let x := Lean.mkIdent s.toName; `(Lean.Parser.Tactic.tacticSeq| with_reducible (first | refine($x _).nx _ ?_ | refine($x _).ct _ ?_ | refine($x _).bk _ ?_ | refine($x _).rt _ _ ?_))
 `(tactic| ((first $[| $l]*); try walk_at "d2"))
local macro_rules | `(tactic| walk_at "dd") => `(tactic| ((first | (walk_at "d1"; try walk_at "d2") | (simp only[Int.zero_add]; walk_at "d1"; try walk_at "d2") | (walk_at "d2")); try walk_at "dN"))
local macro_rules | `(tactic| walk_at "dx") => `(tactic| (first | ((with_reducible refine nx ?_); try walk_at "dd") | walk_at "dd"); repeat ((with_reducible refine nx ?_); try walk_at "dd"))
def top(i:Nat):Stmt:=Ml.main.body.getD i (.Pass ⟨0,0,0,0⟩)
section
variable {P:ky}{w:k3}{K:cb}{mg:bt->Option av}{base:bg}
abbrev gM:Stmt:=top 41
def oC:ax ["_law_draws_here"] ["_law_draws_here"] (ad gM):={}
def sK(ds:List Int):Int:=ds.getLastD 0
def xr:DSp:=λss R=>∃ds:List Int,ss=[.io (li ds)]/\R (.fr (.int (sK ds))) [.io (li ds.dropLast)]
def Aa(a b:List Int):eA (.list (li a)) (.list (li b))=decide (a=b):=E7 a b
def BW(h:ds≠[]):(li ds).getLast? = some (.int (sK ds)):=by
 unfold sK;rw[List.getLast?_map,Lf];cases e:ds.getLast? with
 | none=>exact absurd (List.getLast?_eq_none_iff.mp e) h
 | some x=>rfl
def Cz(ds:List Int):(li ds).dropLast=li ds.dropLast:=by simp[List.map_dropLast]
def o4(F:Fun K "_law_pop" "_law_pop" gM f fd)(B:Bn mg):ca P w K mg base CX0 1 f fd ["_law_draws_here"] (spD K xr):=by
 refine okD (k:=0) F oC (λss R h=>?_) (!2) (λcdv A outer s H E a=>⟨_,(bB (gP (aF (GJ (K:=K) rfl a.units) mEq (qv 0) (b7 ac) (aU _)) (aj (a9 al)) bS)
   (aj (a9 (sH 0 (K:=K) rfl rfl)))),λss R h=>?_⟩)
 .obtain⟨ds,rfl,_⟩:=h;rfl
 obtain⟨ds,rfl,q⟩:=h;walk_at "dd";refine⟨JD _,(Sh.ints 0 ds).shp (!2),(Sh.ints 0 []).shp (!2),?_⟩;rw[show dy []=dy (li []) from rfl,Aa];by_cases e:ds=[]
 .subst e;rw[Mz (!1)];exact q
 .rw[MA (by simp[e])];exact⟨_,BW e,by rw[Cz];exact q⟩
def Fh(c:List Int)(a b:Option Int):tq (li c) a b=li ((c.drop (HT.sIx c.length 0 a)).take (HT.sIx c.length c.length b - HT.sIx c.length 0 a)):=by unfold tq;show(List.drop _ (eT eb c)).take _=eT eb _;rw[Je,Mo,Mp]
def rX(a:List Int)(c:Nat):tq (li a) (some (c:Int)) none=li (a.drop c):=by
 rw[Fh,HT.sIx_none,HT.sIx_nat];by_cases h:c<=a.length
 .rw[rd h,Kq (!1)]
 .rw[K6 (!0),Kp (Jx _),Kp (!0)];simp
def dO{l:List (List Int)}(h:k<l.length):l.getD k []∈l:=by rw[Jh,Ji h];exact JF h
abbrev gN:Stmt:=top 39
def jk:ax ["_law_cell", "_law_turn", "_law_number"] ["_law_cell", "_law_turn"] (ad gN):={}
def Dw:DSp:=λss R=>∃c t:Int,ss=[.fr (.int c),.fr (.int t)]/\0<=t/\t<100000/\∀x:Int,0<=x->x<2147483648->R (.fr (.int x)) [.un,.un]
def o5(F:Fun K "_law_mix" "_law_mix" gN f fd)(B:Bn mg):ca P w K mg base CX0 1 f fd ["_law_cell", "_law_turn"] (spD K Dw):=by
 refine okD (k:=0) F jk (λss R h=>?_) (!2) (λcdv A outer s H E b=>⟨_,(bB (aw (i:=2) jk.nd rfl ci (bX bO mIC (bX ff mIC (bX cr mI (bX cr mI (bX bO mIC (qv 0) al) (bX ff mIC (bX ff mIC (qv 1) (qv 1)) al)) al) al) al))
   (aj (a9 (bX bO mIC (bX cr mI (bX ff mIC (qv 2) (qv 2)) (bX ff mIC al (qv 1))) al)))),λss R h=>?_⟩)
 .obtain⟨c,t,rfl,_⟩:=h;rfl
 obtain⟨c,t,rfl,d,h1,q⟩:=h;walk_at "dx";have a1:=Kr ((c % 2147483647+t*t*7919+104729)*48271) (show(2147483647:Int)≠0 by decide);have a2:=Kc ((c % 2147483647+t*t*7919+104729)*48271) (show(0:Int)<2147483647 by decide);refine⟨!2,nB (!0) (!0),km (!2) (!2),km (!2) (!2),!2,?_⟩;have a:=Kr ((c % 2147483647+t*t*7919+104729)*48271 % 2147483647*((c % 2147483647+t*t*7919+104729)*48271 % 2147483647)+69621*t) (show(2147483629:Int)≠0 by decide);have e:=Kc ((c % 2147483647+t*t*7919+104729)*48271 % 2147483647*((c % 2147483647+t*t*7919+104729)*48271 % 2147483647)+69621*t) (show(0:Int)<2147483629 by decide);exact⟨nB (!0) (!0),nB (!2) (!2),!2,q _ a (!0)⟩
abbrev dj:Stmt:=top 40
def a8:ax ["_law_script", "_law_turn", "_law_many", "_law_cells", "_law_found", "_law_k", "_law_at", "_law_number", "_law_cell"] ["_law_script", "_law_turn", "_law_many"] (ad dj):={}
def Ds(l:List Int):Prop:=∀x∈l,0<=x/\x<2147483648
def Ds.app(h:Ds l)(b:0<=x)(h1:x<2147483648):Ds (l++[x]):=λy a=>by
 rcases Jj.mp a with a|a
 .exact h y a
 .rw[Jf.mp a];exact⟨b,h1⟩
def Ds.drop(h:Ds l):Ds l.dropLast:=λx hx=>h x (mJ hx)
def Ds.pop(h:Ds l):0<=sK l/\sK l<2147483648:=by
 unfold sK;rw[Lf];cases e:l.getLast? with
 | none=>exact⟨KK 0,!2⟩
 | some x=>exact h x (List.mem_of_getLast? e)
def uh:DSp:=λss R=>∃(a:List Int) (t m:Nat),ss=[.fr (.list (li a)),.fr (.int t),.fr (.int m)]/\a.length<=63/\t<=5000/\m<=5000/\∀l,Ds l->R (.ow (li l)) [.un,.un,.un]
def Hl(a:List Int)(h:a.length<=63):tq (li a) none (some 63)=li a:=by unfold tq;have e:HT.sIx (li a).length (li a).length (some 63)=min 63 (li a).length:=HT.sIx_nat _ _ 63;rw[e,HT.sIx_none,Je,Mi,LA,K6 h];exact Kq (!1)
def kR(F:Fun K "_law_draws" "_law_draws" dj f fd)(B:Bn mg)(a:Cal P w K mg base "_law_mix" 1 (spD K Dw)):ca P w K mg base CX0 2 f fd ["_law_script", "_law_turn", "_law_many"] (spD K uh):=by
 refine okD (k:=1) F a8 (λss R h=>?_) (!2) (λcdv A outer s H E v=>⟨_,(ae (aw (i:=3) a8.nd rfl (di rfl) (kF (eB (K:=K) rfl) yc (oJ (K:=K) rfl (qv 0) fS (fR al)) (b7 (aa (qf 1) ac))))
   (ae (gP (aF mr zX (bX bO mIC (bX dF mIC (aN (ai (K:=K) rfl) mIx (qv 3) al (λ_ _=>rfl)) al) al) al (aU _)) (ae (aw (i:=4) a8.nd rfl ci (b7 ac))
   (ae (dD PassesOwn.never rfl (cJ rfl B.range (aa (bX cr mI (bX dF mIC (qv 1) al) (qv 2)) ac)) (ak (i:=5) a8.nd rfl ci) (ae (aw (i:=6) a8.nd rfl ci (bX bO mIC (qv 5) (d8 (iA (K:=K) rfl) iw rfl B.len db (aa (qv 3) ac))))
   (ae (b9 (gr 4 (K:=K) rfl rfl (bX bO mIC (aN (ai (K:=K) rfl) mIx (qv 3) (qv 6) (λ_ _=>rfl)) al)))
   (aj (uK 3 rfl (qv 6) (bX dF mIC (aN (ai (K:=K) rfl) mIx (qv 3) (qv 6) (λ_ _=>rfl)) al))))))
   (aj (a9 (oJ (K:=K) rfl (qv 4) (fR (bX dF mIC (qv 1) al)) fS))))) bS)
   (ae (aw (i:=7) a8.nd rfl (di rfl) (qf 1))
   (ae (dD PassesOwn.never rfl (fT false (K:=K) rfl rfl B.enumerate (aa (qf 3) ac)) (dM (K:=K) (n:=2) rfl rfl (aK (ak (i:=5) a8.nd rfl ci) (aK (ak (i:=8) a8.nd rfl ci) cB))) (aj (aw (i:=7) a8.nd rfl (di rfl) (bX bO mIC (bX cr mI (bX ff mIC (qv 7) al) (aD a (v.mono (!2)) rfl (aa (qf 8) (aa (bX cr mI (qv 5) (qv 1)) ac)))) al))))
   (aj (a9 (bF (N':=["_law_k", "_law_turn", "_law_cells", "_law_number"]) (ix:=[none,some 1,some 3,some 7]) rfl (bP (N:=_::_) (sc0:=ad dj) rfl rfl (!3)) (cJ rfl B.range (aa (qv 2) ac)) (λ_ _ _ _=>(ak (i:=0) (!4) rfl ci)) (λ_ _ _ _=>aM) (λ_ _ _ _=>(aD a (v.mono (!2)) rfl (aa (aN (ai (K:=K) rfl) mIx (qv 2) (bX bO mIC (qv 0) (d8 (iA (K:=K) rfl) iw rfl B.len db (aa (qv 2) ac))) (λ_ _=>rfl)) (aa (bX cr mI (bX cr mI (bX bO mIC (qv 3) al) (qv 0)) (qv 1)) ac))))))))))),λss R h=>?_⟩)
 .obtain⟨c,t,m,rfl,_⟩:=h;rfl
 obtain⟨c,t,m,rfl,o,J,L,q⟩:=h;walk_at "dx";rw[Hl c o];have C:li c++[eb (t:Int)]=li (c++[(t:Int)]):=!1
 rw[C];obtain⟨cs,e⟩:∃cs:List Int,cs=c++[(t:Int)]:=⟨_,rfl⟩
 have y:cs.length=c.length+1:=by rw[e];simp
 rw[<-e];refine⟨Jt (!2) af,?_,?_⟩
 .rw[Je];exact Jt (!0) af
 walk_at "dx";refine⟨_,dP (k:=0) (!0),?_⟩;walk_at "dx";refine⟨⟨!2,!2⟩,!2,cw (λ_=>?_) (λ_=>?_)⟩
 .have e4:(t:Int) / 4=((t / 4:Nat):Int):=rfl;refine⟨JD _,?_⟩;walk_at "dx";refine⟨⟨!2,!2⟩,!0,!0,cR (λi env=>∃(fs ls:List Int) (kv p:Sl),env=[.fr (.list (li c)),.fr (.int t),.fr (.int m),.ow (li ls),.ow (li fs),kv,p,.un,.un]/\ls.length=cs.length/\fs.length=i/\Ds fs) ⟨[],cs,_,_,rfl,rfl,rfl,λx hx=>by cases hx⟩ ?_ ?_⟩
  .rintro i env hi ⟨fs,ls,kv,p,rfl,g,r,hd⟩;rw[aA] at hi;rw[bf];have b:i % ls.length<ls.length:=sn _ (!0);walk_at "dx";rw[Je];have D:((i:Nat):Int) % ((ls.length:Nat):Int)=((i % ls.length:Nat):Int):=rfl;rw[D];refine⟨!0,?_⟩;walk_at "dx";refine⟨_,dP b,?_⟩;walk_at "dx";refine⟨!2,by rw[Je,r];exact Jp (!0) af,?_⟩;walk_at "dx";refine⟨_,dP b,?_⟩;walk_at "dx";have j:=Kr (ls.getD (i % ls.length) 0) (show(1000003:Int)≠0 by decide);have z:=Kc (ls.getD (i % ls.length) 0) (show(0:Int)<1000003 by decide);exact⟨⟨!2,!2⟩,_,vB (by rw[Je];exact b),fs++[ls.getD (i % ls.length) 0 % 1000003],ls.set (i % ls.length) (ls.getD (i % ls.length) 0 / 1000003),Eu _ _ _,!1,by rw[yn];exact g,by simp[r],hd.app j (!0)⟩
  .rintro env ⟨fs,ls,kv,p,rfl,g,r,hd⟩;walk_at "dx";rw[e4,rX];exact⟨⟨!2,!2⟩,q _ λx hx=>hd x (KZ hx)⟩
 .walk_at "dx";refine cR (λi env=>∃(n:Int) (kv cv:Sl),env=[.fr (.list (li c)),.fr (.int t),.fr (.int m),.fr (.list (li cs)),.un,kv,.un,.fr (.int n),cv]/\0<=n/\n<2147483648) ⟨t,_,_,rfl,!0,!0⟩ ?_ ?_
  .rintro i env hi ⟨n,kv,cv,rfl,G,I⟩;rw[cH,c7];rw[aP,Je] at hi;walk_at "dx";refine⟨nB (by omega +splitDisjunctions) (by omega +splitDisjunctions),_,_,rfl,by omega +splitDisjunctions,by omega +splitDisjunctions,λx x0 x1=>?_⟩;walk_at "dx";have j:=Kr (n*31+x) (show(2147483629:Int)≠0 by decide);have z:=Kc (n*31+x) (show(0:Int)<2147483629 by decide);exact⟨!2,j,!0⟩
  .rintro env ⟨n,kv,cv,rfl,G,I⟩;walk_at "dx";refine⟨by omega +splitDisjunctions,by omega +splitDisjunctions,Al (λd=>∃x:Int,d=.int x/\0<=x/\x<2147483648) (by rw[aA];omega) (λi hi Q hQ=>?_) λrs _ u=>?_⟩
   .rw[aA] at hi;rw[bf];walk_at "dx";rw[Je];have b:i % cs.length<cs.length:=sn _ (!0);rw[show((i:Nat):Int) % ((cs.length:Nat):Int)=((i % cs.length:Nat):Int) from rfl];have j:=Kr n (show(1009:Int)≠0 by decide);have z:=Kc n (show(0:Int)<1009 by decide);refine⟨!0,_,dP b,!2,_,_,rfl,!0,!0,λx x0 x1=>?_⟩;walk_at "dx";exact hQ _ ⟨x,rfl,x0,x1⟩
   .obtain⟨l,rfl,g⟩:=lH u;walk_at "dx";exact q l g
abbrev cA:Stmt:=top 42
def bq:ax ["_law_draws_here", "_law_most", "_law_number", "_law_hands", "_law_left", "_law_spans", "_law_k"] ["_law_draws_here", "_law_most"] (ad cA):={}
def TB(s o:List Int):Prop:=1<=s.length/\s.length<=6/\1<=o.length/\o.length<=6/\(∀x∈s,1<=x/\x<=12)/\(∀x∈o,0<=x/\x<=6)/\(s.length<=4\/∀x∈o,x<=2)
def jr:List Int->Nat
 | []=>1
 | x::s=>x.toNat*jr s
def sJ(s:List Int)(x:Int):jr (s++[x])=jr s*x.toNat:=by
 induction s with
 | nil=>show x.toNat*1=1*x.toNat;omega
 | cons y s a=>show y.toNat*jr (s++[x])=y.toNat*jr s*x.toNat;rw[a,J7]
def yh(h:L*p<=q)(a:l<=L)(y:Nat)(e:L / y*y<=L):L / y*(p*y)<=q:=by rw[<-J7,Nat.mul_right_comm];exact Jt (Kd _ e) h
def zr:DSp:=λss R=>∃(l:List Int) (m:Nat),ss=[.io (li l),.fr (.int m)]/\Ds l/\6<=m/\m<=100000/\∀s o a:List Int,Ds a->TB s o->o.length*jr s<=m->R (.fr (.tuple [.list (li s),.list (li o)])) [.io (li a),.un]
def zc(xs:List α)(v:α):atI (xs++[v]) (-1)=some v:=by unfold atI ixN;rw[MA (!2),Mz (by rw[Jz];simp;omega)];show(xs++[v])[(-1+((xs++[v]).length:Int)).toNat]? = some v;rw[show(-1+((xs++[v]).length:Int)).toNat=xs.length by rw[Jz];simp;omega];simp
def mE(F:Fun K "_law_town" "_law_town" cA f fd)(B:Bn mg)(a:Cal P w K mg base "_law_pop" 1 (spD K xr)):ca P w K mg base CX0 2 f fd ["_law_draws_here", "_law_most"] (spD K zr):=by
 refine okD (k:=1) F bq (λss R h=>?_) (!2) (λcdv A outer s H E D=>⟨_,(ae (aw (i:=2) bq.nd rfl ci (dE 0 a (D.mono (!2)) rfl (aa (qv 0) ac)))
   (ae (gO (i:=3) 1 0 rfl bq.nd rfl rfl (N':=["_law_k", "_law_draws_here"]) (ix:=[none,some 0]) rfl (bP (N:=_::_) (sc0:=ad cA) rfl rfl (!3)) (cJ rfl B.range (aa (bX cr mI al (bX bO mIC (qv 2) al)) ac)) (λ_ _ _ _=>(ak (i:=0) (!4) rfl ci)) (λ_ _ _ _=>aM) (λ_ _ _ _=>(bX bO mIC (dE 0 a (D.mono (!2)) rfl (aa (qv 1) ac)) al)))
   (uI (gP (aF El mB (bX bO mIC (bX dF mIC (qv 2) al) al) al (aU _)) (aj (bV (i:=3)  bq.nd rfl rfl (N':=["_law_one"]) (ix:=[none]) rfl (bP (N:=_::_) (sc0:=ad cA) rfl rfl (!3)) (aH (K:=K) rfl (qf 3)) (λ_ _ _ _=>(ak (i:=0) (!4) rfl ci)) (λ_ _ _ _=>aM) (λ_ _ _ _=>(bX cr mI al (bX bO mIC (qv 0) al))))) bS)
   (uI (gP (aF mr zX (bX bO mIC (bX dF mIC (qv 2) al) al) al (aU _)) (aj (gO (i:=3) 1 0 rfl bq.nd rfl rfl (N':=["_law_k", "_law_draws_here"]) (ix:=[none,some 0]) rfl (bP (N:=_::_) (sc0:=ad cA) rfl rfl (!3)) (cJ rfl B.range (aa (bX cr mI al (bX bO mIC (bX dF mIC (qv 2) al) al)) ac)) (λ_ _ _ _=>(ak (i:=0) (!4) rfl ci)) (λ_ _ _ _=>aM) (λ_ _ _ _=>(bX bO mIC (dE 0 a (D.mono (!2)) rfl (aa (qv 1) ac)) al)))) bS)
   (ae (aw (i:=4) bq.nd rfl ci (bX dF mIC (qv 1) (d8 (iA (K:=K) rfl) iw rfl B.len db (aa (qv 3) ac))))
   (ae (aw (i:=5) bq.nd rfl ci (b7 ac))
   (ae (dD PassesOwn.never rfl (cJ rfl B.range (aa (bX cr mI al (bX bO mIC (dE 0 a (D.mono (!2)) rfl (aa (qv 0) ac)) (aN (ai (K:=K) rfl) mIx (b7 (aa al (aa al (aa al ac)))) (bX bO mIC (bX dF mIC (qv 2) al) al) (λ_ _=>rfl)))) ac)) (ak (i:=6) bq.nd rfl ci) (ae (b9 (gr 5 (K:=K) rfl rfl (bX cr mI al (bX bO mIC (dE 0 a (D.mono (!2)) rfl (aa (qv 0) ac)) (d8 (wo rfl) IH rfl B.min wi (aa al (aa (qv 4) ac)))))))
   (aj (aw (i:=4) bq.nd rfl ci (bX dF mIC (qv 4) (aN (ai (K:=K) rfl) mIx (qv 5) (zL gc zW al) (λ_ _=>rfl)))))))
   (aj (a9 (cQ (aa (qf 5) (aa (qf 3) ac)))))))))))),λss R h=>?_⟩)
 .obtain⟨l,m,rfl,_⟩:=h;rfl
 obtain⟨l,m,rfl,dl,W,Z,q⟩:=h;walk_at "dx";refine⟨l,rfl,?_⟩;walk_at "dx";have p0:=dl.pop;have I:=dl.drop;generalize sK l=num at *;generalize l.dropLast=l1 at *;refine⟨!2,!0,!0,λi rs l=>∃(b n:List Int),rs=li b/\l=li n/\b.length=i/\Ds n/\∀x∈b,0<=x/\x<=2,_,_,rfl,rfl,⟨[],l1,rfl,rfl,rfl,I,!1⟩,?_,?_⟩
 .rintro i rs l hi ⟨b,n,rfl,rfl,j,o,v⟩;rw[aA] at hi;rw[bf];refine⟨by rw[Je,j];exact Jp (!0) af,_,rfl,?_⟩;walk_at "dx";refine⟨n,rfl,?_⟩;walk_at "dx";refine⟨!2,b++[sK n % 3],!1,n.dropLast,rfl,by simp[j],o.drop,λx hx=>?_⟩;rcases Jj.mp hx with hx|hx
  .exact v x hx
  .rw[Jf.mp hx];omega
 rintro rs l ⟨b,l2,rfl,rfl,j,G,v⟩;rw[aA] at j;refine⟨_,rfl,?_⟩;walk_at "dx";refine⟨λenv=>∃g:List Int,env=[.io (li l2),.fr (.int m),.fr (.int num),.ow (li g),.un,.un,.un]/\1<=g.length/\g.length<=6/\∀x∈g,0<=x/\x<=2,?_,?_⟩
 .walk_at "dx";refine⟨⟨!2,!2⟩,!2,cw (λ_=>?_) (λ_=>⟨b,rfl,!0,!0,v⟩)⟩;refine Al (λd=>∃x:Int,d=.int x/\0<=x/\x<=2) (by rw[Je];omega) (λi hi Q hQ=>?_) λrs J M=>?_
  .rw[c7];walk_at "dx";exact⟨!2,hQ _ ⟨_,rfl,!0,!0⟩⟩
  .obtain⟨g,rfl,r⟩:=lH M;walk_at "dx";rw[Je,Je] at J;exact⟨g,rfl,!0,!0,r⟩
 rintro env ⟨g,rfl,h1,h6,r⟩;refine⟨λenv=>∃(g u:List Int),env=[.io (li u),.fr (.int m),.fr (.int num),.ow (li g),.un,.un,.un]/\Ds u/\1<=g.length/\g.length<=6/\(∀x∈g,0<=x/\x<=6)/\(num / 27 % 3=1\/∀x∈g,x<=2),?_,?_⟩
 .walk_at "dx";refine⟨⟨!2,!2⟩,!2,cw (λV=>?_) (λ_=>⟨g,l2,rfl,rfl,G,h1,h6,λx hx=>by have:=r x hx;omega,.inr λx hx=>(r x hx).2⟩)⟩;refine⟨⟨!2,!2⟩,!2,!0,!0,λi rs l=>∃(b n:List Int),rs=li b/\l=li n/\b.length=i/\Ds n/\∀x∈b,0<=x/\x<=6,_,_,rfl,rfl,⟨[],l2,rfl,rfl,rfl,G,!1⟩,?_,?_⟩
  .rintro i rs l hi ⟨b,n,rfl,rfl,j,o,v⟩;rw[aA] at hi;rw[bf];refine⟨by rw[Je,j];exact Jp (!0) af,_,rfl,?_⟩;walk_at "dx";refine⟨n,rfl,?_⟩;walk_at "dx";refine⟨!2,b++[sK n % 7],!1,n.dropLast,rfl,by simp[j],o.drop,λx hx=>?_⟩;rcases Jj.mp hx with hx|hx
   .exact v x hx
   .rw[Jf.mp hx];omega
  rintro rs l ⟨O,u,rfl,rfl,j,t,v⟩;rw[aA] at j;refine⟨_,rfl,?_⟩;walk_at "dx";exact⟨O,u,rfl,rfl,t,!0,!0,v,.inl (!0)⟩
 rintro env ⟨g,u,rfl,t,h1,h6,S,T⟩;walk_at "dx";rw[Je];obtain⟨c,X,c3,c6,V⟩:∃c:Int,atI [eb 3,eb 4,eb 6] (num / 27 % 3)=some (.int c)/\3<=c/\c<=6/\(num / 27 % 3=1->c=4):=by
  have:num / 27 % 3=0\/num / 27 % 3=1\/num / 27 % 3=2:=!0
  rcases this with e|e|e
  .rw[e];exact⟨3,rfl,!2,!2,!2⟩
  .rw[e];exact⟨4,rfl,!2,!2,λ_=>rfl⟩
  .rw[e];exact⟨6,rfl,!2,!2,!2⟩
 have hp:=t.pop;have U:=t.drop;refine⟨⟨by omega +splitDisjunctions,by omega +splitDisjunctions⟩,?_⟩;walk_at "dx";refine⟨JD _,?_⟩;walk_at "dx";refine⟨u,rfl,?_⟩;walk_at "dx";refine⟨Jt (!2) af,⟨!2,!2⟩,!2,_,X,_,rfl,by omega +splitDisjunctions,?_⟩;generalize sK u=p3 at *;generalize u.dropLast=l4 at *;have u0:=Kr p3 (show c≠0 by omega);have u1:=Kc p3 (show 0<c by omega);have m1:1<=(m:Int) / (g.length:Int):=by rw[LD (!0)];omega
 have m2:g.length*(((m:Int) / (g.length:Int)).toNat*jr [])<=m:=by show g.length*(((m / g.length:Nat):Int).toNat*1)<=m;rw[JN,Nat.mul_one];exact Nat.mul_div_le _ _
 refine⟨!0,!0,cR (λi env=>∃(l sp:List Int) (left:Int) (kv:Sl),env=[.io (li l),.fr (.int m),.fr (.int num),.ow (li g),.fr (.int left),.ow (li sp),kv]/\Ds l/\sp.length=i/\1<=left/\g.length*(left.toNat*jr sp)<=m/\∀x∈sp,1<=x/\x<=12) ⟨l4,[],_,_,rfl,U,rfl,m1,m2,!1⟩ ?_ ?_⟩
 .rintro i env hi ⟨l,sp,left,kv,rfl,dl,j,l1,z,C⟩;rw[aA] at hi;rw[bf];walk_at "dx";refine⟨l,rfl,?_⟩;walk_at "dx";have o:=dl.drop;generalize sK l=p at *;generalize l.dropLast=l5 at *;obtain⟨w,hw⟩:∃w:Int,w=if left<12 then left else 12:=⟨_,rfl⟩
  rw[<-hw];have w1:1<=w/\w<=12/\w<=left:=by rw[hw];split <;> omega
  have y0:=Kr p (show w≠0 by omega);have y1:=Kc p (show 0<w by omega);generalize p % w=y at *;refine⟨!0,by rw[Je,j];exact Jp (!0) af,?_⟩;walk_at "dx";refine⟨_,zc _ _,_,rfl,⟨!0,!0⟩,l5,rfl,sp++[1+y],!1,o,by simp[j],?_,?_,λx hx=>?_⟩
  .rw[LD (!0)];omega
  .rw[sJ];refine Jt (LQ _ ?_) z;obtain⟨L,rfl⟩:∃L:Nat,left=(L:Int):=⟨left.toNat,!0⟩
   obtain⟨Y,hY⟩:∃Y:Nat,1+y=(Y:Int):=⟨(1+y).toNat,!0⟩
   rw[hY,show((L:Int) / (Y:Int)).toNat=L / Y from rfl,JN,JN];exact yh (l:=0) (Jx _) (JD _) Y (Nat.div_mul_le_self L Y)
  .rcases Jj.mp hx with hx|hx
   .exact C x hx
   .rw[Jf.mp hx];omega
 .rintro env ⟨l,sp,left,kv,rfl,dl,j,l1,z,C⟩;rw[aA] at j;walk_at "dx";refine⟨Jt (!2) af,q sp g l dl ⟨!0,!0,h1,h6,C,S,?_⟩ (Jt (LQ _ (Nat.le_mul_of_pos_left _ (!0))) z)⟩;rcases T with h|h
  .have:=V h;exact .inl (!0)
  .exact .inr h
def cT:Nat->List (List Int)
 | 0=>[[]]
 | k+1=>cT k++(cT k).map (·++[(k:Int)])
def c9(l:List Int)(n:Nat):List Int:=((cu n).filter λi=>decide (l.getD i 0=1)).map (ry:Nat->Int)
def cD(h:Int)(a r:List Int):Bool:=decide ((r.length:Int)<=h)&&decide ((a.filter λc=>decide (c ∉ r))=[])
def fJ(n:Nat)(h:Int)(l:List Int):List (List Int):=(cT n).filter (cD h (c9 l n))
def EI(r:List Int):ah:=.tuple [.int r.length,.list (li r)]
theorem gd:∀n,(cT n).length=2 ^ n
 | 0=>rfl
 | n+1=>by
  show(cT n++(cT n).map _).length=_;rw[Jz,Je,gd n,Nat.pow_succ];omega
theorem bR:∀n,∀r∈cT n,r.length<=n/\r.Pairwise (·<·)/\∀x∈r,0<=x/\x<n
 | 0,r,h=>by
  rw[Jf.mp h];simp
 | n + 1,r,h=>by
  rcases Jj.mp h with h|h
  .obtain⟨a,b,c⟩:=bR n r h;exact⟨!0,b,λx hx=>by have:=c x hx;omega⟩
  .obtain⟨d,h',rfl⟩:=Jk.mp h;obtain⟨a,b,c⟩:=bR n d h';refine⟨by simp;omega,LH.mpr ⟨b,!1,λx hx y e=>?_⟩,λx hx=>?_⟩
   .rw[Jf.mp e];have:=c x hx;omega
   .rcases Jj.mp hx with hx|hx
    .have:=c x hx;omega
    .rw[Jf.mp hx];omega
theorem iD{α:Type}{p q:α->Bool}(h:∀x,p x=true->q x=true):∀l:List α,(l.filter p).length<=(l.filter q).length
 | []=>Jx _
 | x :: l=>by
  have b:=iD h l;by_cases a:p x=true
  .rw[Ka a,Ka (h x a)];simpa using b
  .rw[Kw a];by_cases hq:q x=true
   .rw[Ka hq];simp;omega
   .rw[Kw hq];exact b
def hJ(hn:n<=6)(d:n<=4\/h<=3):(fJ n h l).length<64:=by
 rcases d with h4|h2
 .have a:=JQ (cD h (c9 l n)) (cT n);rw[gd] at a;have:2 ^ n<=2 ^ 4:=K0 (!2) h4;unfold fJ;omega
 .have a:(fJ n h l).length<=((cT n).filter λr=>decide (r.length<=3)).length:=iD (λr c=>by
   unfold cD at c;rw[JT,decide_eq_true_eq] at c;rw[decide_eq_true_eq];omega) _
  have b:∀n:Nat,n<=6->((cT n).filter λr=>decide (r.length<=3)).length<=42:=by
   intro n hn
   match n,hn with
   | 0,_=>decide
   | 1,_=>decide
   | 2,_=>decide
   | 3,_=>decide
   | 4,_=>decide
   | 5,_=>decide +kernel
   | 6,_=>decide +kernel
  have:=b n hn;omega
def aY{l:List Int}(h:k<l.length):l.getD k 0∈l:=by rw[Jh,Ji h];exact JF h
def StB(s o:List Int)(d:Nat)(l:List Int):Prop:=d<o.length/\l.length=s.length
abbrev bU:Stmt:=top 44
def bE:ax ["_law_town_here", "_law_standing_here", "_law_found", "_law_clocks", "_law_due", "_law_rows_here", "_law_clock", "_law_row"] ["_law_town_here", "_law_standing_here"] (ad bU):={}
inductive Ig (s o l:List Int) (d i:Nat):List Sl->Prop
 | mk (cv:Sl) (rs:List ah):rs=lr (cT i)->Ig s o l d i [.fr (.tuple [.list (li s),.list (li o)]),.fr (.tuple [.int d,.tuple (li l)]),.ow [],.fr (.list (li (eT (ry:Nat->Int) (cu s.length)))),.fr (.list (li (c9 l s.length))),.ow rs,cv,.un]
inductive Ie (s o l:List Int) (d:Nat) (cv:Sl) (i:Nat):List Sl->Prop
 | mk (rv:Sl) (fs:List ah):fs=(((cT s.length).take i).filter (cD (o.getD d 0) (c9 l s.length))).map EI->Ie s o l d cv i [.fr (.tuple [.list (li s),.list (li o)]),.fr (.tuple [.int d,.tuple (li l)]),.ow fs,.fr (.list (li (eT (ry:Nat->Int) (cu s.length)))),.fr (.list (li (c9 l s.length))),.fr (.list (lr (cT s.length))),cv,rv]
def zt:DSp:=λss R=>∃(s o l:List Int) (d:Nat),ss=[.fr (.tuple [.list (li s),.list (li o)]),.fr (.tuple [.int d,.tuple (li l)])]/\TB s o/\StB s o d l /\
 ∀a:List (List Int),a.Perm (fJ s.length (o.getD d 0) l)->R (.ow (lr a)) [.un,.un]
def mF(F:Fun K "_law_rows" "_law_rows" bU f fd)(B:Bn mg):ca P w K mg base CX0 1 f fd ["_law_town_here", "_law_standing_here"] (spD K zt):=by
 refine okD (k:=0) F bE (λss R h=>?_) (!2) (λcdv A outer s H E m=>⟨_,(ae (aw (i:=2) bE.nd rfl ci (b7 ac))
   (ae (bV (i:=3)  bE.nd rfl rfl (N':=["_law_clock"]) (ix:=[none]) rfl (bP (N:=_::_) (sc0:=ad bU) rfl rfl (!3)) (cJ rfl B.range (aa (d8 (iA (K:=K) rfl) iw rfl B.len db (aa (aN (ai (K:=K) rfl) mIx (qv 0) al (λ_ _=>rfl)) ac)) ac)) (λ_ _ _ _=>(ak (i:=0) (!4) rfl ci)) (λ_ _ _ _=>aM) (λ_ _ _ _=>(qf 0)))
   (ae (bV (i:=4)  bE.nd rfl rfl (N':=["_law_clock", "_law_standing_here"]) (ix:=[none,some 1]) rfl (bP (N:=_::_) (sc0:=ad bU) rfl rfl (!3)) (aH (K:=K) rfl (qf 3)) (λ_ _ _ _=>(ak (i:=0) (!4) rfl ci)) (λ_ _ _ _=>(dB (aF mr zX (aN (ai (K:=K) rfl) mIx (aN (ai (K:=K) rfl) mIx (qv 1) al (λ_ _=>rfl)) (qv 0) (λ_ _=>rfl)) al (aU _)))) (λ_ _ _ _=>(qf 0)))
   (DL 4 (ae (aw (i:=5) bE.nd rfl ci (b7 (aa (b7 ac) ac)))
   (ae (dD PassesOwn.never rfl (aH (K:=K) rfl (qf 3)) (ak (i:=6) bE.nd rfl (di rfl)) (aj (aw (i:=5) bE.nd rfl ci (kF (eB (K:=K) rfl) yc (qv 5) (bF (N':=["_law_row", "_law_clock"]) (ix:=[none,some 6]) rfl (bP (N:=_::_) (sc0:=ad bU) rfl rfl (!3)) (aH (K:=K) rfl (qf 5)) (λ_ _ _ _=>(ak (i:=0) (!4) rfl ci)) (λ_ _ _ _=>aM) (λ_ _ _ _=>(kF (eB (K:=K) rfl) yc (qv 0) (b7 (aa (qf 1) ac)))))))))
   (ae (dD PassesOwn.never rfl (aH (K:=K) rfl (qf 5)) (ak (i:=7) bE.nd rfl (di rfl)) (aj (gP (PW.pt (qK (aF Ei mB (d8 (iA (K:=K) rfl) iw rfl B.len db (aa (qv 7) ac)) (aN (ai (K:=K) rfl) mIx (aN (ai (K:=K) rfl) mIx (qv 0) al (λ_ _=>rfl)) (aN (ai (K:=K) rfl) mIx (qv 1) al (λ_ _=>rfl)) (λ_ _=>rfl)) (aU _)) (kE (aF (GJ (K:=K) rfl m.units) mEq (bF (N':=["_law_clock", "_law_row"]) (ix:=[none,some 7]) rfl (bP (N:=_::_) (sc0:=ad bU) rfl rfl (!3)) (aH (K:=K) rfl (qf 4)) (λ_ _ _ _=>(ak (i:=0) (!4) rfl ci)) (λ_ _ _ _=>(dB (aF (EM (K:=K) rfl) Er (qv 0) (qv 1) (by with_unfolding_all rfl)))) (λ_ _ _ _=>(qf 0))) (b7 ac) (aU _))))) (aj (b9 (gr 2 (K:=K) rfl rfl (cQ (aa (d8 (iA (K:=K) rfl) iw rfl B.len db (aa (qv 7) ac)) (aa (qf 7) ac)))))) bS)))
   (aj (a9 (bF (N':=["_law_many", "_law_row"]) (ix:=[none,none]) rfl (bP (N:=_::_) (sc0:=ad bU) rfl rfl (!3)) (aH (K:=K) rfl (zM rp (K:=K) rfl (jo m) rfl B.sorted (aa (qv 2) ac))) (λ_ _ _ _=>(dM (K:=K) (n:=2) rfl rfl (aK (ak (i:=0) (!4) rfl ci) (aK (ak (i:=1) (!4) rfl ci) cB)))) (λ_ _ _ _=>aM) (λ_ _ _ _=>(qf 1)))))))))))),λss R h=>?_⟩)
 .obtain⟨s,o,l,d,rfl,_⟩:=h;rfl
 obtain⟨s,o,l,d,rfl,tb,I,q⟩:=h;obtain⟨t1,t2,S,T,U,V,C⟩:=tb;obtain⟨s1,s2⟩:=I;walk_at "dx";refine⟨JD _,?_⟩;walk_at "dx";rw[Je];refine⟨!0,!0,bT (λi=>.int (i:Int)) (by rw[aA];omega) (λi hi Q hQ=>?_) ?_⟩
 .rw[bf];walk_at "dx";exact hQ
 rw[aA,JN,iS];walk_at "dx";refine bY (λi=>decide (l.getD i 0=1)) (λi=>.int (i:Int)) (by simp;omega) (λi hi Q J h1 h2=>?_) ?_
 .rw[Je,Je,Kh] at hi;rw[c7];have y:(eT (ry:Nat->Int) (cu s.length)).getD i 0=(i:Int):=by simp[Jh,hi]
  rw[y];walk_at "dx";refine⟨_,dP (k:=i) (!0),?_⟩;walk_at "dx";exact cw (λh=>h1 (by simpa using h)) (λh=>h2 (by simpa using h))
 walk_at "dx";have L:eT (λ(i:Nat)=>eb (i:Int)) (lv (λ(i:Nat)=>decide (l.getD i 0=1)) (cu (li (eT (ry:Nat->Int) (cu s.length))).length))=li (c9 l s.length):=by rw[Je,Je,Kh];unfold c9;show _=eT _ (eT _ _);rw[JI];rfl
 rw[L];refine⟨JD _,Jt (!2) af,?_⟩;walk_at "dx";refine iG (Ig s o l d) (.mk _ _ rfl) (λE hN=>?_) ?_
 .rintro i env hi ⟨cv,_,rfl⟩;rw[Je,Je,Kh] at hi;rw[c7];have y:(eT (ry:Nat->Int) (cu s.length)).getD i 0=(i:Int):=by simp[Jh,hi]
  rw[y];have hz:(cT i).length<=32:=by rw[gd];have:2 ^ i<=2 ^ 5:=K0 (!2) (!0);omega
  walk_at "dx";refine bT (λj=>.list (li ((cT i).getD j []++[(i:Int)]))) (by rw[Je];omega) (λj hj Q hQ=>?_) ?_
  .rw[Je] at hj;rw[fN];have m:=(bR i _ (dO (l:=cT i) hj)).1;walk_at "dx";refine⟨Jt (!2) af,by rw[Je];exact Jt (!0) af,?_⟩;rw[kX];exact hQ
  .rw[Je,aT (cT i) [] (λr=>dy (li (r++[(i:Int)])))];have e:lr (cT i)++(cT i).map (λr=>dy (li (r++[(i:Int)])))=lr (cT (i+1)):=by
    show _=eT _ (cT i++_);rw[Jy,JI];rfl
   walk_at "dx";refine⟨?_,(hN _).nx _ (.mk _ _ e)⟩;rw[Je,Je];exact Jt (!0) af
 rintro env ⟨cv,_,rfl⟩;rw[Je,Je,Kh];walk_at "dx";refine iG (Ie s o l d cv) (.mk _ _ rfl) (λE hN=>?_) ?_
 .rintro i env hi ⟨rv,_,rfl⟩;rw[Je] at hi;rw[fN];have p:=dO (l:=cT s.length) hi;obtain⟨W,X,Y⟩:=bR _ _ p;have D:((cT s.length).take (i+1)).filter (cD (o.getD d 0) (c9 l s.length))=((cT s.length).take i).filter (cD (o.getD d 0) (c9 l s.length))++(if cD (o.getD d 0) (c9 l s.length) ((cT s.length).getD i [])=true then [(cT s.length).getD i []] else []):=by
   have t:(cT s.length).getD i []=(cT s.length)[i]:=by simp[Jh,hi]
   rw[J6,Ji hi,t,Kb];show _++lv _ [_]=_;generalize o.getD d 0=oh;cases hg:cD oh (c9 l s.length) (cT s.length)[i] <;> simp[hg]
  have hz:(((cT s.length).take i).filter (cD (o.getD d 0) (c9 l s.length))).length<=64:=by refine Jt (JQ _ _) ?_;rw[JZ,gd];have:2 ^ s.length<=2 ^ 6:=K0 (!2) t2;omega
  have a:∀g u,g=(((cT s.length).take i).filter (cD (o.getD d 0) (c9 l s.length))++(if cD (o.getD d 0) (c9 l s.length) ((cT s.length).getD i [])=true then [(cT s.length).getD i []] else [])).map EI->(E i).nx [.fr (.tuple [.list (li s),.list (li o)]),.fr (.tuple [.int d,.tuple (li l)]),.ow g,.fr (.list (li (eT (ry:Nat->Int) (cu s.length)))),.fr (.list (li (c9 l s.length))),.fr (.list (lr (cT s.length))),cv,u]:=λg u e=>(hN _).nx _ (.mk _ _ (by rw[D];exact e));clear hN D;generalize ((cT s.length).take i).filter (cD (o.getD d 0) (c9 l s.length))=fs at *;generalize (cT s.length).getD i []=r at *;have M:(c9 l s.length).length<=6:=by unfold c9;rw[Je];refine Jt (JQ _ _) ?_;rw[Kh];exact t2
  walk_at "dx";refine⟨_,dP s1,?_⟩;walk_at "dx";rw[Je];refine cw (λb=>?_) (λb=>?_)
  rotate_left
  .have t:cD (o.getD d 0) (c9 l s.length) r=false:=by
    unfold cD;rw[decide_eq_false b,KY]
   rw[t,MA (!2),JM] at a;exact a _ _ rfl
  refine bY (λj=>decide ((c9 l s.length).getD j 0 ∉ r)) (λj=>.int ((c9 l s.length).getD j 0)) (by rw[Je];omega) (λj hj Q J h1 h2=>?_) ?_
  .rw[c7];walk_at "dx";generalize (c9 l s.length).getD j 0=c at *;exact cw (λh=>h1 (decide_eq_true h)) (λh=>h2 (decide_eq_false h))
  rw[Je,bK (c9 l s.length) 0 (λc=>decide (c ∉ r)) (λc=>eb c)];walk_at "dx";rw[show dy []=dy (li []) from rfl,Aa];refine⟨JD _,(Sh.ints 0 _).shp (!2),(Sh.ints 0 []).shp (!2),?_⟩;have t:cD (o.getD d 0) (c9 l s.length) r=decide (((c9 l s.length).filter λc=>decide (c ∉ r))=[]):=by unfold cD;rw[decide_eq_true b,K8]
  rw[t] at a;refine cw (λp=>?_) (λp=>?_)
  .rw[Mz p,Jy] at a;refine⟨Jt (!2) af,by rw[Je];exact Jp (!0) af,?_⟩;exact a _ _ (by rw[Je];rfl)
  .rw[MA p,JM] at a;exact a _ _ rfl
 .rintro env ⟨rv,_,rfl⟩;rw[Je,Kq (Jx _)];walk_at "dx";have Z:∀r∈(cT s.length).filter (cD (o.getD d 0) (c9 l s.length)),r.length<=1000:=λr m=>by
   have:=(bR _ r (JB.mp m).1).1;omega
  refine⟨λx hx=>?_,?_,λes z=>?_⟩
  .obtain⟨r,_,rfl⟩:=Jk.mp hx;exact⟨r.length,r,rfl⟩
  .rw[Je];refine hJ t2 (C.imp (λh=>h) λh=>by have:=h _ (aY s1);omega)
  .obtain⟨v,G,rfl⟩:=cY z _ rfl;have hl:=G.length_eq;have hf:((cT s.length).filter (cD (o.getD d 0) (c9 l s.length))).length<64:=hJ t2 (C.imp (λh=>h) λh=>by have:=h _ (aY s1);omega);refine bT (λj=>.list (li (v.getD j []))) (by rw[Je];omega) (λj hj Q hQ=>?_) ?_
   .rw[Je] at hj;have O:(eT EI v)[j]'(by simpa using hj)=EI (v.getD j []):=by simp[Jh,hj]
    rw[O];unfold EI;walk_at "dx";exact hQ
   .rw[Je,aT v [] (λr=>dy (li r))];walk_at "dx";exact q v G
def i5(s l r:List Int)(n:Nat):List Int:=(cu n).map λ(i:Nat)=>if (i:Int)∈r then s.getD i 0 else l.getD i 0 - 1
def iZ(s l r:List Int)(n:Nat):(i5 s l r n).length=n:=by simp[i5]
def wG(s l r:List Int)(n:Nat):i5 s l r (n+1)=i5 s l r n++[if (n:Int)∈r then s.getD n 0 else l.getD n 0 - 1]:=by unfold i5;rw[Lc,Jy];rfl
abbrev eY:Stmt:=top 45
def ce:ax ["_law_town_here", "_law_standing_here", "_law_row", "_law_lefts", "_law_clock"] ["_law_town_here", "_law_standing_here", "_law_row"] (ad eY):={}
def uk:DSp:=λss R=>∃(s o l r:List Int) (d:Nat),ss=[.fr (.tuple [.list (li s),.list (li o)]),.fr (.tuple [.int d,.tuple (li l)]),.fr (.list (li r))]/\s.length<=1000/\1<=o.length/\l.length=s.length/\R (.fr (.tuple [.int (((d+1) % o.length:Nat):Int),.tuple (li (i5 s l r s.length))])) [.un,.un,.un]
def kU(F:Fun K "_law_after" "_law_after" eY f fd)(B:Bn mg):ca P w K mg base CX0 1 f fd ["_law_town_here", "_law_standing_here", "_law_row"] (spD K uk):=by
 refine okD (k:=0) F ce (λss R h=>?_) (!2) (λcdv A outer s H E b=>⟨_,(bB (aw (i:=3) ce.nd rfl ci (cQ ac))
   (bB (dD PassesOwn.never rfl (cJ rfl B.range (aa (d8 (iA (K:=K) rfl) iw rfl B.len db (aa (aN (ai (K:=K) rfl) mIx (qv 0) al (λ_ _=>rfl)) ac)) ac)) (ak (i:=4) ce.nd rfl ci) (aj (gP (aF (kIn (K:=K) rfl) mIn (qv 4) (qv 2) (by with_unfolding_all rfl)) (aj (aw (i:=3) ce.nd rfl ci (uM (K:=K) rfl (qv 3) (cQ (aa (aN (ai (K:=K) rfl) mIx (aN (ai (K:=K) rfl) mIx (qv 0) al (λ_ _=>rfl)) (qv 4) (λ_ _=>rfl)) ac))))) (aj (aw (i:=3) ce.nd rfl ci (uM (K:=K) rfl (qv 3) (cQ (aa (bX u7 mI (aN (ai (K:=K) rfl) mIx (aN (ai (K:=K) rfl) mIx (qv 1) al (λ_ _=>rfl)) (qv 4) (λ_ _=>rfl)) al) ac))))))))
   (aj (a9 (cQ (aa (bX bO mIC (bX cr mI (aN (ai (K:=K) rfl) mIx (qv 1) al (λ_ _=>rfl)) al) (d8 (iA (K:=K) rfl) iw rfl B.len db (aa (aN (ai (K:=K) rfl) mIx (qv 0) al (λ_ _=>rfl)) ac))) (aa (qf 3) ac))))))),λss R h=>?_⟩)
 .obtain⟨s,o,l,r,d,rfl,_⟩:=h;rfl
 obtain⟨s,o,l,r,d,rfl,h1,h2,h3,q⟩:=h;walk_at "dx";rw[Je];refine⟨JD _,!0,!0,cR (λi env=>∃cv:Sl,env=[.fr (.tuple [.list (li s),.list (li o)]),.fr (.tuple [.int d,.tuple (li l)]),.fr (.list (li r)),.fr (.tuple (li (i5 s l r i))),cv]) ⟨_,rfl⟩ ?_ ?_⟩
 .rintro i env hi ⟨cv,rfl⟩;rw[aA,JN] at hi;rw[bf];walk_at "dx";have hz:(li (i5 s l r i)).length+1<=sizeLine:=by
   rw[Je,iZ];exact Jt (!0) af
  rw[wG];refine cw (λa=>?_) (λa=>?_)
  .refine⟨_,dP hi,Jt (!2) af,hz,?_⟩;rw[Mz a];exact kX _ _
  .refine⟨_,dP (!0),_,rfl,Jt (!2) af,hz,?_⟩;rw[MA a];exact kX _ _
 .rintro env ⟨cv,rfl⟩;rw[aA,JN];walk_at "dx";rw[Je];exact⟨!0,Jt (!2) af,q⟩
def wX{xs ys:List ah}{i:Nat}(h:i<(wY xs ys).length):(wY xs ys)[i]=.tuple [xs[i]'(by rw[df] at h;omega),ys[i]'(by rw[df] at h;omega)]:=by simp[wY]
def gz(g:Nat->Bool)(L:List Nat):L.map (λi=>Mn (g i))=(L.map g).map Mn:=by rw[JI];rfl
def l9(r:List Int):Bool:=((cu (r.length - 1)).map λi=>decide (r.getD i 0<r.getD (i+1) 0)).all id
def GM(n:Nat)(r:List Int):Bool:=((cu r.length).map λi=>decide (0<=r.getD i 0)&&decide (r.getD i 0<n)).all id
def sG(n:Nat)(r:List Int):Bool:=l9 r&&GM n r
abbrev gj:Stmt:=top 7
def l8:ax ["row", "clocks", "rising"] ["row", "clocks"] (ad gj):={}
def ug:DSp:=λss R=>∃(r:List Int) (n:Nat),ss=[.fr (.list (li r)),.fr (.int n)]/\r.length<=1000/\R (.fr (.bool (sG n r))) [.un,.un]
def vh(F:Fun K "is_row" "is_row" gj f fd)(B:Bn mg):ca P w K mg base CX0 1 f fd ["row", "clocks"] (spD K ug):=by
 refine okD (k:=0) F l8 (λss R h=>?_) (!2) (λcdv A outer s H E d=>⟨_,(bB (aw (i:=2) l8.nd rfl ci (d8 (Fz (K:=K) rfl rfl) Fw rfl B.all mu (aa (bF (N':=["one", "other"]) (ix:=[none,none]) rfl (bP (N:=_::_) (sc0:=ad gj) rfl rfl (!3)) (A0 (K:=K) rfl rfl B.zip (aa (qf 0) (aa (oJ (K:=K) rfl (qv 0) (fR al) fS) ac))) (λ_ _ _ _=>(dM (K:=K) (n:=2) rfl rfl (aK (ak (i:=0) (!4) rfl ci) (aK (ak (i:=1) (!4) rfl ci) cB)))) (λ_ _ _ _=>aM) (λ_ _ _ _=>(xF oT mB (qv 0) (qv 1) (aU _)))) ac)))
   (aj (a9 (Gp (qv 2) (Gm (d8 (Fz (K:=K) rfl rfl) Fw rfl B.all mu (aa (bF (N':=["clock", "clocks"]) (ix:=[none,some 1]) rfl (bP (N:=_::_) (sc0:=ad gj) rfl rfl (!3)) (aH (K:=K) rfl (qf 0)) (λ_ _ _ _=>(ak (i:=0) (!4) rfl ci)) (λ_ _ _ _=>aM) (λ_ _ _ _=>(Ba Ei mB oT mB al (qv 0) (qv 1)))) ac))))))),λss R h=>?_⟩)
 .obtain⟨r,n,rfl,_⟩:=h;rfl
 obtain⟨r,n,rfl,h1,q⟩:=h;walk_at "dd";rw[show(some (1:Int))=some ((1:Nat):Int) from rfl,rX];refine bT (λi=>.bool (decide (r.getD i 0<r.getD (i+1) 0))) (by rw[df,Je];omega) (λi hi Q hQ=>?_) ?_
 .rw[wX,c7,c7];rw[df,Je,Je,KA] at hi;have e:(r.drop 1).getD i 0=r.getD (i+1) 0:=by simp[Jh,LV,Nat.add_comm]
  rw[e];walk_at "dd";exact hQ
 rw[gz,df,Je,Je,KA,K6 (Nat.sub_le _ _)];walk_at "dd";have e:((cu (r.length - 1)).map λi=>decide (r.getD i 0<r.getD (i+1) 0)).all id=l9 r:=rfl;simp only[e];unfold sG at q;generalize l9 r=b at *;refine cw (λa=>?_) (λa=>?_)
 .refine bT (λi=>.bool (decide (0<=r.getD i 0)&&decide (r.getD i 0<n))) (by rw[Je];omega) (λi hi Q hQ=>?_) ?_
  .rw[c7];walk_at "dd";refine cw (λc=>?_) (λc=>?_)
   .rw[decide_eq_true c,K8] at hQ;exact hQ
   .rw[decide_eq_false c,KY] at hQ;exact hQ
  rw[gz,Je];walk_at "dd";rw[a,K8] at q;exact q
 .rw[Bool.not_eq_true] at a;rw[a,KY] at q;exact q
def Cy(l r:List Int):Bool:=(((cu l.length).filter λi=>decide (l.getD i 0=1)).map λ(i:Nat)=>decide ((i:Int)∈r)).all id
def BK(s o l r:List Int)(d:Nat):Bool:=sG s.length r&&(decide ((r.length:Int)<=o.getD d 0)&&Cy l r)
abbrev gL:Stmt:=top 5
def oB:ax ["town", "standing"] ["town", "standing"] (ad gL):={}
def jc:DSp:=λss R=>∃(s o l:List Int) (d:Nat),ss=[.fr (.tuple [.list (li s),.list (li o)]),.fr (.tuple [.int d,.tuple (li l)])]/\d<o.length/\R (.fr (.int (o.getD d 0))) [.un,.un]
def oX(F:Fun K "hands_on" "hands_on" gL f fd)(B:Bn mg):ca P w K mg base CX0 1 f fd ["town", "standing"] (spD K jc):=by
 refine okD (k:=0) F oB (λss R h=>?_) (!2) (λcdv A outer s H E a=>⟨_,(aj (a9 (aN (ai (K:=K) rfl) mIx (aN (ai (K:=K) rfl) mIx (qv 0) al (λ_ _=>rfl)) (aN (ai (K:=K) rfl) mIx (qv 1) al (λ_ _=>rfl)) (λ_ _=>rfl)))),λss R h=>?_⟩)
 .obtain⟨s,o,l,d,rfl,_⟩:=h;rfl
 obtain⟨s,o,l,d,rfl,hd,q⟩:=h;walk_at "dd";exact⟨_,dP hd,q⟩
abbrev fC:Stmt:=top 8
def oA:ax ["town", "standing", "row"] ["town", "standing", "row"] (ad fC):={}
def lW:DSp:=λss R=>∃(s o l r:List Int) (d:Nat),ss=[.fr (.tuple [.list (li s),.list (li o)]),.fr (.tuple [.int d,.tuple (li l)]),.fr (.list (li r))]/\d<o.length/\l.length<=1000/\r.length<=1000/\R (.fr (.bool (BK s o l r d))) [.un,.un,.un]
def oW(F:Fun K "may_wind" "may_wind" fC f fd)(B:Bn mg)(c:Cal P w K mg base "is_row" 1 (spD K ug))(a:Cal P w K mg base "hands_on" 1 (spD K jc)):ca P w K mg base CX0 2 f fd ["town", "standing", "row"] (spD K lW):=by
 refine okD (k:=1) F oA (λss R h=>?_) (!2) (λcdv A outer s H E g=>⟨_,(bB (gP (PW.pt (AZ (j7 (mf (aD c (g.mono (!2)) rfl (aa (qf 2) (aa (d8 (iA (K:=K) rfl) iw rfl B.len db (aa (aN (ai (K:=K) rfl) mIx (qv 0) al (λ_ _=>rfl)) ac)) ac))))) (uF (aF El mB (d8 (iA (K:=K) rfl) iw rfl B.len db (aa (qv 2) ac)) (aD a (g.mono (!2)) rfl (aa (qf 0) (aa (qf 1) ac))) (aU _))))) (aj (a9 wS)) bS)
   (aj (a9 (d8 (Fz (K:=K) rfl rfl) Fw rfl B.all mu (aa (bF (N':=["clock", "left", "row"]) (ix:=[none,none,some 2]) rfl (bP (N:=_::_) (sc0:=ad fC) rfl rfl (!3)) (fT true (K:=K) rfl rfl B.enumerate (aa (aN (ai (K:=K) rfl) mIx (qv 1) al (λ_ _=>rfl)) ac)) (λ_ _ _ _=>(dM (K:=K) (n:=2) rfl rfl (aK (ak (i:=0) (!4) rfl ci) (aK (ak (i:=1) (!4) rfl ci) cB)))) (λ_ _ _ _=>(dB (aF mr zX (qv 1) al (aU _)))) (λ_ _ _ _=>(xF (kIn (K:=K) rfl) mIn (qv 0) (qv 2) (by with_unfolding_all rfl)))) ac))))),λss R h=>?_⟩)
 .obtain⟨s,o,l,r,d,rfl,_⟩:=h;rfl
 obtain⟨s,o,l,r,d,rfl,hd,m,j,q⟩:=h;walk_at "dd";rw[Je];refine⟨r,s.length,rfl,!0,?_⟩;walk_at "dd";unfold BK at q;generalize sG s.length r=b at *;refine cw (λe=>?_) (λe=>?_)
 .have e:b=false:=by simpa using e
  rw[e,KY] at q;exact q
 have e:b=true:=by simpa using e
 rw[e,K8] at q;refine⟨s,o,l,d,rfl,hd,?_⟩;walk_at "dd";rw[Je];refine cw (λhg=>?_) (λhg=>?_)
 .rw[decide_eq_false (!0),KY] at q;exact q
 rw[decide_eq_true (!0),K8] at q;refine bY (λi=>decide (l.getD i 0=1)) (λi=>.bool (decide ((i:Int)∈r))) (by rw[aP,Je];omega) (λi hi Q p h1 h2=>?_) ?_
 .rw[aP,Je] at hi;rw[cH,c7];walk_at "dd";exact cw (λh=>h1 (by simpa using h)) (λh=>h2 (by simpa using h))
 rw[gz,aP,Je];walk_at "dd";exact q
abbrev iP:Stmt:=top 9
def ji:ax ["town", "standing", "row", "spans", "lefts"] ["town", "standing", "row"] (ad iP):={}
def iN:DSp:=λss R=>∃(s o l r:List Int) (d:Nat),ss=[.fr (.tuple [.list (li s),.list (li o)]),.fr (.tuple [.int d,.tuple (li l)]),.fr (.list (li r))]/\1<=o.length/\l.length=s.length/\s.length<=1000/\R (.fr (.tuple [.int (((d+1) % o.length:Nat):Int),.tuple (li (i5 s l r s.length))])) [.un,.un,.un]
def vi(F:Fun K "behind" "behind" iP f fd)(B:Bn mg):ca P w K mg base CX0 1 f fd ["town", "standing", "row"] (spD K iN):=by
 refine okD (k:=0) F ji (λss R h=>?_) (!2) (λcdv A outer s H E b=>⟨_,(ae (aw (i:=3) ji.nd rfl (di rfl) (aN (ai (K:=K) rfl) mIx (qv 0) al (λ_ _=>rfl)))
   (ae (bV (i:=4)  ji.nd rfl rfl (N':=["clock", "left", "row", "spans"]) (ix:=[none,none,some 2,some 3]) rfl (bP (N:=_::_) (sc0:=ad iP) rfl rfl (!3)) (fT true (K:=K) rfl rfl B.enumerate (aa (aN (ai (K:=K) rfl) mIx (qv 1) al (λ_ _=>rfl)) ac)) (λ_ _ _ _=>(dM (K:=K) (n:=2) rfl rfl (aK (ak (i:=0) (!4) rfl ci) (aK (ak (i:=1) (!4) rfl ci) cB)))) (λ_ _ _ _=>aM) (λ_ _ _ _=>(oK (aF (kIn (K:=K) rfl) mIn (qv 0) (qv 2) (by with_unfolding_all rfl)) (aN (ai (K:=K) rfl) mIx (qv 3) (qv 0) (λ_ _=>rfl)) (bX u7 mI (qv 1) al))))
   (aj (a9 (cQ (aa (bX bO mIC (bX cr mI (aN (ai (K:=K) rfl) mIx (qv 1) al (λ_ _=>rfl)) al) (d8 (iA (K:=K) rfl) iw rfl B.len db (aa (aN (ai (K:=K) rfl) mIx (qv 0) al (λ_ _=>rfl)) ac))) (aa (uJ (K:=K) rfl rfl B.tuple (aa (qv 4) ac)) ac))))))),λss R h=>?_⟩)
 .obtain⟨s,o,l,r,d,rfl,_⟩:=h;rfl
 obtain⟨s,o,l,r,d,rfl,ho,a,c,q⟩:=h;walk_at "dx";refine bT (λi=>.int (if (i:Int)∈r then s.getD i 0 else l.getD i 0 - 1)) (by rw[aP,Je];omega) (λi hi Q hQ=>?_) ?_
 .rw[aP,Je] at hi;rw[cH,c7];walk_at "dx";refine cw (λh=>?_) (λh=>?_)
  .rw[Mz h] at hQ;exact⟨_,dP (!0),hQ⟩
  .rw[MA h] at hQ;exact hQ
 have e:(cu (lh (li l)).length).map (λi:Nat=>eb (if (i:Int)∈r then s.getD i 0 else l.getD i 0 - 1))=li (i5 s l r s.length):=by rw[aP,Je,a];show _=eT _ (eT _ _);rw[JI];rfl
 rw[e];walk_at "dx";rw[Je];exact⟨!0,Jt (!2) af,q⟩
abbrev oE:Stmt:=top 4
def xz:ax ["town"] ["town"] (ad oE):={}
def je:DSp:=λss R=>∃(s o:List Int),ss=[.fr (.tuple [.list (li s),.list (li o)])]/\R (.fr (.tuple [.int 0,.tuple (li s)])) [.un]
def xS(F:Fun K "begun" "begun" oE f fd)(B:Bn mg):ca P w K mg base CX0 1 f fd ["town"] (spD K je):=by
 refine okD (k:=0) F xz (λss R h=>?_) (!2) (λcdv A outer s H E a=>⟨_,(aj (a9 (cQ (aa al (aa (uJ (K:=K) rfl rfl B.tuple (aa (aN (ai (K:=K) rfl) mIx (qv 0) al (λ_ _=>rfl)) ac)) ac))))),λss R h=>?_⟩)
 .obtain⟨s,o,rfl,_⟩:=h;rfl
 obtain⟨s,o,rfl,q⟩:=h;walk_at "dd";exact⟨Jt (!2) af,q⟩
def yf(s l:List Int)(rows:List (List Int)):Nat->List Int
 | 0=>l
 | i+1=>i5 s (yf s l rows i) (rows.getD i []) s.length
def ye(h:l.length=s.length)(rows:List (List Int)):∀i,(yf s l rows i).length=s.length
 | 0=>h
 | i+1=>iZ _ _ _ _
def x9(s o l:List Int)(rows:List (List Int))(i:Nat):Bool:=BK s o (yf s l rows i) (rows.getD i []) (i % o.length)
abbrev uv:Stmt:=top 10
def jh:ax ["town", "standing", "rows", "here", "number", "row"] ["town", "standing", "rows"] (ad uv):={}
def zx:DSp:=λss R=>∃(s o l:List Int) (rows:List (List Int)),ss=[.fr (.tuple [.list (li s),.list (li o)]),.fr (.tuple [.int 0,.tuple (li l)]),.fr (.list (lr rows))]/\1<=o.length/\l.length=s.length/\s.length<=1000/\(∀r∈rows,r.length<=1000) /\
 (∀i,i<rows.length->x9 s o l rows i=true)/\∀d,R (.fr d) [.un,.un,.un]
def BG(F:Fun K "gone" "gone" uv f fd)(B:Bn mg)(c:Cal P w K mg base "may_wind" 2 (spD K lW))(d:Cal P w K mg base "behind" 1 (spD K iN)):ca P w K mg base CX0 4 f fd ["town", "standing", "rows"] (spD K zx):=by
 refine okD (k:=3) F jh (λss R h=>?_) (!2) (λcdv A outer s H E r=>⟨_,(bB (aw (i:=3) jh.nd rfl ci (qf 1))
   (bB (dD PassesOwn.never rfl (fT false (K:=K) rfl rfl B.enumerate (aa (qf 2) ac)) (dM (K:=K) (n:=2) rfl rfl (aK (ak (i:=4) jh.nd rfl ci) (aK (ak (i:=5) jh.nd rfl ci) cB))) (bB (gP (j7 (mf (aD c (r.mono (!2)) rfl (aa (qf 0) (aa (qf 3) (aa (qf 5) ac)))))) (aj A4) bS)
   (aj (aw (i:=3) jh.nd rfl ci (aD d (r.mono (!2)) rfl (aa (qf 0) (aa (qf 3) (aa (qf 5) ac))))))))
   (aj (a9 (qv 3))))),λss R h=>?_⟩)
 .obtain⟨s,o,l,rows,rfl,_⟩:=h;rfl
 obtain⟨s,o,l,rows,rfl,ho,u,v,j,g,q⟩:=h;walk_at "dd";refine cR (λi env=>i<=rows.length/\∃(a b:Sl),env=[.fr (.tuple [.list (li s),.list (li o)]),.fr (.tuple [.int 0,.tuple (li l)]),.fr (.list (lr rows)),.fr (.tuple [.int ((i % o.length:Nat):Int),.tuple (li (yf s l rows i))]),a,b]) ⟨!0,_,_,by rw[Nat.zero_mod];rfl⟩ ?_ ?_
 .rintro i env hi ⟨m,a,b,rfl⟩;rw[aP,Je] at hi;rw[cH,fN];have x:=j _ (dO (l:=rows) hi);have p:=ye u rows i;walk_at "dd";refine⟨s,o,yf s l rows i,rows.getD i [],i % o.length,rfl,sn _ (!0),!0,x,?_⟩;walk_at "dd";have e:BK s o (yf s l rows i) (rows.getD i []) (i % o.length)=true:=g i hi;rw[e];refine cw (λt=>by simp at t) (λt=>?_);refine⟨s,o,yf s l rows i,rows.getD i [],i % o.length,rfl,ho,p,v,?_⟩;walk_at "dd";refine⟨!0,?_⟩;rw[Mh];exact⟨rfl,rfl⟩
 .rintro env ⟨m,a,b,rfl⟩;walk_at "dd";exact q _
def po(P:Nat->Bool):Nat->Int
 | 0=>-1
 | t+1=>if P t=true then (t:Int) else po P t
def Pc(rows:List (List Int))(c t:Nat):Bool:=decide ((c:Int)∈rows.getD t [])
def si(h:c<n):(i5 s l r n).getD c 0=if (c:Int)∈r then s.getD c 0 else l.getD c 0 - 1:=by unfold i5;simp[Jh,h]
def Cv(l r:List Int):Cy l r=true↔∀c,c<l.length->l.getD c 0=1->(c:Int)∈r:=by
 unfold Cy;rw[Kl];constructor
 .intro h c hc e;have:=h (decide ((c:Int)∈r)) (Jk.mpr ⟨c,JB.mpr ⟨JS.mpr hc,decide_eq_true e⟩,rfl⟩);exact of_decide_eq_true this
 .intro h x hx;obtain⟨c,hc,rfl⟩:=Jk.mp hx;obtain⟨h1,h2⟩:=JB.mp hc;exact decide_eq_true (h c (JS.mp h1) (of_decide_eq_true h2))
def wQ(rows:List (List Int))(c:Nat):Bool:=((cu rows.length).map λ(i:Nat)=>decide ((c:Int)∈rows.getD i [])).any id
def AF(rows:List (List Int))(n:Nat):Bool:=((cu n).map λc=>wQ rows c).all id
def xa:wQ rows c=true↔∃t,t<rows.length/\(c:Int)∈rows.getD t []:=by
 unfold wQ;rw[List.any_eq_true];constructor
 .rintro⟨x,hx,e⟩;obtain⟨t,a,rfl⟩:=Jk.mp hx;exact⟨t,JS.mp a,of_decide_eq_true e⟩
 .rintro⟨t,a,e⟩;exact⟨_,Jk.mpr ⟨t,JS.mpr a,rfl⟩,decide_eq_true e⟩
def xc:AF rows n=true↔∀c,c<n->wQ rows c=true:=by
 unfold AF;rw[Kl];constructor
 .intro h c hc;exact h _ (Jk.mpr ⟨c,JS.mpr hc,rfl⟩)
 .intro h x hx;obtain⟨c,hc,rfl⟩:=Jk.mp hx;exact h c (JS.mp hc)
def wE(X Y:List (List Int))(i:Nat):(X++Y).getD i []=if i<X.length then X.getD i [] else Y.getD (i - X.length) []:=by rw[Jh,List.getElem?_append,Jh,Jh];split <;> rfl
abbrev dW:Stmt:=top 15
def lZ:ax ["rows", "clocks"] ["rows", "clocks"] (ad dW):={}
def jX:DSp:=λss R=>∃(rows:List (List Int)) (n:Nat),ss=[.fr (.list (lr rows)),.fr (.int n)]/\rows.length<=5000/\n<=1000/\R (.fr (.bool (AF rows n))) [.un,.un]
def mv(F:Fun K "winds_all" "winds_all" dW f fd)(B:Bn mg):ca P w K mg base CX0 1 f fd ["rows", "clocks"] (spD K jX):=by
 refine okD (k:=0) F lZ (λss R h=>?_) (!2) (λcdv A outer s H E a=>⟨_,(aj (a9 (d8 (Fz (K:=K) rfl rfl) Fw rfl B.all mu (aa (bF (N':=["clock", "rows"]) (ix:=[none,some 0]) rfl (bP (N:=_::_) (sc0:=ad dW) rfl rfl (!3)) (cJ rfl B.range (aa (qv 1) ac)) (λ_ _ _ _=>(ak (i:=0) (!4) rfl (di rfl))) (λ_ _ _ _=>aM) (λ_ _ _ _=>(d8 (IQ (K:=K) rfl rfl) IK rfl B.any PyProof.Rows.boot_any (aa (bF (N':=["row", "clock"]) (ix:=[none,some 0]) rfl (Fj (!3)) (aH (K:=K) rfl (qf 1)) (λ_ _ _ _=>(ak (i:=0) (!4) rfl ci)) (λ_ _ _ _=>aM) (λ_ _ _ _=>(xF (kIn (K:=K) rfl) mIn (qv 1) (qv 0) (by with_unfolding_all rfl)))) ac)))) ac)))),λss R h=>?_⟩)
 .obtain⟨rows,n,rfl,_⟩:=h;rfl
 obtain⟨rows,n,rfl,h1,h2,q⟩:=h;walk_at "dx";refine⟨!0,!0,bT (λc=>.bool (wQ rows c)) (by rw[aA];omega) (λc hc Q hQ=>?_) ?_⟩
 .rw[bf];walk_at "dx";refine bT (λi=>.bool (decide ((c:Int)∈rows.getD i []))) (by rw[Je];omega) (λi hi Q hQ=>?_) ?_
  .rw[fN];walk_at "dx";exact hQ
  rw[gz,Je];walk_at "dx";exact hQ
 rw[gz,aA,JN];walk_at "dx";exact q
def KP(s o:List Int)(A B:List (List Int)):Prop:=1<=B.length/\B.length % o.length=0/\(∀i,i<A.length+2*B.length->x9 s o s (A++B++B) i=true)/\AF B s.length=true
def PlB(s o:List Int)(A B:List (List Int)):Prop:=1<=o.length/\s.length<=1000/\A.length<=5000/\B.length<=5000/\(∀r∈A,r.length<=10)/\∀r∈B,r.length<=10
abbrev oD:Stmt:=top 16
def qC:ax ["town", "plan", "again"] ["town", "plan"] (ad oD):={}
def uf:DSp:=λss R=>∃(s o:List Int) (A B:List (List Int)),ss=[.fr (.tuple [.list (li s),.list (li o)]),.fr (.tuple [.list (lr A),.list (lr B)])]/\PlB s o A B/\KP s o A B/\R (.fr (.bool true)) [.un,.un]
def xR(F:Fun K "keeps" "keeps" oD f fd)(B:Bn mg)(a:Cal P w K mg base "winds_all" 1 (spD K jX))(c:Cal P w K mg base "begun" 1 (spD K je))(e:Cal P w K mg base "gone" 4 (spD K zx)):ca P w K mg base CX0 5 f fd ["town", "plan"] (spD K uf):=by
 refine okD (k:=4) F qC (λss R h=>?_) (!2) (λcdv A outer s H E b=>⟨_,(ae (aw (i:=2) qC.nd rfl ci (aN (ai (K:=K) rfl) mIx (qv 1) al (λ_ _=>rfl)))
   (ae (gP (PW.pt (AZ (j7 (gp (K:=K) rfl (qv 2))) (uF (aF BC Gx (bX bO mIC (d8 (iA (K:=K) rfl) iw rfl B.len db (aa (qv 2) ac)) (d8 (iA (K:=K) rfl) iw rfl B.len db (aa (aN (ai (K:=K) rfl) mIx (qv 0) al (λ_ _=>rfl)) ac))) al (aU _))))) (aj (a9 wS)) bS)
   (ae (gP (j7 (mf (aD a (b.mono (!2)) rfl (aa (qf 2) (aa (d8 (iA (K:=K) rfl) iw rfl B.len db (aa (aN (ai (K:=K) rfl) mIx (qv 0) al (λ_ _=>rfl)) ac)) ac))))) (aj (a9 wS)) bS)
   (ae (A1 (λ_ _ z=>z) (aj (b9 (aD e (b.mono (!2)) rfl (aa (qf 0) (aa (aD c (b.mono (!2)) rfl (aa (qf 0) ac)) (aa (kF (eB (K:=K) rfl) yc (kF (eB (K:=K) rfl) yc (aN (ai (K:=K) rfl) mIx (qv 1) al (λ_ _=>rfl)) (qv 2)) (qv 2)) ac)))))))
   (aj (a9 wS)))))),λss R h=>?_⟩)
 .obtain⟨s,o,A,B,rfl,_⟩:=h;rfl
 obtain⟨s,o,A,B,rfl,⟨ho,m,hA,hB,t,n⟩,⟨j,u,g,hw⟩,q⟩:=h;walk_at "dx";refine cw (λp=>?_) (λp=>?_)
 .cases B with
  | nil=>simp at j
  | cons r rs=>simp at p
 have l:∀Z:List (List Int),(lr Z).length=Z.length:=λZ=>Je ..;rw[l B,Je];have v:((B.length:Nat):Int) % ((o.length:Nat):Int)=((B.length % o.length:Nat):Int):=rfl;rw[v,u];refine⟨!0,cw (λh1=>absurd rfl h1) (λh1=>?_)⟩;walk_at "dx";refine⟨B,s.length,by rw[Je],!0,m,?_⟩;walk_at "dx";rw[hw];refine cw (λh2=>by simp at h2) (λh2=>?_);have hz:∀k,k<=20000->k<=sizeLine:=λk hk=>Jt (!0) af;have e3:lr A++lr B++lr B=lr (A++B++B):=!1
 have e4:(A++B++B).length=A.length+2*B.length:=by simp;omega
 walk_at "dx";refine⟨s,o,rfl,?_⟩;walk_at "dx";rw[Jz,l A,l B,e3];refine⟨hz _ (!0),hz _ (!0),s,o,s,A++B++B,rfl,ho,rfl,m,λr b=>?_,by rw[e4];exact g,λd=>?_⟩
 .rcases Jj.mp b with b|b
  .rcases Jj.mp b with b|b
   .have:=t r b;omega
   .have:=n r b;omega
  .have:=n r b;omega
 .walk_at "dx";exact q
abbrev gn:Stmt:=top 6
def cy:ax ["town", "standing", "most", "rows", "clock", "left", "with_it"] ["town", "standing"] (ad gn):={}
def chs(h:Int)(l:List Int):Nat->List (List Int)
 | 0=>[[]]
 | k+1=>if l.getD k 0=1 then ((chs h l k).filter λr=>decide ((r.length:Int)<h)).map (·++[(k:Int)]) else chs h l k++((chs h l k).filter λr=>decide ((r.length:Int)<h)).map (·++[(k:Int)])
def jD(l:List Int)(k:Nat):c9 l (k+1)=c9 l k++(if l.getD k 0=1 then [(k:Int)] else []):=by
 unfold c9;rw[Lc,Kb,Jy]
 congr 1
 by_cases h:l.getD k 0=1
 .rw[Mz h,Ka (by simpa using h)];rfl
 .rw[MA h,Kw (by simpa using h)];rfl
def Cw(h:x∈c9 l k):0<=x/\x<k:=by unfold c9 at h;obtain⟨i,hi,rfl⟩:=Jk.mp h;have:=JS.mp (JB.mp hi).1;omega
theorem jE(h:Int)(f:0<=h)(l:List Int):∀k,chs h l k=fJ k h l
 | 0 => by
  show[[]]=lv _ [[]];rw[Ka]
  .rfl
  .show cD h (c9 l 0) []=true;unfold cD c9;simp[f]
 | k + 1=>by
  have g:=jE h f l k;have e1:((cT k).map (·++[(k:Int)])).filter (cD h (c9 l (k+1)))=((fJ k h l).filter λr=>decide ((r.length:Int)<h)).map (·++[(k:Int)]):=by
   unfold fJ;rw[y2,List.filter_filter]
   congr 1
   refine LY λr b=>?_;have a:=bR k r b;show cD h (c9 l (k+1)) (r++[(k:Int)])=_;unfold cD;rw[jD];have e2:(lv (λc=>decide (c ∉ r++[(k:Int)])) (c9 l k++if l.getD k 0=1 then [(k:Int)] else []))=lv (λc=>decide (c ∉ r)) (c9 l k):=by
    rw[Kb];have e3:lv (λc=>decide (c ∉ r++[(k:Int)])) (if l.getD k 0=1 then [(k:Int)] else [])=[]:=by split <;> simp
    rw[e3,JM];refine LY λc hc=>?_;have:=Cw hc;have d:c≠(k:Int):=!0
    simp[d]
   rw[e2];have e4:decide (((r++[(k:Int)]).length:Int)<=h)=(decide ((r.length:Int)<h)&&decide ((r.length:Int)<=h)):=by
    rw[Jz,JP];by_cases c:(r.length:Int)<h
    .have c2:(r.length:Int)<=h:=!0
     have e:((r.length+1:Nat):Int)<=h:=!0
     rw[decide_eq_true c,decide_eq_true c2,decide_eq_true e];rfl
    .have e:¬((r.length+1:Nat):Int)<=h:=!0
     rw[decide_eq_false c,decide_eq_false e];rfl
   rw[e4,Bool.and_assoc]
  have e2:(cT k).filter (cD h (c9 l (k+1)))=if l.getD k 0=1 then [] else fJ k h l:=by
   split
   .rename_i h1;refine pw.mpr λr b=>?_;have a:=bR k r b;unfold cD;rw[jD,Mz h1,Kb];have hn:(k:Int) ∉ r:=λz=>by have:=a.2.2 _ z;omega
    simp[hn]
   .rename_i h1;unfold fJ;rw[jD,MA h1,JM]
  show(if l.getD k 0=1 then _ else _)=lv _ (cT k++(cT k).map (·++[(k:Int)]));rw[Kb,e1,e2,g];split
  .rw[ra]
  .rfl
def jd:DSp:=λss R=>∃(s o l:List Int) (d:Nat),ss=[.fr (.tuple [.list (li s),.list (li o)]),.fr (.tuple [.int d,.tuple (li l)])]/\s.length<=6/\0<=o.getD d 0/\(s.length<=4\/o.getD d 0<=3)/\StB s o d l /\
 ∀cs:List (List Int),cs.Perm (fJ s.length (o.getD d 0) l)->R (.ow (lr cs)) [.un,.un]
def sP(F:Fun K "choices" "choices" gn f fd)(B:Bn mg)(L:wM K base "choices" fd)(e:Cal P w K mg base "hands_on" 1 (spD K jc)):ca P w K mg base CX0 6 f fd ["town", "standing"] (spD K jd):=by
 refine HK (k:=5) F cy (λss R h=>?_) (!2) (λcdv v A outer s H E m=>⟨_,(ae (aw (i:=2) cy.nd rfl (di rfl) (aD e (m.mono (!2)) rfl (aa (qf 0) (aa (qf 1) ac))))
   (ae (aw (i:=3) cy.nd rfl ci (b7 (aa (b7 ac) ac)))
   (ae (dD PassesOwn.never rfl (fT true (K:=K) rfl rfl B.enumerate (aa (aN (ai (K:=K) rfl) mIx (qv 1) al (λ_ _=>rfl)) ac)) (dM (K:=K) (n:=2) rfl rfl (aK (ak (i:=4) cy.nd rfl (di rfl)) (aK (ak (i:=5) cy.nd rfl ci) cB))) (ae (bV (i:=6)  cy.nd rfl rfl (N':=["row", "most", "clock"]) (ix:=[none,some 2,some 4]) rfl (bP (N:=_::_) (sc0:=ad gn) rfl rfl (!3)) (aH (K:=K) rfl (qf 3)) (λ_ _ _ _=>(ak (i:=0) (!4) rfl ci)) (λ_ _ _ _=>(dB (aF oT mB (d8 (iA (K:=K) rfl) iw rfl B.len db (aa (qv 0) ac)) (qv 1) (aU _)))) (λ_ _ _ _=>(kF (eB (K:=K) rfl) yc (qv 0) (b7 (aa (qf 2) ac)))))
   (aj (aw (i:=3) cy.nd rfl ci (oK (aF mr zX (qv 5) al (aU _)) (qf 6) (kF (eB (K:=K) rfl) yc (qv 3) (qv 6)))))))
   (aj (a9 (DR rp (p := "row") (K:=K) rfl (let ⟨c,T,a,b,d⟩:=L;⟨c,T,v.trans a,b,d⟩) (m.mono (!2)) rfl B.sorted (aa (qv 3) ac) ⟨rfl,rfl,rfl,!2,rfl,λx hx=>by rw[Jf.mp hx];exact .inl rfl,!2⟩ (λ_ _ _ _ _=>rfl) rfl rfl (λ_ _ _ _ _=>(cQ (aa (d8 (iA (K:=K) rfl) iw rfl B.len db (aa (qv 0) ac)) (aa (qf 0) ac)))))))))),λss R h=>?_⟩)
 .obtain⟨s,o,l,d,rfl,_⟩:=h;rfl
 obtain⟨s,o,l,d,rfl,t2,u,z,C,q⟩:=h;obtain⟨s1,s2⟩:=C;walk_at "dx";refine⟨s,o,l,d,rfl,s1,?_⟩;walk_at "dx";refine⟨JD _,Jt (!2) af,?_⟩;walk_at "dx";refine cR (λi env=>∃(rv a b c:Sl),env=[.fr (.tuple [.list (li s),.list (li o)]),.fr (.tuple [.int d,.tuple (li l)]),.fr (.int (o.getD d 0)),rv,a,b,c]/\(rv=.ow (lr (chs (o.getD d 0) l i))\/rv=.fr (.list (lr (chs (o.getD d 0) l i))))) ⟨_,_,_,_,rfl,.inl rfl⟩ ?_ ?_
 .rintro i env hi ⟨rv,a,b,c,rfl,g⟩;rw[cH,c7];rw[aP,Je] at hi;have hz:(chs (o.getD d 0) l i).length<=64:=by
   rw[jE _ u];refine Jt (JQ _ _) ?_;rw[gd];exact K0 (!2) (show i<=6 by omega)
  have t:∀r∈chs (o.getD d 0) l i,r.length<=6:=λr m=>by
   rw[jE _ u] at m;have:=(bR i r (JB.mp m).1).1;omega
  have D:chs (o.getD d 0) l (i+1)=if l.getD i 0=1 then ((chs (o.getD d 0) l i).filter λr=>decide ((r.length:Int)<o.getD d 0)).map (·++[(i:Int)]) else chs (o.getD d 0) l i++((chs (o.getD d 0) l i).filter λr=>decide ((r.length:Int)<o.getD d 0)).map (·++[(i:Int)]):=rfl
  rw[D];generalize chs (o.getD d 0) l i=cs at *;generalize o.getD d 0=hd at *;rcases g with rfl|rfl
  all_goals
   walk_at "dx";refine bY (λj=>decide (((cs.getD j []).length:Int)<hd)) (λj=>.list (li (cs.getD j []++[(i:Int)]))) (by rw[Je];omega) (λj hj Q I h1 h2=>?_) ?_
   .rw[Je] at hj;rw[fN];have J:=t _ (dO (l:=cs) hj);walk_at "dx";rw[Je];refine cw (λh=>?_) (λh=>h2 (by simpa using h));rw[kX];exact⟨Jt (!2) af,Jt (!0) af,h1 (by simpa using h)⟩
   rw[Je,bK cs [] (λr=>decide ((r.length:Int)<hd)) (λr=>dy (li (r++[(i:Int)])))];walk_at "dx";refine cw (λh1=>?_) (λh1=>?_)
   .rw[Mz h1];exact .inr (!1)
   .rw[MA h1];have M:=JQ (λr:List Int=>decide ((r.length:Int)<hd)) cs;refine⟨?_,.inl (!1)⟩;rw[Je,Je];exact Jt (!0) af
 .rintro env ⟨rv,a,b,c,rfl,g⟩;rw[aP,Je,s2] at g;have hz:(chs (o.getD d 0) l s.length).length<64:=by
   rw[jE _ u];exact hJ t2 z
  rcases g with rfl|rfl
  all_goals
   walk_at "dx";refine⟨by rw[Je];exact hz,λx hx=>?_,λes y=>?_⟩
   .obtain⟨r,_,rfl⟩:=Jk.mp hx;unfold B4;walk_at "dd";exact⟨Jt (!2) af,_,r,rfl⟩
   .obtain⟨cs,G,rfl⟩:=cY y _ rfl;exact q cs (by rw[<-jE _ u];exact G)
def rwF(A B:List (List Int))(t:Nat):List Int:=if t<A.length then A.getD t [] else B.getD ((t - A.length) % B.length) []
def lfF(s:List Int)(rw:Nat->List Int):Nat->List Int
 | 0=>s
 | i+1=>i5 s (lfF s rw i) (rw i) s.length
def BR:∀i,(lfF s rw i).length=s.length
 | 0=>rfl
 | i+1=>iZ _ _ _ _
def zV(s o:List Int)(rw:Nat->List Int)(i:Nat):Bool:=BK s o (lfF s rw i) (rw i) (i % o.length)
theorem zY:∀i,(∀j,j<i->rows.getD j []=rw j)->yf s s rows i=lfF s rw i
 | 0,_=>rfl
 | i+1,h=>by
  show i5 s (yf s s rows i) (rows.getD i []) s.length=i5 s (lfF s rw i) (rw i) s.length;rw[zY i λj hj=>h j (!0),h i (!0)]
def ux(h:t<A.length+2*B.length):(A++B++B).getD t []=rwF A B t:=by
 unfold rwF;rw[J5,wE];by_cases h1:t<A.length
 .rw[Mz h1,Mz h1]
 .rw[MA h1,MA h1,wE];by_cases h2:t - A.length<B.length
  .rw[Mz h2,wr h2]
  .rw[MA h2,Nat.mod_eq_sub_mod (Md h2),wr (!0)]
def BL(h:i<A.length+2*B.length):x9 s o s (A++B++B) i=zV s o (rwF A B) i:=by unfold x9 zV;rw[zY i λj hj=>ux (!0),ux h]
def uw(h:A.length<=t):rwF A B (t+B.length)=rwF A B t:=by unfold rwF;rw[MA (!0),MA (!0),show t+B.length - A.length=t - A.length+B.length by omega,Nat.add_mod_right]
def PF(rw:Nat->List Int)(c t:Nat):Bool:=decide ((c:Int)∈rw t)
theorem kY(hc:c<s.length):∀i:Nat,(lfF s rw i).getD c 0=s.getD c 0 - ((i:Int) - po (PF rw c) i - 1)
 | 0=>by
  show s.getD c 0=s.getD c 0 - ((0:Nat) - (-1) - 1:Int)
  omega
 | i + 1=>by
  have a:=kY (rw:=rw) hc i;show(i5 s (lfF s rw i) (rw i) s.length).getD c 0=_;have b:po (PF rw c) (i+1)=if PF rw c i=true then (i:Int) else po (PF rw c) i:=rfl
  rw[si hc,a,b];by_cases h:(c:Int)∈rw i
  .rw[Mz h,Mz (show PF rw c i=true from decide_eq_true h)];omega
  .rw[MA h,MA (show ¬PF rw c i=true fromλz=>h (of_decide_eq_true z))];omega
def sT(hB:1<=B.length)(a:B.length % o.length=0)(hi:A.length<=i)(e:lfF s (rwF A B) (i+B.length)=lfF s (rwF A B) i):zV s o (rwF A B) (i+B.length)=zV s o (rwF A B) i:=by unfold zV;rw[e,uw hi,Nat.add_mod,a,t0,Nat.mod_mod]
def xU(h:¬AF B n=true):∃c,c<n/\wQ B c=false:=by
 by_cases hc:∃c,c<n/\wQ B c=false
 .exact hc
 .refine absurd (xc.mpr λc a=>?_) h;cases e:wQ B c with
  | true=>rfl
  | false=>exact absurd ⟨c,a,e⟩ hc
def rg(hB:1<=B.length)(h:wQ B c=false):∀i,A.length<=i->po (PF (rwF A B) c) i=po (PF (rwF A B) c) A.length:=by
 have none:∀t,A.length<=t->PF (rwF A B) c t=false:=λt d=>by
  cases e:PF (rwF A B) c t with
  | false=>rfl
  | true =>
   have e:=of_decide_eq_true e;unfold rwF at e;rw[MA (!0)] at e;have:wQ B c=true:=xa.mpr ⟨_,sn _ (!0),e⟩;rw[h] at this;cases this
 intro i hi
 induction i with
 | zero=>rw[show A.length=0 by omega]
 | succ i b =>
  by_cases a:A.length=i+1
  .rw[a]
  .show(if PF (rwF A B) c i=true then (i:Int) else po (PF (rwF A B) c) i)=_;rw[none i (!0),MA (!2)];exact b (!0)
def zh(hB:1<=B.length)(f:B.length % o.length=0)(hk:k'<k)(a:∀j,j<A.length+k*B.length->zV s o (rwF A B) j=true)
  (e : lfF s (rwF A B) (A.length+k*B.length)=lfF s (rwF A B) (A.length+k'*B.length)):KP s o A B:=by
 have g:k'*B.length+B.length<=k*B.length:=by have:=Kd B.length (show k'+1<=k by omega);rw[Nat.succ_mul] at this;exact this
 have hw:AF B s.length=true:=by
  by_cases h:AF B s.length=true
  .exact h
  .obtain⟨c,hc,hn⟩:=xU h;have e:=congrArg (λl=>l.getD c 0) e;have e:(lfF s (rwF A B) (A.length+k*B.length)).getD c 0=(lfF s (rwF A B) (A.length+k'*B.length)).getD c 0:=e;rw[kY hc,kY hc,rg hB hn _ (!0),rg hB hn (A.length+k'*B.length) (!0)] at e;omega
 refine⟨hB,f,λi hi=>?_,hw⟩;rw[BL hi];by_cases h2:2<=k
 .have:=Kd B.length h2;exact a i (!0)
 .have b:k=1:=!0
  have d:k'=0:=!0
  subst b d;rw[Nat.one_mul,Nat.zero_mul,t0] at e;rw[Nat.one_mul] at a;by_cases h1:i<A.length+B.length
  .exact a i h1
  .have sh:∀j,lfF s (rwF A B) (A.length+j+B.length)=lfF s (rwF A B) (A.length+j):=λj=>by
    induction j with
    | zero=>exact e
    | succ j m =>
     rw[show A.length+(j+1)+B.length=(A.length+j+B.length)+1 by omega];show i5 s (lfF s (rwF A B) (A.length+j+B.length)) (rwF A B (A.length+j+B.length)) s.length=i5 s (lfF s (rwF A B) (A.length+j)) (rwF A B (A.length+j)) s.length;rw[m,uw (!0)]
   have e2:=sT (s:=s) (A:=A) (o:=o) hB f (i:=i - B.length) (!0) (by
    have:=sh (i - B.length - A.length);rwa [show A.length+(i - B.length - A.length)=i - B.length by omega] at this)
   rw[show i - B.length+B.length=i by omega] at e2;rw[e2];exact a _ (!0)
def uy(r:List Int):l9 r=true↔r.Pairwise (·<·):=by
 unfold l9;rw[Kl];constructor
 .intro h;have c:∀i,i+1<r.length->r.getD i 0<r.getD (i+1) 0:=λi hi=>of_decide_eq_true (h _ (Jk.mpr ⟨i,JS.mpr (!0),rfl⟩));have d:∀k i,i+k+1<r.length->r.getD i 0<r.getD (i+k+1) 0:=λk=>by
   induction k with
   | zero=>exactλi hi=>c i hi
   | succ k e =>
    intro i hi;have a:=e i (!0);have b:=c (i+k+1) (!0);rw[show i+(k+1)+1=i+k+1+1 by omega];omega
  rw[Le];intro i j hi hj f;have:=d (j - i - 1) i (!0);rw[show i+(j - i - 1)+1=j by omega] at this;simpa[Jh,hi,hj] using this
 .intro h x hx;obtain⟨i,hi,rfl⟩:=Jk.mp hx;have hi:=JS.mp hi;have h1:i<r.length:=!0
  have h2:i+1<r.length:=!0
  have:=Le.mp h i (i+1) h1 h2 (!0);refine decide_eq_true ?_;simpa[Jh,h1,h2] using this
def Ca(n:Nat)(r:List Int):GM n r=true↔∀x∈r,0<=x/\x<n:=by
 unfold GM;rw[Kl];constructor
 .intro h x hx;obtain⟨i,hi,rfl⟩:=J8 hx;have:=h _ (Jk.mpr ⟨i,JS.mpr hi,rfl⟩);have e:r.getD i 0=r[i]:=by simp[Jh,hi]
  rw[id_eq,JT,decide_eq_true_eq,decide_eq_true_eq,e] at this;exact this
 .intro h x hx;obtain⟨i,hi,rfl⟩:=Jk.mp hx;have:=h _ (aY (JS.mp hi));rw[id_eq,JT,decide_eq_true_eq,decide_eq_true_eq];exact this
theorem ku:∀(n:Nat) (r:List Int),r.Pairwise (·<·)->(∀x∈r,0<=x/\x<n)->r∈cT n
 | 0,r,_,h=>by
  cases r with
  | nil=>simp[cT]
  | cons x l=>have:=h x (!1);omega
 | n + 1,r,d,h=>by
  show r∈cT n++(cT n).map (·++[(n:Int)]);by_cases hn:(n:Int)∈r
  .refine Jg _ ?_;rcases J3 r with rfl|⟨l,x,rfl⟩
   .cases hn
   .rw[J4] at *;obtain⟨f,_,p3⟩:=LH.mp d;have hx:=h x (!1);have c:x=(n:Int):=by
     rcases Jj.mp hn with z|z
     .have:=p3 _ z x (!1);omega
     .exact(Jf.mp z).symm
    refine Jk.mpr ⟨l,ku n l f λy e=>?_,by rw[c]⟩;have a:=h y (by simp[e]);have b:=p3 y e x (!1);omega
  .refine Jl _ (ku n r d λx hx=>?_);have a:=h x hx;have b:x≠(n:Int):=λz=>hn (z▸hx);omega
def Ch(a:l.length=s.length):r∈fJ s.length (o.getD d 0) l↔BK s o l r d=true:=by
 unfold fJ BK sG cD;rw[JB,JT,JT,JT,JT,uy,Ca,Cv,a,decide_eq_true_eq,decide_eq_true_eq];have b:(lv (λc=>decide (c ∉ r)) (c9 l s.length))=[]↔∀c,c<s.length->l.getD c 0=1->(c:Int)∈r:=by
  rw[pw];constructor
  .intro h c hc e;have:=h (c:Int) (by
    unfold c9;exact Jk.mpr ⟨c,JB.mpr ⟨JS.mpr hc,decide_eq_true e⟩,rfl⟩)
   simpa using this
  .intro h x hx;unfold c9 at hx;obtain⟨c,hc,rfl⟩:=Jk.mp hx;obtain⟨h1,h2⟩:=JB.mp hc;have:=h c (JS.mp h1) (of_decide_eq_true h2);simpa using this
 rw[b];constructor
 .rintro⟨h1,h2,h3⟩;obtain⟨_,p,q⟩:=bR _ r h1;exact⟨⟨p,q⟩,h2,h3⟩
 .rintro⟨⟨p,q⟩,h2,h3⟩;exact⟨ku _ r p q,h2,h3⟩
section
variable {κ β:Type}[DecidableEq κ]
def k7(a b:List (κ×β))(k:κ):aI (a++b) k=match aI a k with|some v=>some v|none=>aI b k:=by
 induction a with
 | nil=>rfl
 | cons p a c =>
  rw[vr,aq,aq,c];by_cases h:p.1=k <;> simp[h]
def yF(kvs:List (κ×β))(k:κ)(v:β)(x:κ):aI (kvs.map λp=>if p.1=k then (p.1,v) else p) x=if x=k then (aI kvs x).map λ_=>v else aI kvs x:=by
 induction kvs with
 | nil=>simp[aI]
 | cons p kvs a =>
  rw[Jr,aq,aq,a];by_cases h1:p.1=k
  .by_cases h2:x=k
   .simp[h1,h2]
   .have:¬k=x:=λz=>h2 z.symm;simp[h1,h2,this]
  .by_cases h2:p.1=x
   .subst h2;simp[h1]
   .simp[h1,h2]
def rF(kvs:List (κ×β))(k:κ)(v:β)(x:κ):aI (cV kvs k v) x=if x=k then some v else aI kvs x:=by
 unfold cV;cases e:aI kvs k with
 | some w =>
  rw[Mz (show(some w).isSome=true from rfl),yF];by_cases h:x=k
  .subst h;simp[e]
  .simp[h]
 | none =>
  rw[MA (!1),k7,aq,yG];by_cases h:x=k
  .subst h;simp[e]
  .have:¬k=x:=λz=>h z.symm;simp only[this,h,if_false];cases aI kvs x <;> rfl
end
theorem cG{α:Type} [DecidableEq α]:∀{l U:List α},l.Nodup->(∀x∈l,x∈U)->l.length<=U.length
 | [],_,_,_=>JD _
 | x::l,U,hn,h=>by
  obtain⟨h1,h2⟩:=JO.mp hn;have hx:=h x (!1);have:=cG (l:=l) (U:=U.erase x) h2 λy a=>(List.mem_erase_of_ne (λ(z:y=x)=>h1 (by rw[<-z];exact a))).mpr (h y (by simp[a]));rw[Ln hx] at this;have b:0<U.length:=List.length_pos_of_mem hx;simp;omega
def BJ:r∈fJ n h l↔r∈cT n/\(r.length:Int)<=h/\∀c,c<n->l.getD c 0=1->(c:Int)∈r:=by
 unfold fJ cD;rw[JB,JT,decide_eq_true_eq,decide_eq_true_eq];have a:(lv (λc=>decide (c ∉ r)) (c9 l n))=[]↔∀c,c<n->l.getD c 0=1->(c:Int)∈r:=by
  rw[pw];constructor
  .intro h c hc e;have:=h (c:Int) (by
    unfold c9;exact Jk.mpr ⟨c,JB.mpr ⟨JS.mpr hc,decide_eq_true e⟩,rfl⟩)
   simpa using this
  .intro h x hx;unfold c9 at hx;obtain⟨c,hc,rfl⟩:=Jk.mp hx;obtain⟨h1,h2⟩:=JB.mp hc;have:=h c (JS.mp h1) (of_decide_eq_true h2);simpa using this
 rw[a]
abbrev Std:=Nat×List Int
def bC(s o:List Int)(x:Std)(r:List Int):Std:=((x.1+1) % o.length,i5 s x.2 r s.length)
def IsS(s o:List Int)(x:Std):Prop:=x.1<o.length/\x.2.length=s.length/\∀c,c<s.length->1<=x.2.getD c 0/\x.2.getD c 0<=s.getD c 0
def zT(a:∀x∈s,1<=x)(h:IsS s o x)(b:r∈fJ s.length (o.getD x.1 0) x.2):IsS s o (bC s o x r):=by
 obtain⟨h1,h2,h3⟩:=h;refine⟨sn _ (!0),iZ _ _ _ _,λc hc=>?_⟩;have d:=(BJ.mp b).2.2;show 1<=(i5 s x.2 r s.length).getD c 0/\(i5 s x.2 r s.length).getD c 0<=_;rw[si hc];have h4:=h3 c hc;have h5:=a _ (aY hc);split
 .omega
 .rename_i hn;by_cases e:x.2.getD c 0=1
  .exact absurd (d c hc e) hn
  .omega
def zf:List Int->List (List Int)
 | []=>[[]]
 | x::s=>((cu x.toNat).map λ(i:Nat)=>(zf s).map λl=>((i:Int)+1)::l).flatten
theorem q9:∀{s l:List Int},l.length=s.length->(∀c,c<s.length->1<=l.getD c 0/\l.getD c 0<=s.getD c 0)->l∈zf s
 | [],l,h,_=>by
  rw[Lq.mp h];simp[zf]
 | x::s,[],h,_=>by simp at h
 | x::s,y::l,h,a=>by
  have b:=a 0 (!1);have e:1<=y/\y<=x:=by simpa using b
  have d:=q9 (s:=s) (l:=l) (by simpa using h) λc hc=>by simpa using a (c+1) (by simpa using hc)
  unfold zf;refine L4.mpr ⟨_,Jk.mpr ⟨(y - 1).toNat,JS.mpr (!0),rfl⟩,Jk.mpr ⟨l,d,?_⟩⟩;rw[show(((y - 1).toNat:Nat):Int)+1=y by omega]
def mi:List Int->Nat
 | []=>1
 | x::s=>x.toNat*mi s
theorem sg:∀s:List Int,(zf s).length=mi s
 | []=>rfl
 | x :: s=>by
  unfold zf mi;rw[LN,JI];have:(fI ∘ λ(i:Nat)=>(zf s).map λl=>((i:Int)+1)::l)=λ_=>mi s:=by funext i;simp[sg s]
  rw[this,Mf,Lu,Kh]
def f9(s o:List Int):List Std:=((cu o.length).map λd=>(zf s).map λl=>(d,l)).flatten
def qZ(h:IsS s o x):x∈f9 s o :=
 L4.mpr ⟨_,Jk.mpr ⟨x.1,JS.mpr h.1,rfl⟩,Jk.mpr ⟨x.2,q9 h.2.1 h.2.2,rfl⟩⟩
def ze(s o:List Int):(f9 s o).length=o.length*mi s:=by
 unfold f9;rw[LN,JI];have:(fI ∘ λd=>(zf s).map λl=>((d,l):Std))=λ_=>mi s:=by funext i;simp[sg s]
 rw[this,Mf,Lu,Kh]
def wz(a:List (List Int))(x:List Int):atI (lr (a++[x])) (-1)=some (.list (li x)):=by show atI (eT _ (a++[x])) (-1)=_;rw[Jy];exact dQ _ _
abbrev d7:Stmt:=top 17
def dg:ax ["town", "standing", "lefts", "rows", "full"] ["town", "standing"] (ad d7):={}
def zy:DSp:=λss R=>∃(s o l:List Int) (d:Nat),ss=[.fr (.tuple [.list (li s),.list (li o)]),.fr (.tuple [.int d,.tuple (li l)])]/\s.length<=6/\0<=o.getD d 0/\(s.length<=4\/o.getD d 0<=3)/\StB s o d l /\
 ∀fr:List (List Int),(∀r∈fr,r∈fJ s.length (o.getD d 0) l)->fr.length<64->R (.ow (lr fr)) [.un,.un]
def mD(F:Fun K "full_rows" "full_rows" d7 f fd)(B:Bn mg)(L:wM K base "full_rows" fd)(e:Cal P w K mg base "choices" 6 (spD K jd)):ca P w K mg base CX0 7 f fd ["town", "standing"] (spD K zy):=by
 refine HK (k:=6) F dg (λss R h=>?_) (!2) (λcdv u A outer s H E g=>⟨_,(bB (aw (i:=2) dg.nd rfl (di rfl) (aN (ai (K:=K) rfl) mIx (qv 1) al (λ_ _=>rfl)))
   (bB (aw (i:=3) dg.nd rfl (di rfl) (aD e (g.mono (!2)) rfl (aa (qf 0) (aa (qf 1) ac))))
   (bB (bV (i:=4)  dg.nd rfl rfl (N':=["row", "rows"]) (ix:=[none,some 3]) rfl (bP (N:=_::_) (sc0:=ad d7) rfl rfl (!3)) (aH (K:=K) rfl (qf 3)) (λ_ _ _ _=>(ak (i:=0) (!4) rfl ci)) (λ_ _ _ _=>(dB (aF mr zX (d8 (iA (K:=K) rfl) iw rfl B.len db (aa (qv 0) ac)) (d8 (iA (K:=K) rfl) iw rfl B.len db (aa (aN (ai (K:=K) rfl) mIx (qv 1) (zL gc zW al) (λ_ _=>rfl)) ac)) (aU _)))) (λ_ _ _ _=>(qf 0)))
   (aj (a9 (DQ 2 yr (p := "row") (x := "lefts") (K:=K) rfl (let ⟨c,T,a,b,d⟩:=L;⟨c,T,u.trans a,b,d⟩) (g.mono (!2)) rfl B.sorted (aa (qv 4) ac) ⟨rfl,rfl,rfl,rfl,rfl,!2,!2,!2⟩ rfl (di ci) ci (λz=>nomatch (show(some ip:Option NameKind)=some .local from z)) (λ_ _ _ _ _ _=>rfl) (λc hc=>by cases hc;rfl) rfl (λ_ _ _ _ _ _ v=>(zM yt (K:=K) rfl (jo v) rfl B.sorted (aa (bF (N':=["clock", "lefts"]) (ix:=[none,some 1]) rfl (Ho (!3)) (aH (K:=K) rfl (qf 0)) (λ_ _ _ _=>(ak (i:=0) (!4) rfl ci)) (λ_ _ _ _=>aM) (λ_ _ _ _=>(aN (ai (K:=K) rfl) mIx (qv 1) (qv 0) (λ_ _=>rfl)))) ac))))))))),λss R h=>?_⟩)
 .obtain⟨s,o,l,d,rfl,_⟩:=h;rfl
 obtain⟨s,o,l,d,rfl,t2,O,I,J,q⟩:=h;obtain⟨s1,s2⟩:=id J;walk_at "dd";refine⟨s,o,l,d,rfl,t2,O,I,J,λcs y=>?_⟩;walk_at "dd";have n:cs.length<64:=by rw[y.length_eq];exact hJ t2 I
 have C:∀r∈cs,r.length<=6/\∀x∈r,0<=x/\x<s.length:=λr g=>by
  have:=bR _ r (JB.mp (y.mem_iff.mp g)).1;exact⟨!0,this.2.2⟩
 obtain⟨m,S⟩:∃m:Nat,∀j,j<cs.length->∃z:List Int,atI (lr cs) (-1)=some (.list (li z))/\z.length=m:=by
  rcases J3 cs with rfl|⟨W,r,rfl⟩
  .exact⟨0,λj hj=>absurd hj (KF _)⟩
  .exact⟨r.length,λj hj=>⟨r,by rw[J4];exact wz _ _,rfl⟩⟩
 refine bY (λj=>decide ((cs.getD j []).length=m)) (λj=>.list (li (cs.getD j []))) (by rw[Je];omega) (λj hj Q X h1 h2=>?_) ?_
 .rw[Je] at hj;rw[fN];obtain⟨z,z1,z2⟩:=S j hj;walk_at "dd";refine⟨_,z1,_,rfl,?_⟩;rw[Je,Je];exact cw (λh=>h1 (decide_eq_true (!0))) (λh=>h2 (decide_eq_false (!0)))
 rw[Je,bK cs [] (λr=>decide (r.length=m)) (λr=>dy (li r))];walk_at "dd";have M:(cs.filter λr=>decide (r.length=m)).length<64:=Kj (JQ _ _) n;refine⟨by rw[Je];exact M,λx hx=>?_,λes D=>?_⟩
 .obtain⟨r,g,rfl⟩:=Jk.mp hx;obtain⟨Y,G⟩:=C r (JB.mp g).1;unfold B4;walk_at "dd";refine bT (λi=>.int (l.getD (r.getD i 0).toNat 0)) (by rw[Je];omega) (λi hi Q hQ=>?_) ?_
  .rw[Je] at hi;rw[c7];have Z:=G _ (aY hi);walk_at "dd";rw[show r.getD i 0=((r.getD i 0).toNat:Int) by omega];exact⟨_,dP (!0),hQ⟩
  .walk_at "dx";refine⟨λd hd=>?_,by simp;omega,λes U=>?_⟩
   .obtain⟨i,_,rfl⟩:=Jk.mp hd;exact⟨_,rfl⟩
   .obtain⟨V,_,rfl⟩:=cY (f:=eb) U ((cu (li r).length).map λi=>l.getD (r.getD i 0).toNat 0) (by rw[JI];rfl);exact⟨V,rfl⟩
 .obtain⟨fr,t,rfl⟩:=cY D _ rfl;exact q fr (λr g=>y.mem_iff.mp (JB.mp (t.mem_iff.mp g)).1) (by rw[t.length_eq];exact M)
abbrev stS(x:Std):ah:=bi ((x.1:Int),x.2)
def kOf(x:Std):ay:=((x.1:Int),x.2)
def fW(h:kOf x=kOf y):x=y:=by obtain⟨a,b⟩:=x;obtain⟨c,d⟩:=y;unfold kOf at h;simp only[nl] at h ⊢;exact⟨!0,h.2⟩
def yH{κ β:Type} [DecidableEq κ]{kvs:List (κ×β)}{k:κ}{v:β}(h:aI kvs k=some v):(k,v)∈kvs:=by
 induction kvs with
 | nil=>cases h
 | cons p kvs a =>
  rw[aq] at h;split at h
  .rename_i e;cases h;subst e;exact Jm
  .exact Jq _ (a h)
def yC(W:List (List (List Int))):(cu (eT wD W).length).map (λi:Nat=>dy (li ((W.getD i []).getD 0 [])))=lr (W.map λw=>w.getD 0 []):=by show _=eT _ (eT _ _);rw[Je,JI];refine K4 (!1) λi h1 h2=>?_;rw[Je] at h2;simp[Jh,h2]
def wb(c:List (List Int))(a b:Option Int):tq (lr c) a b=lr ((c.drop (HT.sIx c.length 0 a)).take (HT.sIx c.length c.length b - HT.sIx c.length 0 a)):=by unfold tq;show(List.drop _ (eT (λr=>dy (li r)) c)).take _=eT _ _;rw[Je,Mo,Mp]
def nr(a:List (List Int))(c:Nat):tq (lr a) none (some (c:Int))=lr (a.take c):=by
 rw[wb,HT.sIx_none,HT.sIx_nat,Mi,LA];by_cases h:c<=a.length
 .rw[rd h]
 .rw[K6 (!0),Kq (Jx _),Kq (!0)]
def nt(a:List (List Int))(c:Nat):tq (lr a) (some (c:Int)) none=lr (a.drop c):=by
 rw[wb,HT.sIx_none,HT.sIx_nat];by_cases h:c<=a.length
 .rw[rd h,Kq (!1)]
 .rw[K6 (!0),Kp (Jx _),Kp (!0)];simp
def AL(s o:List Int)(x:Std):List Std:=(fJ s.length (o.getD x.1 0) x.2).map (bC s o x)
def eI(s o:List Int)(x:Std):Prop:=∃S:Std->Prop,S x/\∀y,S y->∃z∈AL s o y,S z
def eI.step{s o:List Int}{x:Std}(h:eI s o x):∃z∈AL s o x,eI s o z:=by obtain⟨S,hx,a⟩:=h;obtain⟨z,hz,sz⟩:=a x hx;exact⟨z,hz,S,sz,a⟩
abbrev Lds:=List (Std×List Std)
abbrev kys(L:Lds):List Std:=L.map (·.1)
structure Fil(s o:List Int)(x0:Std)(L:Lds)(pile:List Std):Prop where
 nd : (kys L).Nodup
 is : ∀p∈L,IsS s o p.1
 suc:∀p∈L,p.2.Perm (AL s o p.1)
 pis:∀x∈pile,IsS s o x
 st : x0∈pile\/x0∈kys L
 cl : ∀p∈L,∀y∈p.2,y∈pile\/y∈kys L
 pl : pile.length<=64*L.length+1
section
def Fil.init(h:IsS s o x0):Fil s o x0 [] [x0]:=⟨!1,!1,!1,by simpa using h,!1,!1,!1⟩
def Fil.few(h:Fil s o x0 L pile):L.length<=(f9 s o).length:=by
 have:=cG (U:=f9 s o) h.nd λx hx=>by
  obtain⟨p,a,rfl⟩:=Jk.mp hx;exact qZ (h.is p a)
 simpa using this
def Fil.skip(h:Fil s o x0 L (pile++[x]))(hx:x∈kys L):Fil s o x0 L pile:=by
 refine⟨h.nd,h.is,h.suc,λy a=>h.pis y (by simp[a]),?_,λp b y a=>?_,by have:=h.pl;simp at this;omega⟩
 .rcases h.st with e|e
  .rcases Jj.mp e with e|e
   .exact .inl e
   .rw[Jf.mp e];exact .inr hx
  .exact .inr e
 .rcases h.cl p b y a with e|e
  .rcases Jj.mp e with e|e
   .exact .inl e
   .rw[Jf.mp e];exact .inr hx
  .exact .inr e
def Fil.add(g:∀c∈s,1<=c)(h:Fil s o x0 L (pile++[x]))(hx:x ∉ kys L)(hv:v.Perm (AL s o x))(l:v.length<64):Fil s o x0 (L++[(x,v)]) (pile++v):=by
 have ix:IsS s o x:=h.pis x (!1);have key:∀y,y∈pile++[x]\/y∈kys L->y∈pile++v\/y∈kys (L++[(x,v)]):=by
  intro y d;rcases d with e|e
  .rcases Jj.mp e with e|e
   .exact .inl (by simp[e])
   .exact .inr (by simp[Jf.mp e])
  .exact .inr (by simp only[kys,Jy,Jj];exact .inl e)
 refine⟨?_,λp f=>?_,λp f=>?_,λy d=>?_,key _ h.st,λp f y d=>?_,?_⟩
 .simp only[kys,Jy,Jr,Kv];refine Ju.mpr ⟨h.nd,!1,λa i b j e=>?_⟩;rw[Jf.mp j] at e;exact hx (e▸i)
 .rcases Jj.mp f with e|e
  .exact h.is p e
  .rw[Jf.mp e];exact ix
 .rcases Jj.mp f with e|e
  .exact h.suc p e
  .rw[Jf.mp e];exact hv
 .rcases Jj.mp d with e|e
  .exact h.pis y (by simp[e])
  .obtain⟨r,k,rfl⟩:=Jk.mp (hv.mem_iff.mp e);exact zT g ix k
 .rcases Jj.mp f with e|e
  .exact key y (h.cl p e y d)
  .rw[Jf.mp e] at d;exact .inl (by simp[d])
 .have:=h.pl;simp at this ⊢;omega
structure Sft(s o:List Int)(x0:Std)(L:Lds):Prop where
 nd : (kys L).Nodup
 sub:∀p∈L,∀y∈p.2,y∈AL s o p.1
 can:eI s o x0->x0∈kys L
 go : ∀p∈L,∀y∈AL s o p.1,eI s o y->y∈p.2/\y∈kys L
 few:L.length<=(f9 s o).length
 sh : ∀p∈L,p.2.length<64
def Fil.sft(h:Fil s o x0 L [])(b:∀p∈L,p.2.length<64):Sft s o x0 L:=by
 refine⟨h.nd,λp a y c=>(h.suc p a).mem_iff.mp c,λ_=>?_,λp a y c _=>?_,h.few,b⟩
 .rcases h.st with e|e
  .cases e
  .exact e
 .have:=(h.suc p a).mem_iff.mpr c;refine⟨this,?_⟩;rcases h.cl p a y this with e|e
  .cases e
  .exact e
def stp(L:Lds)(p:Std×List Std):List Std:=p.2.filter λy=>decide (y∈kys L)
def xx(L A:Lds):Lds:=(A.filter λp=>decide (stp L p≠[])).map λp=>(p.1,stp L p)
def qy(L A:Lds):kys (xx L A)=kys (A.filter λp=>decide (stp L p≠[])):=by simp[kys,xx,Function.comp_def]
def AQ(hq:q∈L)(e:q.1=y)(h:stp L q≠[]):y∈kys (xx L L):=by rw[qy];exact Jk.mpr ⟨q,JB.mpr ⟨hq,by simpa using h⟩,e⟩
def Sft.keep(h:Sft s o x0 L)(a:y∈kys L)(hc:eI s o y):y∈kys (xx L L):=by obtain⟨q,hq,e⟩:=Jk.mp a;obtain⟨z,hz,b⟩:=hc.step;obtain⟨z1,z2⟩:=h.go q hq z (by rw[show q.1=y from e];exact hz) b;refine AQ hq e λhn=>?_;have:z∈stp L q:=JB.mpr ⟨z1,by simpa using z2⟩;rw[hn] at this;cases this
def Sft.next(h:Sft s o x0 L):Sft s o x0 (xx L L):=by
 have b:∀p∈xx L L,∃q∈L,stp L q≠[]/\p=(q.1,stp L q):=λp a=>by
  obtain⟨q,hq,rfl⟩:=Jk.mp a;obtain⟨h1,h2⟩:=JB.mp hq;exact⟨q,h1,by simpa using h2,rfl⟩
 refine⟨?_,λp a y c=>?_,λhc=>h.keep (h.can hc) hc,λp a y c hc=>?_,?_,λp a=>?_⟩
 .rw[qy];exact h.nd.sublist (rB.map _)
 .obtain⟨q,hq,_,rfl⟩:=b p a;exact h.sub q hq y (JB.mp c).1
 .obtain⟨q,hq,_,rfl⟩:=b p a;obtain⟨h1,h2⟩:=h.go q hq y c hc;exact⟨JB.mpr ⟨h1,by simpa using h2⟩,h.keep h2 hc⟩
 .refine Jt ?_ h.few;unfold xx;rw[Je];exact JQ _ _
 .obtain⟨q,hq,_,rfl⟩:=b p a;exact Kj (JQ _ _) (h.sh q hq)
end
section
variable {κ:Type}[DecidableEq κ]{U:List κ}{kvs:List (κ×ah)}{k:κ}{d:ah}
structure KvU(U:List κ)(kvs:List (κ×ah)):Prop where
 nd : (kvs.map (·.1)).Nodup
 key:∀x∈kvs,x.1∈U
def KvU.len(h:KvU U kvs):kvs.length<=U.length:=by
 have:=cG h.nd (U:=U) λx hx=>by
  obtain⟨p,a,rfl⟩:=Jk.mp hx;exact h.key p a
 simpa using this
def iC(h:¬(aI kvs k).isSome=true):k ∉ kvs.map (·.1):=by
 induction kvs with
 | nil=>simp
 | cons p kvs a =>
  rw[aq] at h;by_cases z:p.1=k
  .rw[Mz z] at h;exact absurd rfl h
  .rw[MA z] at h;simp only[Jr,Jo,not_or];exact⟨λe=>z e.symm,a h⟩
def jf{p:κ×ah}(a:p∈cV kvs k d):p=(k,d)\/p∈kvs/\p.1≠k:=by
 unfold cV at a;split at a
 .obtain⟨q,hq,rfl⟩:=Jk.mp a;split
  .rename_i z;exact .inl (by rw[z])
  .rename_i z;exact .inr ⟨hq,z⟩
 .rename_i z;rcases Jj.mp a with h|h
  .exact .inr ⟨h,λe=>iC z (e▸Ky h)⟩
  .exact .inl (Jf.mp h)
def KvU.set(h:KvU U kvs)(hk:k∈U)(d:ah):KvU U (cV kvs k d):=by
 refine⟨?_,λx hx=>?_⟩
 .unfold cV;split
  .rw[JI,show kvs.map _=kvs.map (·.1) from rA λp _=>?_]
   .exact h.nd
   .show(if p.1=k then (p.1,d) else p).1=p.1;split <;> rfl
  .rename_i c;rw[Jy];exact Ju.mpr ⟨h.nd,!1,λa f b e z=>iC c (by simp at e;rw[<-e,<-z];exact f)⟩
 .rcases jf hx with rfl|z
  .exact hk
  .exact h.key x z.1
def AT:kvs.length<=(cV kvs k d).length:=by unfold cV;split <;> simp
def AS(h:(aI kvs k).isSome=false):(cV kvs k d).length=kvs.length+1:=by unfold cV;rw[h];simp
end
abbrev KvI(n:Nat):=KvU ((cu n).map λi:Nat=>(i:Int))
theorem KvI.len(h:KvI n kvs):kvs.length<=n:=by have:=KvU.len h;simpa using this
theorem KvI.set(h:KvI n kvs)(hi:i<n)(d:ah):KvI n (cV kvs (i:Int) d):=KvU.set h (Ky (JS.mpr hi)) d
inductive Chn (s o:List Int) (x0:Std):List (Std×List (List Int))->Prop
 | nil:Chn s o x0 []
 | one {fr}:(∀r∈fr,r∈fJ s.length (o.getD x0.1 0) x0.2)->Chn s o x0 [(x0,fr)]
 | go {x r w fr Z}:Chn s o x0 ((x,r::w)::Z)->(∀q∈fr,q∈fJ s.length (o.getD (bC s o x r).1 0) (bC s o x r).2)->Chn s o x0 ((bC s o x r,fr)::(x,r::w)::Z)
section
variable {s o:List Int}{x0 x:Std}{p:Std×List (List Int)}{Z:List (Std×List (List Int))}{r:List Int}{w:List (List Int)}
def Chn.rows:Chn s o x0 (p::Z)->∀r∈p.2,r∈fJ s.length (o.getD p.1.1 0) p.1.2
 | .one h=>h
 | .go _ h=>h
def Chn.lose(h:Chn s o x0 (p::Z)):Chn s o x0 Z:=by
 cases h with
 | one=>exact .nil
 | go h _=>exact h
def Chn.skip(h:Chn s o x0 ((x,r::w)::Z)):Chn s o x0 ((x,w)::Z):=by
 cases h with
 | one h=>exact .one λq hq=>h q (Jq _ hq)
 | go h h2=>exact .go h λq hq=>h2 q (Jq _ hq)
def Chn.back(h:Chn s o x0 Z):(Z≠[]->x0∈Z.map (·.1))/\∀q∈Z.tail,∃r t,q.2=r::t/\r∈fJ s.length (o.getD q.1.1 0) q.1.2/\bC s o q.1 r∈Z.map (·.1):=by
 induction h with
 | nil=>exact⟨λz=>absurd rfl z,λq hq=>nomatch hq⟩
 | one h=>exact⟨λ_=>Jm,λq hq=>nomatch hq⟩
 | go h h2 a =>
  refine⟨λ_=>Jq _ (a.1 (L7 _ _)),λq hq=>?_⟩;rcases Jo.mp hq with rfl|hq
  .exact⟨_,_,rfl,h.rows _ Jm,Jm⟩
  .obtain⟨r,t,e1,e2,e3⟩:=a.2 q hq;exact⟨r,t,e1,e2,Jq _ e3⟩
def Chn.heads(h:Chn s o x0 ((x,r::w)::Z)):∀q∈(x,r::w)::Z,∃r t,q.2=r::t/\r∈fJ s.length (o.getD q.1.1 0) q.1.2:=λq hq=>by
 rcases Jo.mp hq with rfl|hq
 .exact⟨_,_,rfl,h.rows _ Jm⟩
 .obtain⟨r,t,e1,e2,_⟩:=h.back.2 q hq;exact⟨r,t,e1,e2⟩
def Chn.ring(h:Chn s o x0 ((x,r::w)::Z))(hk:bC s o x r∈((x,r::w)::Z).map (·.1)):eI s o x0:=⟨λy=>y∈((x,r::w)::Z).map (·.1),h.back.1 (L7 _ _),λy a=>by
 obtain⟨q,hq,rfl⟩:=Jk.mp a;rcases Jo.mp hq with rfl|hq
 .exact⟨_,Ky (h.rows r Jm),hk⟩
 .obtain⟨r,t,_,e2,e3⟩:=h.back.2 q hq;exact⟨_,Ky e2,e3⟩⟩
end
inductive Ik (s o:List Int) (x0:Std) (m:Nat):List Sl->Prop
 | mk (Z:List (Std×List (List Int))) (kvs:List (ay×ah)) (lost:List Std) (S1 S2:List ao) (a b:Sl) (ps ls:List ah) (ws:ah):ps=(Z.map (·.1)).reverse.map stS->ws=ga (Z.map (·.2)).reverse->ls=lost.map stS ->
  Chn s o x0 Z->(∀p∈Z,IsS s o p.1/\p.2.length<64)->KvU ((f9 s o).map kOf) kvs->(∀p∈kvs,p.2=.none\/∃(y:Std) (i:Nat),p=(kOf y,.int i)/\(Z.map (·.1)).reverse[i]? = some y)->Z.length+lost.length<=kvs.length->m=((f9 s o).length - kvs.length)*66+(Z.map λp=>p.2.length+1).sum ->
  Ik s o x0 m [.fr (.tuple [.list (li s),.list (li o)]),.fr (stS x0),.ow ps,.tr S1 ws,.tr S2 (bz kvs),.ow ls,a,b]
abbrev bZ:Stmt:=top 18
def aQ:ax ["town", "standing", "path", "ways", "places", "lost", "ahead", "rows"] ["town", "standing"] (ad bZ):={}
def TbL(s o:List Int):Prop:=s.length<=6/\1<=o.length/\(∀x∈s,1<=x)/\(∀h∈o,0<=h)/\(s.length<=4\/∀h∈o,h<=3)/\(f9 s o).length<100000
def zv:DSp:=λss R=>∃(s o:List Int) (x0:Std),ss=[.fr (.tuple [.list (li s),.list (li o)]),.fr (stS x0)]/\TbL s o/\IsS s o x0 /\
 (eI s o x0->∀(A B:List (List Int)) (x:ah),1<=B.length->B.length<=(f9 s o).length->(∀r∈B,∃h l,r∈fJ s.length h l)->R (.fr (.tuple [.tuple [.list (lr A),.list (lr B)],x])) [.un,.un]) /\
 ∀x:ah,R (.fr (.tuple [.none,x])) [.un,.un]
def gS(F:Fun K "looked_through" "looked_through" bZ f fd)(B:Bn mg)(c:Cal P w K mg base "full_rows" 7 (spD K zy))(m:Cal P w K mg base "behind" 1 (spD K iN)):ca P w K mg base CX0 9 f fd ["town", "standing"] (spD K zv):=by
 refine okD (k:=8) F aQ (λss R h=>?_) (!2) (λcdv A outer s H E J=>⟨_,(ae (aw (i:=2) aQ.nd rfl ci (b7 (aa (qf 1) ac)))
   (ae (aw (i:=3) aQ.nd rfl ci (DX (aa (aD c (J.mono (!2)) rfl (aa (qf 0) (aa (qf 1) ac))) ac)))
   (ae (aw (i:=4) aQ.nd rfl ci (DZ (K:=K) rfl (hu2 J) (qf 1) al))
   (ae (aw (i:=5) aQ.nd rfl ci (b7 ac))
   (ae (cg PassesOwn.never (gp (K:=K) rfl (qv 2)) (ae (gP (j7 (uH 3 (K:=K) rfl rfl)) (ae (b9 (gr 5 (K:=K) rfl rfl (sH 2 (K:=K) rfl rfl)))
   (ae (fL 4 (K:=K) rfl (hu2 J) rfl (aN (ai (K:=K) rfl) mIx (qv 5) (zL gc zW al) (λ_ _=>rfl)) gq)
   (ae (b9 (DU 3 (K:=K) rfl rfl))
   (aj sI)))) bS)
   (ae (aw (i:=6) aQ.nd rfl ci (aD m (J.mono (!2)) rfl (aa (qf 0) (aa (aN (ai (K:=K) rfl) mIx (qv 2) (zL gc zW al) (λ_ _=>rfl)) (aa (A8 3 (K:=K) rfl rfl) ac)))))
   (aj (gP (aF (gY (K:=K) rfl (hu2 J)) gW (qv 6) (qv 4) (by with_unfolding_all rfl)) (ae (fL 4 (K:=K) rfl (hu2 J) rfl (qf 6) (d8 (iA (K:=K) rfl) iw rfl B.len db (aa (qv 2) ac)))
   (ae (b9 (gr 2 (K:=K) rfl rfl (qf 6)))
   (aj (b9 (D2 3 (K:=K) rfl rfl (aD c (J.mono (!2)) rfl (aa (qf 0) (aa (qf 6) ac)))))))) (aj (gP (aF vd GC (aN (nV (K:=K) rfl (hu2 J)) nU (qv 4) (qv 6) (λ_ _=>rfl)) gq (aU _)) (aj (b9 (A3 3 (K:=K) rfl rfl))) (ae (bV (i:=7)  aQ.nd rfl rfl (N':=["way"]) (ix:=[none]) rfl (bP (N:=_::_) (sc0:=ad bZ) rfl rfl (!3)) (aH (K:=K) rfl (qf 3)) (λ_ _ _ _=>(ak (i:=0) (!4) rfl ci)) (λ_ _ _ _=>aM) (λ_ _ _ _=>(aN (ai (K:=K) rfl) II (qv 0) al (λ_ _=>rfl))))
   (aj (a9 (cQ (aa (cQ (aa (oJ (K:=K) rfl (qv 7) fS (fR (aN (nV (K:=K) rfl (hu2 J)) nU (qv 4) (qv 6) (λ_ _=>rfl)))) (aa (oJ (K:=K) rfl (qv 7) (fR (aN (nV (K:=K) rfl (hu2 J)) nU (qv 4) (qv 6) (λ_ _=>rfl))) fS) ac))) (aa (qf 5) ac)))))))))))))
   (aj (a9 (cQ (aa gq (aa (qf 5) ac)))))))))),λss R h=>?_⟩)
 .obtain⟨s,o,x0,rfl,_⟩:=h;rfl
 obtain⟨s,o,x0,rfl,⟨t1,t2,t3,t4,t5,t6⟩,U,q1,q2⟩:=h;have D:∀n:Nat,n<=100000->n<sizeLine:=λn h=>Jp (!0) af;have hh:∀d,d<o.length->0<=o.getD d 0/\(s.length<=4\/o.getD d 0<=3):=λd hd=>⟨t4 _ (aY hd),t5.imp id λh=>h _ (aY hd)⟩
 have M:∀{y:Std},IsS s o y->kOf y∈(f9 s o).map kOf:=λh=>Ky (qZ h);walk_at "dx";refine⟨Jt (!2) af,?_⟩;walk_at "dx";refine⟨s,o,x0.2,x0.1,rfl,t1,(hh _ U.1).1,(hh _ U.1).2,⟨U.1,U.2.1⟩,λfr O T=>?_⟩;refine⟨[wD fr],?_,Jt (!2) af,λS=>?_⟩
 .show(jO [] (Sl.ow (lr fr))).bind _=_;rw[p8];rfl
 walk_at "dx";refine⟨kOf x0,rfl,rfl,λS1=>?_⟩;walk_at "dx";refine⟨JD _,?_⟩;walk_at "dx";refine gJ (Ik s o x0) ⟨_,.mk [(x0,fr)] [(kOf x0,.int 0)] [] S S1 _ _ _ _ _ rfl rfl rfl (.one O) ?_ ⟨!1,?_⟩ ?_ (!1) rfl⟩ λE hM=>?_
 .intro p j;rw[Jf.mp j];exact⟨U,T⟩
 .intro p j;rw[Jf.mp j];exact M U
 .intro p j;rw[Jf.mp j];exact .inr ⟨x0,0,rfl,rfl⟩
 rintro _ env ⟨Z,kvs,lost,S1,S2,a,b,_,_,_,rfl,rfl,rfl,W,L,hU,G,X,rfl⟩;have hN:kvs.length<=(f9 s o).length:=by have:=hU.len;rwa [Je] at this
 walk_at "dx";cases Z with
 | nil =>
  rw[MA (!1)];walk_at "dx";exact⟨Jt (!2) af,q2 _⟩
 | cons p Z =>
 obtain⟨x,w⟩:=p;obtain⟨I,hw⟩:=L _ Jm;simp only[Jr,Kf,JX,r6] at G X I hw ⊢;have a0:(Z.map (·.1)).reverse.length=Z.length:=!1
 have a5:(Z.map (·.2)).reverse.length=Z.length:=!1
 generalize hP:(Z.map (·.1)).reverse=P at *;generalize hV:(Z.map (·.2)).reverse=V at *;rw[Jy,Mz (!1)];cases w with
 | nil =>
  refine⟨V,[],rfl,?_⟩;rw[Mz (show(!([]:List (List Int)).isEmpty)=false from rfl)];refine⟨stS x,!1,D _ (by simp;omega),?_⟩;walk_at "dx";refine⟨⟨kvs,rfl⟩,stS x,dQ _ _,kvs,rfl,kOf x,rfl,D _ (!0),?_⟩;walk_at "dx";refine⟨V,[],rfl,λS'=>?_⟩;walk_at "dx";have ge:=AT (kvs:=kvs) (k:=kOf x) (d:=.none);refine⟨_,?_,.mk Z (cV kvs (kOf x) .none) (lost++[x]) _ _ _ _ _ _ _ (by rw[hP];simp) (by rw[hV]) (!1) W.lose (λp j=>L p (Jq _ j)) (hU.set (M I) _) (λp j=>?_) ?_ rfl⟩
  .have:=Kd 66 (show(f9 s o).length - (cV kvs (kOf x) .none).length<=(f9 s o).length - kvs.length by omega);simp;omega
  .rcases jf j with rfl|⟨j,ne⟩
   .exact .inl rfl
   .refine(G p j).imp id λa3=>?_;obtain⟨y,i,e,g⟩:=a3;refine⟨y,i,e,?_⟩;rw[hP];by_cases hi:i<P.length
    .rwa [JV hi] at g
    .rw[K2 (!0)] at g;have:=Km g;rw[Jf.mp this] at e;exact absurd (by rw[e]) ne
  .rw[Jz,JP];omega
 | cons r w =>
  refine⟨V,r::w,rfl,?_⟩;rw[MA (show ¬(!(r::w).isEmpty)=false from by simp)];have C:=zT t3 I (W.rows r Jm);walk_at "dx";refine⟨stS x,dQ _ _,V,r,w,rfl,s,o,x.2,r,x.1,rfl,t2,I.2.1,!0,?_⟩;walk_at "dx";refine⟨kOf (bC s o x r),rfl,rfl,kvs,rfl,cw (λh=>?_) (λh=>?_)⟩
  .have h':(aI kvs (kOf (bC s o x r))).isSome=false:=by simpa using h
   have nw:=λd=>AS (d:=d) h';have Y:=λd=>hU.set (M C) d;have l2:=(Y .none).len;rw[nw,Je] at l2;refine⟨⟨kvs,rfl⟩,kvs,rfl,kOf (bC s o x r),rfl,rfl,D _ (!0),?_⟩;walk_at "dx";refine⟨D _ (by simp;omega),?_⟩;walk_at "dx";refine⟨s,o,(bC s o x r).2,(bC s o x r).1,rfl,t1,(hh _ C.1).1,(hh _ C.1).2,⟨C.1,C.2.1⟩,λfr O T=>?_⟩;walk_at "dx";refine⟨wD fr,p8 (env:=[]) fr,D _ (by simp;omega),λS'=>(hM _).nx _ ⟨_,?_,.mk ((bC s o x r,fr)::(x,r::w)::Z) _ lost _ _ _ _ _ _ _ ?_ ?_ rfl (.go W O) (λp j=>?_) (Y _) (λp j=>?_) ?_ rfl⟩⟩
   .rw[nw];simp;omega
   .rw[Jr,Jr,Kf,Kf,hP,Jy,Jy];rfl
   .simp[hV,ga]
   .rcases Jo.mp j with rfl|j
    .exact⟨C,T⟩
    .exact L p j
   .rcases jf j with rfl|⟨j,ne⟩
    .refine .inr ⟨bC s o x r,_,rfl,?_⟩;simp[hP,a0]
    .refine(G p j).imp id λa4=>?_;obtain⟨y,i,e,g⟩:=a4;refine⟨y,i,e,?_⟩;simp only[Jr,Kf,hP];rw[JV (Js.mp g).1];exact g
   .rw[nw];simp;omega
  .cases hv:aI kvs (kOf (bC s o x r)) with
   | none=>rw[hv] at h;exact absurd rfl h
   | some v =>
    refine⟨kvs,rfl,kOf (bC s o x r),rfl,rfl,v,hv,?_⟩;rcases G _ (yH hv) with e|⟨y,k,e,hk⟩
    .simp only at e;subst e;rw[Mz (show k4 .none=true from rfl)];refine⟨V,r,w,rfl,(hM _).nx _ ⟨_,?_,.mk ((x,w)::Z) kvs lost _ _ _ _ _ _ _ (by simp[hP]) (by simp[hV]) rfl W.skip (λp j=>?_) hU (λp j=>?_) ?_ rfl⟩⟩
     .simp
     .rcases Jo.mp j with rfl|j
      .exact⟨I,by simp at hw ⊢;omega⟩
      .exact L p (Jq _ j)
     .simp only[Jr,Kf,hP];exact G p j
     .simpa using X
    .injection e with e1 e2;rw[<-fW e1] at hk;subst e2;rw[MA (show ¬k4 (.int (k:Int))=true fromλz=>L9 z)];have hW:∀u∈V++[r::w],∃q t,u=q::t/\∃h l,q∈fJ s.length h l:=λu hu=>by
      rw[<-hV] at hu;obtain⟨p,j,rfl⟩:=Jk.mp (show u∈((x,r::w)::Z).map (·.2) by simp at hu ⊢;exact hu.symm);obtain⟨q,t,e1,e2⟩:=W.heads p j;exact⟨q,t,e1,_,_,e2⟩
     refine bT (λi=>.list (li (((V++[r::w]).getD i []).getD 0 []))) (by simp;omega) (λi hi Q hQ=>?_) ?_
     .rw[Je] at hi;obtain⟨q,t,e,_⟩:=hW _ (JF hi);rw[JG,e];rw[show(V++[r::w]).getD i []=(V++[r::w])[i] by rw[Jh,Ji hi];rfl,e] at hQ;walk_at "dx";exact⟨_,rfl,hQ⟩
     rw[yC];walk_at "dx";refine⟨kvs,rfl,kOf (bC s o x r),rfl,rfl,_,hv,_,rfl,kvs,rfl,kOf (bC s o x r),rfl,rfl,_,hv,_,rfl,?_⟩;rw[nr,nt];refine⟨Jt (!2) af,Jt (!2) af,(hM _).rt _ _ ?_⟩
     walk_at "d2";refine q1 (W.ring ?_) _ _ _ ?_ ?_ λq hq=>?_
     .have:=Km hk;rw[<-hP] at this;simp at this ⊢;exact this.symm
     .have:=(Js.mp hk).1;simp at this ⊢;omega
     .simp;omega
     .obtain⟨u,hu,rfl⟩:=Jk.mp (KZ hq);obtain⟨q,t,rfl,f⟩:=hW u hu;exact f
abbrev jm:Stmt:=top 19
def sD:ax ["town"] ["town"] (ad jm):={}
def qq:DSp:=λss R=>∃(s o:List Int),ss=[.fr (.tuple [.list (li s),.list (li o)])]/\TbL s o/\R (.fr .none) [.un]/\(eI s o (0,s)->∀A B:List (List Int),1<=B.length->B.length<=(f9 s o).length->(∀r∈B,∃h l,r∈fJ s.length h l)->R (.fr (.tuple [.list (lr A),.list (lr B)])) [.un])
def sM(F:Fun K "plan_of" "plan_of" jm f fd)(B:Bn mg)(a:Cal P w K mg base "looked_through" 9 (spD K zv))(b:Cal P w K mg base "begun" 1 (spD K je)):ca P w K mg base CX0 10 f fd ["town"] (spD K qq):=by
 refine okD (k:=9) F sD (λss R h=>?_) (!2) (λcdv A outer s H E d=>⟨_,(aj (a9 (aN (ai (K:=K) rfl) mIx (aD a (d.mono (!2)) rfl (aa (qf 0) (aa (aD b (d.mono (!2)) rfl (aa (qf 0) ac)) ac))) al (λ_ _=>rfl)))),λss R h=>?_⟩)
 .obtain⟨s,o,rfl,_⟩:=h;rfl
 obtain⟨s,o,rfl,t,e,q⟩:=h;obtain⟨t1,t2,g,i,j,l⟩:=id t;walk_at "dd";refine⟨s,o,rfl,?_⟩;walk_at "dd";refine⟨s,o,(0,s),rfl,t,⟨t2,rfl,λc hc=>⟨g _ (aY hc),KK _⟩⟩,λhc A B x h1 h2 h3=>?_,λx=>?_⟩
 .walk_at "dx";exact q hc A B h1 h2 h3
 .walk_at "dx";exact e
section
abbrev Stp:=Int×Nat×List Int
inductive de (pk:Nat->Option Stp):Nat->Prop
 | root {i:Nat}:pk i=none->de pk i
 | step {i:Nat}{s:Stp}:pk i=some s->de pk s.2.1->de pk i
inductive Val (p q:Int) (pk:Nat->Option Stp):Nat->Int->Prop
 | root {i:Nat}:pk i=none->Val p q pk i 0
 | step {i:Nat}{s:Stp}{v:Int}:pk i=some s->Val p q pk s.2.1 v->Val p q pk i (q*s.1 - p+v)
inductive Pth (pk:Nat->Option Stp):Nat->List Stp->Nat->Prop
 | nil (i:Nat):Pth pk i [] i
 | cons {i j:Nat}{s:Stp}{l:List Stp}:pk i=some s->Pth pk s.2.1 l j->Pth pk i (s::l) j
def Val.same{p q:Int}{pk:Nat->Option Stp}{i:Nat}{v w:Int}(h:Val p q pk i v)(h':Val p q pk i w):v=w:=by
 induction h generalizing w with
 | root e =>
  cases h' with
  | root _=>rfl
  | step a _=>rw[e] at a;cases a
 | step e _ b =>
  cases h' with
  | root a=>rw[e] at a;cases a
  | step a h' =>
   rw[e] at a;cases a;rw[b h']
def de.val(h:de pk i):∃v,Val p q pk i v:=by
 induction h with
 | root e=>exact⟨0,.root e⟩
 | step e _ a =>
  obtain⟨v,hv⟩:=a;exact⟨_,.step e hv⟩
structure iL(p q:Int)(pk ag:Nat->Option Stp)(P:Nat->Int):Prop where
 val:∀i,Val p q pk i (P i)
 none:∀i,ag i=.none->pk i=.none
 less:∀i s,ag i=some s->pk i=some s\/q*s.1 - p+P s.2.1<P i
variable {p q:Int}{pk ag:Nat->Option Stp}{P:Nat->Int}
def iL.le(h:iL p q pk ag P)(e:ag i=some s):q*s.1 - p+P s.2.1<=P i:=by
 rcases h.less i s e with z|z
 .have h1:=h.val i;have h2:=Val.step (p:=p) (q:=q) z (h.val s.2.1);have:=h1.same h2;omega
 .omega
def iL.down(h:iL p q pk ag P)(hv:Val p q ag i v):v<=P i:=by
 induction hv with
 | root e=>rw[(h.val _).same (.root (h.none _ e))];exact KK _
 | step e _ a =>
  have:=h.le e;omega
def iL.lt(h:iL p q pk ag P)(hv:Val p q ag i v)(c:ag i≠pk i):v<P i:=by
 cases hv with
 | root e=>exact absurd (e.trans (h.none _ e).symm) c
 | step e hv =>
  have h1:=h.down hv;rcases h.less _ _ e with z|z
  .exact absurd (e.trans z.symm) c
  .omega
def fv(l:List Stp):Int:=(l.map (·.1)).sum
def ja(s:Stp)(l:List Stp):fv (s::l)=s.1+fv l:=by unfold fv;rw[Jr,r6]
def iL.path(h:iL p q pk ag P)(a:Pth ag i l j):q*fv l - p*l.length<=P i - P j/\(Pth pk i l j\/q*fv l - p*l.length<P i - P j):=by
 induction a with
 | nil i=>exact⟨by simp[fv],.inl (.nil i)⟩
 | cons e _ b =>
  rename_i i j s l _;rw[ja,JX];have e1:q*(s.1+fv l) - p*((l.length+1:Nat):Int)=(q*s.1 - p)+(q*fv l - p*l.length):=by rw[oo,KG,oo];simp;omega
  rw[e1];have c:=h.le e;refine⟨!0,?_⟩;rcases h.less _ _ e with z|z
  .rcases b.2 with w|w
   .exact .inl (.cons z w)
   .exact .inr (!0)
  .exact .inr (!0)
def Pth.app(h:Pth pk i l j)(h':Pth pk j m k):Pth pk i (l++m) k:=by
 induction h with
 | nil i=>exact h'
 | cons e _ a=>exact .cons e (a h')
def de.noLoop(h:de pk i):∀{l:List Stp},Pth pk i l i->l=[]:=by
 have key:∀{i j:Nat}{l:List Stp},de pk i->Pth pk i l j->de pk j:=by
  intro i j l h b
  induction b with
  | nil i=>exact h
  | cons e _ c =>
   cases h with
   | root a=>rw[e] at a;cases a
   | step a h =>
    rw[e] at a;cases a;exact c h
 induction h with
 | root e =>
  intro l b;cases b with
  | nil=>rfl
  | cons a _=>rw[e] at a;cases a
 | step e _ c =>
  intro l b;cases b with
  | nil=>rfl
  | cons a b =>
   rw[e] at a;cases a;have:=c (b.app (.cons e (.nil _)));simp at this
def iL.loop(h:iL p q pk ag P)(a:∀i,de pk i)(b:Pth ag i l i)(c:l≠[]):q*fv l<p*l.length:=by
 obtain⟨_,h2⟩:=h.path b;rcases h2 with z|z
 .exact absurd ((a i).noLoop z) c
 .omega
def jN(pk:Nat->Option Stp)(c:List Nat):Nat->Option Stp:=λi=>if i∈c then none else pk i
def de.cut(c:List Nat)(h:de pk i):de (jN pk c) i:=by
 induction h with
 | root e =>
  refine .root ?_;unfold jN;split
  .rfl
  .exact e
 | step e _ a =>
  rename_i i s _;by_cases z:i∈c
  .exact .root (Mz z)
  .exact .step ((MA z).trans e) a
def de.cut2(h:de (jN pk c) i):de (jN pk (c++c')) i:=by
 have e:jN (jN pk c) c'=jN pk (c++c'):=by funext j;unfold jN;by_cases z:j∈c' <;> by_cases w:j∈c <;> simp[z,w]
 rw[<-e];exact h.cut c'
theorem fE:∀(n:Nat) (l:List Nat),l.Nodup->(∀x∈l,x<n)->l.length<=n
 | 0,l,_,h=>by
  cases l with
  | nil=>exact Jx _
  | cons a l=>exact absurd (h a (!1)) (KF _)
 | n + 1,l,nd,h=>by
  by_cases z:n∈l
  .have h1:=fE n (l.erase n) (nd.erase n) λx hx=>by
    have b:=List.mem_of_mem_erase hx;have:x≠n:=λe=>by rw[e] at hx;exact(List.Nodup.not_mem_erase nd) hx
    have:=h x b;omega
   rw[Ln z] at h1;omega
  .have:=fE n l nd λx hx=>by
    have:x≠n:=λe=>z (e▸hx);have:=h x hx;omega
   omega
inductive Way (pk:Nat->Option Stp):Nat->List Nat->Prop
 | root {i:Nat}:pk i=none->Way pk i []
 | step {i:Nat}{s:Stp}{l:List Nat}:pk i=some s->Way pk s.2.1 l->Way pk i (i::l)
def de.way(h:de pk i):∃l,Way pk i l:=by
 induction h with
 | root e=>exact⟨[],.root e⟩
 | step e _ a=>exact⟨_,.step e a.choose_spec⟩
def Way.pth(h:Way pk i l):∀x∈l,∃m,Pth pk i m x:=by
 induction h with
 | root e=>intro x hx;cases hx
 | step e _ a =>
  intro x hx;rcases Jo.mp hx with rfl|hx
  .exact⟨[],.nil _⟩
  .obtain⟨m,b⟩:=a x hx;exact⟨_,.cons e b⟩
def Way.nodup(h:Way pk i l)(a:∀i,de pk i):l.Nodup:=by
 induction h with
 | root e=>exact Ki
 | step e hw b =>
  refine JO.mpr ⟨λz=>?_,b⟩;obtain⟨m,c⟩:=hw.pth _ z;have:=(a _).noLoop (Pth.cons e c);cases this
def Way.low(g:0<=p)(hq:0<=q)(h:Way pk i l)(hn:∀i s,pk i=some s->i<n/\0<=s.1/\s.1<=C)(hv:Val p q pk i v):(∀x∈l,x<n)/\-(p*l.length)<=v/\v<=q*C*l.length:=by
 induction h generalizing v with
 | root e=>cases hv with
  | root _=>exact⟨(λx hx=>nomatch hx),!1,!1⟩
  | step a _=>rw[e] at a;cases a
 | step e hw b =>
  rename_i i s l;cases hv with
  | root a=>rw[e] at a;cases a
  | step a hv =>
   rw[e] at a;cases a;obtain⟨h1,h2,h3⟩:=b hv;obtain⟨c,d,f⟩:=hn _ _ e;refine⟨λx hx=>?_,?_,?_⟩
   .rcases Jo.mp hx with rfl|hx
    .exact c
    .exact h1 x hx
   .have:=Mr hq d;rw[JX,KG,oo];simp;omega
   .have:=KT f hq;rw[JX,KG,oo];simp;omega
def AG(c:0<=p)(hq:0<=q)(hC:0<=C)(d:∀i,de pk i)(hn:∀i s,pk i=some s->i<n/\0<=s.1/\s.1<=C)(hv:Val p q pk i v):-(p*n)<=v/\v<=q*C*n:=by obtain⟨l,e⟩:=(d i).way;obtain⟨h1,h2,h3⟩:=e.low c hq hn hv;have:=fE n l (e.nodup d) h1;have a:=KT (Int.ofNat_le.mpr this) c;have b:=KT (Int.ofNat_le.mpr this) (Mr hq hC);omega
def dL(D p q:Nat):Nat:=p*(D / q)
def xB{D p q p' q':Nat}(hD:0<D)(h:q∣D)(h':q'∣D)(lt:p'*q<p*q'):dL D p' q'<dL D p q:=by
 obtain⟨a,rfl⟩:=h;obtain⟨b,c⟩:=h';have q0:0<q:=KQ λz=>by rw[z] at hD;simp at hD
 have d:0<q':=KQ λz=>by rw[z] at c;rw[c] at hD;simp at hD
 have e:0<b:=KQ λz=>by rw[z] at c;rw[c] at hD;simp at hD
 unfold dL;rw[Ls a q0,c,Ls b d];refine Nat.lt_of_mul_lt_mul_right (a:=q) ?_;have e1:p*a*q=p*q'*b:=by rw[J7,KO a q,c,J7]
 have e2:p'*b*q=p'*q*b:=by rw[J7,KO b q,J7]
 rw[e1,e2];exact Nat.mul_lt_mul_of_lt_of_le lt (Jx _) e
def ym{D p q:Nat}(hD:0<D)(h:q∣D):p<=dL D p q:=by have:=Nat.div_pos (Mw hD h) (KQ λz=>by rw[z] at h;have:=Nat.eq_zero_of_zero_dvd h;omega);unfold dL;exact Nat.le_mul_of_pos_right _ this
def dH(f:Nat->Int):Nat->Int
 | 0=>0
 | n+1=>dH f n+f n
theorem iM:∀n,(∀i,i<n->f i<=g i)->dH f n<=dH g n
 | 0,_=>KK _
 | n+1,h=>by
  have:=iM n λi hi=>h i (!0);have:=h n (!0);show dH f n+f n<=dH g n+g n;omega
theorem qa:∀n,(∀i,i<n->f i<=g i)->(∃i,i<n/\f i<g i)->dH f n<dH g n
 | 0,_,h=>by obtain⟨i,hi,_⟩:=h;omega
 | n + 1,h,⟨i,hi,a⟩=>by
  show dH f n+f n<dH g n+g n;have h1:=h n (!0);by_cases z:i=n
  .subst z;have:=iM i λj hj=>h j (!0);omega
  .have:=qa n (λj hj=>h j (!0)) ⟨i,!0,a⟩;omega
theorem fP(c:Int):∀n,dH (λ_=>c) n=n*c
 | 0=>by simp[dH]
 | n+1=>by
  show dH (λ_=>c) n+c=_;rw[fP c n,KG,Int.add_mul];simp
def kZ(D B n:Nat)(p q:Nat)(P:Nat->Int):Nat:=dL D p q*(B+1)+(dH (λi=>P i+p*n) n).toNat
def CY(D R n C:Nat):Nat:=n*(D*C*n+R*n)
def yi{D R n C p q:Nat}{P:Nat->Int}(hD:0<D)(hq:q∣D)(hR:dL D p q<=R)(hP:∀i,i<n->-((p:Int)*n)<=P i/\P i<=(q:Int)*C*n):0<=dH (λi=>P i+p*n) n/\(dH (λi=>P i+p*n) n).toNat<=CY D R n C:=by
 have e:0<=dH (λi=>P i+p*n) n:=by
  have:=iM (f:=λ_=>0) (g:=λi=>P i+p*n) n λi hi=>by have:=(hP i hi).1;omega
  rw[fP] at this;simpa using this
 refine⟨e,?_⟩;have h:p<=R:=Jt (ym hD hq) hR;have d:=Mw hD hq;have h1:=iM (f:=λi=>P i+p*n) (g:=λ_=>((D*C*n+R*n:Nat):Int)) n λi hi=>by
  have a:=(hP i hi).2;have b:q*C*n<=D*C*n:=Kd _ (Kd _ d);have c:p*n<=R*n:=Kd _ h;have j:(q:Int)*C*n<=((D*C*n:Nat):Int):=by exact_mod_cast b
  have c':(p:Int)*n<=((R*n:Nat):Int):=by exact_mod_cast c
  show P i+p*n<=_;rw[KG];omega
 rw[fP] at h1;have:(n:Int)*((D*C*n+R*n:Nat):Int)=((CY D R n C:Nat):Int):=by
  unfold CY
  exact_mod_cast rfl
 omega
def BT{D B n p q p' q':Nat}{P a:Nat->Int}(h:dL D p' q'<dL D p q)(b:(dH (λi=>a i+p'*n) n).toNat<=B):kZ D B n p' q' a<kZ D B n p q P:=by unfold kZ;have:=Kd (B+1) (Nat.succ_le_of_lt h);rw[Nat.succ_mul] at this;omega
def yg{D B n p q:Nat}{P a:Nat->Int}(h:∀i,i<n->a i<=P i)(b:∃i,i<n/\a i<P i)(c:0<=dH (λi=>a i+p*n) n):kZ D B n p q a<kZ D B n p q P:=by unfold kZ;have:=qa (f:=λi=>a i+p*n) (g:=λi=>P i+p*n) n (λi hi=>by have:=h i hi;omega) (by obtain⟨i,hi,d⟩:=b;exact⟨i,hi,!0⟩);omega
inductive Nds (pk:Nat->Option Stp):Nat->List Nat->Nat->Prop
 | nil (i:Nat):Nds pk i [] i
 | cons {i j:Nat}{s:Stp}{l:List Nat}:pk i=some s->Nds pk s.2.1 l j->Nds pk i (i::l) j
def Nds.snoc(h:Nds pk i l j)(e:pk j=some s):Nds pk i (l++[j]) s.2.1:=by
 induction h with
 | nil i=>exact .cons e (.nil _)
 | cons a _ b=>exact .cons a (b e)
def Nds.ends(h:Nds pk i l j)(a:de (jN pk c) j):∀x∈l,de (jN pk c) x:=by
 have key:∀{i j:Nat}{l:List Nat},Nds pk i l j->de (jN pk c) j->de (jN pk c) i:=by
  intro i j l h a
  induction h with
  | nil i=>exact a
  | cons e _ b =>
   rename_i i j s l _;by_cases z:i∈c
   .exact .root (Mz z)
   .exact .step ((MA z).trans e) (b a)
 induction h with
 | nil i=>intro x hx;cases hx
 | cons e h b =>
  intro x hx;rcases Jo.mp hx with rfl|hx
  .exact key (.cons e h) a
  .exact b a x hx
def Nds.from(h:Nds pk i l j)(hx:x∈l):∃m,Nds pk x m j/\m≠[]/\m.length<=l.length:=by
 induction h with
 | nil i=>cases hx
 | cons e h a =>
  rename_i i j s l;rcases Jo.mp hx with rfl|hx
  .exact⟨_,.cons e h,!1,Jx _⟩
  .obtain⟨m,h1,h2,h3⟩:=a hx;exact⟨m,h1,h2,by rw[JX];omega⟩
structure LpI(n:Nat)(ag:Nat->Option Stp)(k:Nat)(seen:List (Nat×Nat))(loops:List (List Stp))(cuts:List Nat):Prop where
 nd : (seen.map (·.1)).Nodup
 lt : ∀x∈seen,x.1<n/\x.2<k
 ends:∀x∈seen,de (jN ag cuts) x.1
 all:∀i,i<k->i∈seen.map (·.1)\/ag i=none
 cut:cuts=loops.map λl=>(l.getLastD (0,0,[])).2.1
 loop:∀l∈loops,l≠[]/\l.length<=n/\∃i,Pth ag i l i
def LpI.fin(h:LpI n ag n seen loops cuts)(hn:∀i s,ag i=some s->i<n):∀i,de (jN ag cuts) i:=λi=>by
 have key:ag i=none->de (jN ag cuts) i:=λe=>de.cut cuts (.root e);by_cases z:i<n
 .rcases h.all i z with w|w
  .obtain⟨x,hx,rfl⟩:=Jk.mp w;exact h.ends x hx
  .exact key w
 .refine key ?_;cases e:ag i with
  | none=>rfl
  | some s=>exact absurd (hn i s e) z
structure LpW(n:Nat)(ag:Nat->Option Stp)(k:Nat)(seen:List (Nat×Nat))(ys:List Nat)(here:Nat):Prop where
 way:Nds ag k ys here
 nd : ((seen++ys.map λy=>(y,k)).map (·.1)).Nodup
 lt : ∀y∈ys,y<n
def LpW.go(h:LpW n ag k seen ys here)(e:ag here=some s)(d:here<n)(hx:here ∉ (seen++ys.map λy=>(y,k)).map (·.1)):LpW n ag k seen (ys++[here]) s.2.1:=by
 refine⟨h.way.snoc e,?_,λy f=>?_⟩
 .have e2:(seen++(ys++[here]).map λy=>(y,k)).map (·.1)=(seen++ys.map λy=>(y,k)).map (·.1)++[here]:=!1
  rw[e2];exact Ju.mpr ⟨h.nd,!1,λa g b c z=>hx (by rw[Jf] at c;rw[<-c,<-z];exact g)⟩
 .rcases Jj.mp f with z|z
  .exact h.lt y z
  .rw[Jf.mp z];exact d
def LpW.few(h:LpW n ag k seen ys here)(b:∀x∈seen,x.1<n):seen.length+ys.length<=n:=by
 have:=fE n _ h.nd λx hx=>by
  rw[Jy,Jj] at hx;rcases hx with z|z
  .obtain⟨y,a,rfl⟩:=Jk.mp z;exact b y a
  .obtain⟨y,a,rfl⟩:=Jk.mp z;obtain⟨w,hw,rfl⟩:=Jk.mp a;exact h.lt w hw
 simpa using this
def LpI.next(h:LpI n ag k seen loops cuts)(w:LpW n ag k seen ys here)(d:de (jN ag cuts) here)(e:ys=[]->ag k=none\/k∈seen.map (·.1)):LpI n ag (k+1) (seen++ys.map λy=>(y,k)) loops cuts:=by
 have b:=w.way.ends d;refine⟨w.nd,λx hx=>?_,λx hx=>?_,λi hi=>?_,h.cut,h.loop⟩
 .rcases Jj.mp hx with z|z
  .have:=h.lt x z;exact⟨this.1,!0⟩
  .obtain⟨y,b,rfl⟩:=Jk.mp z;exact⟨w.lt y b,by show k<k+1;omega⟩
 .rcases Jj.mp hx with z|z
  .exact h.ends x z
  .obtain⟨y,c,rfl⟩:=Jk.mp z;exact b y c
 .rw[Jy,Jj];by_cases z:i=k
  .subst z;cases ys with
   | nil =>
    rcases e rfl with q|q
    .exact .inr q
    .exact .inl (.inl q)
   | cons a ys =>
    cases w.way with
    | cons _ _=>exact .inl (.inr (!1))
  .rcases h.all i (!0) with q|q
   .exact .inl (.inl q)
   .exact .inr q
def LpI.more(h:LpI n ag k seen loops cuts)(a:l≠[])(hn:l.length<=n)(b:Pth ag i l i):LpI n ag k seen (loops++[l]) (cuts++[(l.getLastD (0,0,[])).2.1]):=by
 refine⟨h.nd,h.lt,λx hx=>(h.ends x hx).cut2,h.all,by rw[h.cut];simp,λm c=>?_⟩;rcases Jj.mp c with z|z
 .exact h.loop m z
 .rw[Jf.mp z];exact⟨a,hn,i,b⟩
def Nds.rest(h:Nds pk i m j)(d:Pth pk i l t)(b:l.length<=m.length):∃a,Nds pk t a j/\a.length+l.length=m.length:=by
 induction d generalizing m with
 | nil i=>exact⟨m,h,rfl⟩
 | cons e _ f =>
  cases h with
  | nil=>simp at b
  | cons c h =>
   rw[e] at c;cases c;obtain⟨a,h1,h2⟩:=f h (by simpa using b);exact⟨a,h1,by simp;omega⟩
def Pth.snoc(h:Pth pk i l j)(e:pk j=some s):Pth pk i (l++[s]) s.2.1:=h.app (.cons e (.nil _))
def Pth.last(h:Pth pk i l j)(b:l≠[]):(l.getLastD (0,0,[])).2.1=j:=by
 induction h with
 | nil i=>exact absurd rfl b
 | cons e c d =>
  rename_i i j s l;cases l with
  | nil=>cases c;rfl
  | cons a l=>exact d (!1)
def Nds.loop(h:Nds pk a m a)(b:Pth pk a l t)(c:l.length<=m.length)(ne:t≠a):(∃s,pk t=some s)/\l.length<m.length:=by
 obtain⟨d,h1,h2⟩:=h.rest b c;cases h1 with
 | nil=>exact absurd rfl ne
 | cons e _=>exact⟨⟨_,e⟩,by simp at h2;omega⟩
theorem Nds.at(h:Nds pk i ys j):∀m,m<ys.length->∃s,pk (ys.getD m 0)=some s/\s.2.1=(ys++[j]).getD (m+1) 0:=by
 induction h with
 | nil i=>intro m a;simp at a
 | cons e hd b =>
  rename_i i j s l;intro m a;cases m with
  | zero =>
   refine⟨s,e,?_⟩;cases hd with
   | nil=>rfl
   | cons _ _=>rfl
  | succ m =>
   obtain⟨t,h1,h2⟩:=b m (by simpa using a);exact⟨t,by simpa using h1,by simpa using h2⟩
structure PcI(p q:Int)(pk:Nat->Option Stp)(k:Nat)(f:Nat->Option Int):Prop where
 val:∀i v,f i=some v->Val p q pk i v
 all:∀i,i<k->(f i).isSome=true
structure PcW(p q:Int)(pk:Nat->Option Stp)(k:Nat)(f:Nat->Option Int)(ys:List Nat)(here m:Nat):Prop extends PcI p q pk k f where
 here:(f here).isSome=true
 done:∀j,j<m->(f (ys.getD (ys.length - 1 - j) 0)).isSome=true
def PcW.next{k here m:Nat}{f:Nat->Option Int}{ys:List Nat}(h:PcW p q pk k f ys here m)(w:Nds pk k ys here)(c:m<ys.length):∃s v,pk (ys.getD (ys.length - 1 - m) 0)=some s/\f s.2.1=some v/\∀g:Nat->Option Int,(∀i,g i=if i=ys.getD (ys.length - 1 - m) 0 then some (q*s.1 - p+v) else f i)->PcW p q pk k g ys here (m+1):=by
 obtain⟨s,h1,h2⟩:=w.at (ys.length - 1 - m) (!0)
 have b:(f s.2.1).isSome=true:=by
  rw[h2];cases m with
  | zero =>
   have:(ys++[here]).getD (ys.length - 1 - 0+1) 0=here:=by rw[show ys.length - 1 - 0+1=ys.length by omega,Jh];simp
   rw[this];exact h.here
  | succ m =>
   have:(ys++[here]).getD (ys.length - 1 - (m+1)+1) 0=ys.getD (ys.length - 1 - m) 0:=by rw[show ys.length - 1 - (m+1)+1=ys.length - 1 - m by omega,Jh,JV (!0),<-Jh]
   rw[this];exact h.done m (!0)
 obtain⟨v,hv⟩:=J9.mp b;refine⟨s,v,h1,hv,λg hg=>?_⟩;have up:∀i,(f i).isSome=true->(g i).isSome=true:=λi hi=>by
  rw[hg];split
  .rfl
  .exact hi
 refine⟨⟨λi u a=>?_,λi hi=>up i (h.all i hi)⟩,up _ h.here,λj hj=>?_⟩
 .rw[hg] at a;by_cases z:i=ys.getD (ys.length - 1 - m) 0
  .rw[Mz z] at a;cases a;rw[z];exact .step h1 (h.val _ _ hv)
  .rw[MA z] at a;exact h.val i u a
 .by_cases z:j=m
  .subst z;rw[hg,Mz rfl];rfl
  .exact up _ (h.done j (!0))
def PcW.fin{k here:Nat}{f:Nat->Option Int}{ys:List Nat}(h:PcW p q pk k f ys here ys.length)(w:Nds pk k ys here):PcI p q pk (k+1) f:=by
 refine⟨h.val,λi hi=>?_⟩;by_cases z:i=k
 .subst z;cases w with
  | nil=>exact h.here
  | cons e _ =>
   rename_i l _;have:=h.done (l.length) (!1);simpa using this
 .exact h.all i (!0)
def Way.next(h:Way pk i l)(e:pk i=some s):∃b,Way pk s.2.1 b/\l.length=b.length+1:=by
 cases h with
 | root a=>rw[e] at a;cases a
 | step a h =>
  rw[e] at a;cases a;exact⟨_,h,rfl⟩
def xo(hv:∀i,Val p q pk i (P i))(e:pk i=some s):¬q*s.1 - p+P s.2.1<P i:=λz=>by
 have:=(hv i).same (.step e (hv s.2.1));omega
inductive Gth (steps:Nat->List Stp):Nat->List Stp->Nat->Prop
 | nil (i:Nat):Gth steps i [] i
 | cons {i j:Nat}{s:Stp}{l:List Stp}:s∈steps i->Gth steps s.2.1 l j->Gth steps i (s::l) j
def uB{ks:List Nat}{steps:Nat->List Stp}(hc:∀x∈ks,∀s∈steps x,s.2.1∈ks){i j:Nat}{l:List Stp}(h:Gth steps i l j)(hi:i∈ks):j∈ks:=by
 induction h with
 | nil i=>exact hi
 | cons e _ a=>exact a (hc _ hi _ e)
end
def ii(s:Stp):ah:=.tuple [.int s.1,.int s.2.1,.list (li s.2.2)]
def Jb(a:ah)(i:Nat)(v:Int):Prop:=(∃l:List Int,a=.list (li l)/\i<l.length/\l.getD i 0=v)\/∃kvs,a=dG kvs/\aI kvs (i:Int)=some (.int v)
abbrev dY:Stmt:=top 28
def l6:ax ["steps", "cost", "prices"] ["steps", "cost", "prices"] (ad dY):={}
def F7:DSp:=λss R=>∃(st:List Stp) (p q:Int) (a:ah) (f:Nat->Int),ss=[.fr (.list (st.map ii)),.fr (.tuple [.int p,.int q]),.fr a]/\st.length<=1000/\(∀s∈st,wO q s.1/\Jb a s.2.1 (f s.2.1))/\R (.ow (li (st.map λs=>q*s.1 - p+f s.2.1))) [.un,.un,.un]
def mw(F:Fun K "prices_by" "prices_by" dY f fd)(B:Bn mg):ca P w K mg base CX0 1 f fd ["steps", "cost", "prices"] (spD K F7):=by
 refine okD (k:=0) F l6 (λss R h=>?_) (!2) (λcdv A outer s H E d=>⟨_,(aj (a9 (bF (N':=["step", "cost", "prices"]) (ix:=[none,some 1,some 2]) rfl (bP (N:=_::_) (sc0:=ad dY) rfl rfl (!3)) (aH (K:=K) rfl (qf 0)) (λ_ _ _ _=>(ak (i:=0) (!4) rfl ci)) (λ_ _ _ _=>aM) (λ_ _ _ _=>(bX cr mI (bX u7 mI (bX ff mIC (aN (ai (K:=K) rfl) mIx (qv 1) al (λ_ _=>rfl)) (aN (ai (K:=K) rfl) mIx (qv 0) al (λ_ _=>rfl))) (aN (ai (K:=K) rfl) mIx (qv 1) al (λ_ _=>rfl))) (aN (GH (K:=K) rfl) Gz (qv 2) (aN (ai (K:=K) rfl) mIx (qv 0) al (λ_ _=>rfl)) (λ_ _=>rfl))))))),λss R h=>?_⟩)
 .obtain⟨st,p,q,b,f,rfl,_⟩:=h;rfl
 obtain⟨st,p,q,b,f,rfl,g,c,r⟩:=h;walk_at "dx";refine bT (λi=>.int (q*(st.getD i (0,0,[])).1 - p+f (st.getD i (0,0,[])).2.1)) (by rw[Je];omega) (λi hi Q hQ=>?_) ?_
 .rw[Je] at hi;have e:(st.map ii)[i]'(by rw[Je];exact hi)=ii (st.getD i (0,0,[])):=by
   rw[JG,Jh,Ji hi];rfl
  rw[e];have a:=c (st.getD i (0,0,[])) (by rw[Jh,Ji hi];exact JF hi);generalize st.getD i (0,0,[])=s at *;unfold ii;walk_at "dx";obtain⟨hc,a⟩:=a;refine⟨hc,?_⟩;rcases a with⟨l,rfl,h1,h2⟩|⟨kvs,rfl,h2⟩
  .exact .inl ⟨_,rfl,_,dP h1,_,rfl,h2▸hQ⟩
  .exact .inr ⟨kvs,rfl,_,h2,_,rfl,hQ⟩
 .rw[Je,iS,aT st (0,0,[]) (λs:Stp=>q*s.1 - p+f s.2.1)];walk_at "dx";exact r
abbrev jn:Stmt:=top 33
def sE:ax ["one", "other"] ["one", "other"] (ad jn):={}
def zw:DSp:=λss R=>∃(a b c d:Int),ss=[.fr (.tuple [.int a,.int b]),.fr (.tuple [.int c,.int d])]/\wO a d/\wO c b/\R (.fr (.bool (decide (a*d<c*b)))) [.un,.un]
def sN(F:Fun K "is_less" "is_less" jn f fd)(B:Bn mg):ca P w K mg base CX0 1 f fd ["one", "other"] (spD K zw):=by
 refine okD (k:=0) F sE (λss R h=>?_) (!2) (λcdv A outer s H E e=>⟨_,(aj (a9 (xF oT mB (bX ff mIC (aN (ai (K:=K) rfl) mIx (qv 0) al (λ_ _=>rfl)) (aN (ai (K:=K) rfl) mIx (qv 1) al (λ_ _=>rfl))) (bX ff mIC (aN (ai (K:=K) rfl) mIx (qv 1) al (λ_ _=>rfl)) (aN (ai (K:=K) rfl) mIx (qv 0) al (λ_ _=>rfl))) (aU _)))),λss R h=>?_⟩)
 .obtain⟨a,b,c,d,rfl,_⟩:=h;rfl
 obtain⟨a,b,c,d,rfl,h1,h2,q⟩:=h;walk_at "dx";exact⟨h1,h2,q⟩
def fe:Option Stp->ah
 | none=>.none
 | some s=>ii s
def pkF(pl:List (Option Stp))(i:Nat):Option Stp:=pl.getD i none
def pfK(kvs:List (Int×ah))(i:Nat):Option Int:=match aI kvs (i:Int) with
 | some (.int v)=>some v
 | _=>none
def Ay(kvs:List (Int×ah)):Prop:=∀k d,aI kvs k=some d->∃v,d=.int v
def oP:pfK kvs i=some v↔aI kvs (i:Int)=some (.int v):=by
 unfold pfK;constructor
 .intro h;split at h
  .rename_i w e;cases h;exact e
  .cases h
 .intro h;rw[h]
theorem Ay.some(h:Ay kvs)(i:Nat):(pfK kvs i).isSome=(aI kvs (i:Int)).isSome:=by
 cases e:aI kvs (i:Int) with
 | none =>
  unfold pfK;rw[e];rfl
 | some d =>
  obtain⟨v,rfl⟩:=h _ _ e;rw[oP.mpr e];rfl
def kI(kvs:List (Int×ah))(i:Nat)(v:Int)(j:Nat):pfK (cV kvs (i:Int) (.int v)) j=if j=i then some v else pfK kvs j:=by
 unfold pfK;rw[rF];by_cases z:j=i
 .rw[Mz z,Mz (by rw[z])]
 .rw[MA z,MA (λe=>z (!0))]
def Ay.set(h:Ay kvs)(i v:Int):Ay (cV kvs i (.int v)):=λk d e=>by
 rw[rF] at e;split at e
 .cases e;exact⟨v,rfl⟩
 .exact h k d e
abbrev nD(ys:List Nat):List ah:=ys.map λy:Nat=>eb (y:Int)
def mj{pl:List (Option Stp)}(h:i<pl.length):atI (pl.map fe) (i:Int)=some (fe (pkF pl i)):=cp (by
 rw[JE,pkF,Jh,Ji h];rfl)
theorem Way.some(h:Way pk i l):∀x∈l,∃s,pk x=.some s:=by
 induction h with
 | root e=>intro x hx;cases hx
 | step e _ a =>
  intro x hx;rcases Jo.mp hx with rfl|hx
  .exact⟨_,e⟩
  .exact a x hx
inductive Ij (pl:List (Option Stp)) (p q:Int) (k:Nat):List Sl->Prop
 | mk (S:List ao) (kvs:List (Int×ah)) (a b c d:Sl):KvI pl.length kvs->Ay kvs->PcI p q (pkF pl) k (pfK kvs)->Ij pl p q k [.io (pl.map fe),.fr (.tuple [.int p,.int q]),.tr S (dG kvs),a,b,c,d]
inductive Ii (pl:List (Option Stp)) (p q:Int) (S:List ao) (kvs:List (Int×ah)) (k n:Nat) (d:Sl) (M:Nat):List Sl->Prop
 | mk (ys:List Nat) (here:Nat) (l:List Nat) (ls:List ah):ls=nD ys->Nds (pkF pl) k ys here->here<pl.length->Way (pkF pl) here l->M=l.length->ys.length+l.length=n->Ii pl p q S kvs k n d M [.io (pl.map fe),.fr (.tuple [.int p,.int q]),.tr S (dG kvs),.fr (.int k),.ow ls,.fr (.int here),d]
inductive Ih (pl:List (Option Stp)) (p q:Int) (S:List ao) (k here:Nat) (ys:List Nat) (m:Nat):List Sl->Prop
 | mk (kvs:List (Int×ah)) (d:Sl):KvI pl.length kvs->Ay kvs->PcW p q (pkF pl) k (pfK kvs) ys here m->Ih pl p q S k here ys m [.io (pl.map fe),.fr (.tuple [.int p,.int q]),.tr S (dG kvs),.fr (.int k),.fr (.list (nD ys)),.fr (.int here),d]
abbrev iO:Stmt:=top 29
def cW:ax ["picked", "cost", "prices", "first", "walk", "here", "number"] ["picked", "cost"] (ad iO):={}
def qp:DSp:=λss R=>∃(pl:List (Option Stp)) (p q:Int),ss=[.io (pl.map fe),.fr (.tuple [.int p,.int q])]/\pl.length<=1000/\(∀i,de (pkF pl) i)/\(∀i s,pkF pl i=some s->wO q s.1/\s.2.1<pl.length) /\
 ∀P:List Int,P.length=pl.length->(∀i,i<pl.length->Val p q (pkF pl) i (P.getD i 0))->R (.ow (li P)) [.io (pl.map fe),.un]
def vg(F:Fun K "priced" "priced" iO f fd)(B:Bn mg)(n:Cal P w K mg base "prices_by" 1 (spD K F7)):ca P w K mg base CX0 2 f fd ["picked", "cost"] (spD K qp):=by
 refine okD (k:=1) F cW (λss R h=>?_) (!2) (λcdv A outer s H E hr=>⟨_,(ae (aw (i:=2) cW.nd rfl (di rfl) zN)
   (ae (dD PassesOwn.never rfl (cJ rfl B.range (aa (d8 (iA (K:=K) rfl) iw rfl B.len db (aa (qv 0) ac)) ac)) (ak (i:=3) cW.nd rfl ci) (ae (aw (i:=4) cW.nd rfl ci (b7 ac))
   (ae (aw (i:=5) cW.nd rfl ci (qf 3))
   (ae (cg PassesOwn.never (PW.pt (qK (aF gu kW (qv 5) (qv 2) (by with_unfolding_all rfl)) (kE (aF kK ya (aN (ai (K:=K) rfl) mIx (qv 0) (qv 5) (λ_ _=>rfl)) gq (aU _))))) (ae (b9 (gr 4 (K:=K) rfl rfl (qf 5)))
   (aj (aw (i:=5) cW.nd rfl ci (aN (ai (K:=K) rfl) mIx (aN (ai (K:=K) rfl) mIx (qv 0) (qv 5) (λ_ _=>rfl)) al (λ_ _=>rfl))))))
   (ae (Gj 2 (K:=K) rfl rfl (qf 5) al)
   (aj (dD PassesOwn.never rfl (DM (K:=K) rfl rfl B.reversed (aa (qf 4) ac)) (ak (i:=6) cW.nd rfl ci) (aj (uL 2 (K:=K) rfl rfl (qf 6) (A6 (aN (ai (K:=K) rfl) mIx (aD n (hr.mono (!2)) rfl (aa (b7 (aa (aN (ai (K:=K) rfl) mIx (qv 0) (qv 6) (λ_ _=>rfl)) ac)) (aa (qf 1) (aa (qf 2) ac)))) al (λ_ _=>rfl))))))))))))
   (eZ 2 (aj (a9 (bF (N':=["number", "prices"]) (ix:=[none,some 2]) rfl (bP (N:=_::_) (sc0:=ad iO) rfl rfl (!3)) (cJ rfl B.range (aa (d8 (iA (K:=K) rfl) iw rfl B.len db (aa (qv 0) ac)) ac)) (λ_ _ _ _=>(ak (i:=0) (!4) rfl ci)) (λ_ _ _ _=>aM) (λ_ _ _ _=>(aN (C6 (K:=K) rfl) C5 (qv 1) (qv 0) (λ_ _=>rfl))))))))),λss R h=>?_⟩)
 .obtain⟨pl,p,q,rfl,_⟩:=h;rfl
 obtain⟨pl,p,q,rfl,hl,V,W,r⟩:=h;walk_at "dx";intro S;walk_at "dx";rw[Je];refine⟨!0,!0,iG (Ij pl p q) (.mk _ _ _ _ _ _ ⟨!1,(λx hx=>nomatch hx)⟩ (λk d e=>nomatch e) ⟨(λi v e=>nomatch e),(λi hi=>absurd hi (KF _))⟩) (λE hN=>?_) ?_⟩
 .rintro k env hk ⟨S,kvs,a,b,c,d,kv,t,pc⟩;rw[aA,JN] at hk;rw[bf,u2];walk_at "dx";obtain⟨X,Y⟩:=(V k).way;have I:∀{i:Nat}{l:List Nat},Way (pkF pl) i l->l.length<=pl.length:=λ{i l} w=>fE _ _ (w.nodup V) λx hx=>by
   obtain⟨s,e⟩:=w.some x hx;refine K7 λz=>?_;rw[pkF,Jh,J0 z] at e;cases e
  refine⟨JD _,?_⟩;walk_at "dx";refine gJ (Ii pl p q S kvs k X.length d) ⟨_,.mk [] k X _ rfl (.nil k) hk Y rfl (!1)⟩ λF hM=>?_;rintro _ env ⟨ys,here,l,_,rfl,u,L,wy,rfl,a0⟩;walk_at "dx";have J:∀o:Option Stp,k4 (fe o)=o.isNone:=λo=>by cases o <;> rfl
  refine(λ(m:((aI kvs (here:Int)).isSome=true\/pkF pl here=none)->dNx _ _ [.io (pl.map fe),.fr (.tuple [.int p,.int q]),.tr S (dG kvs),.fr (.int k),.ow (nD ys),.fr (.int here),d])=>⟨kvs,rfl,cw (λh1=>⟨_,mj L,cw (λh2=>?hB) (λh2=>m (.inr (by
   rw[J] at h2;cases e:pkF pl here with
   | none=>rfl
   | some s=>rw[e] at h2;exact absurd rfl h2)))⟩) (λh1=>m (.inl (by
   cases e:(aI kvs (here:Int)).isSome with
   | true=>rfl
   | false=>exact absurd e h1)))⟩) λhm=>?hT
  case hB =>
   rw[J] at h2;obtain⟨s,es⟩:=J9.mp (show(pkF pl here).isSome=true by cases e:pkF pl here with
    | none=>rw[e] at h2;cases h2
    | some s=>rfl)
   obtain⟨Z,w1,w2⟩:=wy.next es;have:=I Y;refine⟨by rw[Je];exact Jp (!0) af,?_⟩;walk_at "dx";refine⟨_,mj L,?_⟩;rw[es];exact⟨_,rfl,_,rfl,(hM _).nx _ ⟨Z.length,!0,.mk (ys++[here]) s.2.1 Z _ (!1) (u.snoc es) (W _ _ es).2 w1 rfl (by simp;omega)⟩⟩
  case hT =>
   walk_at "dx";have kl:=kv.len;refine(λ(m2:∀(g:List (Int×ah)),KvI pl.length g->Ay g->PcW p q (pkF pl) k (pfK g) ys here 0->dNx _ _ [.io (pl.map fe),.fr (.tuple [.int p,.int q]),.tr S (dG g),.fr (.int k),.ow (nD ys),.fr (.int here),d])=>⟨⟨kvs,rfl⟩,kvs,rfl,Jp (!0) af,cw (λh=>m2 kvs kv t ⟨pc,by rw[t.some];exact h,λj hj=>!0⟩) (λh=>m2 _ (kv.set L _) (t.set _ _) ?hN)⟩) λg M O D=>?hF
   case hN =>
    have e0:=hm.resolve_left h;have up:∀i,(pfK kvs i).isSome=true->(pfK (cV kvs (here:Int) (.int 0)) i).isSome=true:=λi hi=>by
     rw[kI];split
     .rfl
     .exact hi
    refine⟨⟨λi v e=>?_,λi hi=>up i (pc.all i hi)⟩,by rw[kI,Mz rfl];rfl,λj hj=>!0⟩;rw[kI] at e;split at e
    .rename_i z;cases e;rw[z];exact .root e0
    .exact pc.val i v e
   case hF =>
    walk_at "dx";refine iG (Ih pl p q S k here ys) (.mk g d M O D) (λG hL=>?hG) ?hE
    case hG =>
     rintro m env C ⟨kvs,d,kv,t,D⟩;rw[Kg,Je] at C;obtain⟨s,v,e1,e2,T⟩:=D.next u C;have er:(nD ys).reverse[m]'(by rw[Kg,Je];exact C)=.int ((ys.getD (ys.length - 1 - m) 0:Nat):Int):=by rw[LI,JG,Jh,Ji (!0)];simp
     rw[er];generalize ys.getD (ys.length - 1 - m) 0=y at *;have hy:y<pl.length:=K7 λz=>by
      rw[pkF,Jh,J0 z] at e1;cases e1
     have kl:=kv.len;walk_at "dx";refine⟨_,mj hy,Jt (!2) af,?_⟩;rw[e1];refine⟨[s],p,q,dG kvs,λ_=>v,rfl,!1,λs' U=>?_,?_⟩
     .rw[Jf.mp U];exact⟨(W _ _ e1).1,.inr ⟨kvs,rfl,oP.mp e2⟩⟩
     walk_at "dx";exact⟨⟨kvs,rfl⟩,kvs,rfl,Jp (!0) af,(hL _).nx _ (.mk _ _ (kv.set hy _) (t.set _ _) (T _ λi=>kI _ _ _ _))⟩
    case hE =>
     rintro env ⟨kvs,d,kv,t,D⟩;rw[Kg,Je] at D;exact(hN _).nx _ (.mk _ _ _ _ _ _ kv t (D.fin u))
 .rintro env ⟨S,kvs,a,b,c,d,kv,t,pc⟩;rw[aA,JN] at pc;walk_at "dx";rw[Je,JN];refine⟨!0,!0,bT (λi=>.int ((pfK kvs i).getD 0)) (by rw[aA];omega) (λi hi Q hQ=>?_) ?_⟩
  .rw[aA] at hi;rw[bf,u2];walk_at "dx";obtain⟨v,hv⟩:=J9.mp (pc.all i hi);rw[hv] at hQ;exact⟨kvs,rfl,_,oP.mp hv,hQ⟩
  .rw[aA,iS];walk_at "dx";refine r _ (!1) λi hi=>?_;obtain⟨v,hv⟩:=J9.mp (pc.all i hi);have:=pc.val i v hv;rw[show((cu pl.length).map λi=>(pfK kvs i).getD 0).getD i 0=v by rw[Jh];simp[hi,hv]];exact this
abbrev stL(st:List Stp):ah:=.list (st.map ii)
def Fs(sts:List (List Stp))(pl ag:List (Option Stp))(p q:Int)(P:List Int)(n:Nat):Prop:=ag.length=n/\∀i,i<n->(pkF ag i=pkF pl i/\∀s∈sts.getD i [],P.getD i 0<=q*s.1 - p+P.getD s.2.1 0)\/∃s∈sts.getD i [],pkF ag i=some s/\q*s.1 - p+P.getD s.2.1 0<P.getD i 0
inductive Iv (sts:List (List Stp)) (pl:List (Option Stp)) (p q:Int) (P:List Int) (k:Nat):List Sl->Prop
 | mk (ag:List (Option Stp)) (a b c d:Sl) (ls:List ah):ls=ag.map fe->Fs sts pl ag p q P k->Iv sts pl p q P k [.fr (.list (sts.map stL)),.io (pl.map fe),.fr (.tuple [.int p,.int q]),.fr (.list (li P)),.ow ls,a,b,c,d]
abbrev dz:Stmt:=top 30
def bA:ax ["steps", "picked", "cost", "prices", "found", "number", "price", "asked", "least"] ["steps", "picked", "cost", "prices"] (ad dz):={}
def uj:DSp:=λss R=>∃(sts:List (List Stp)) (pl:List (Option Stp)) (p q:Int) (P:List Int),ss=[.fr (.list (sts.map stL)),.io (pl.map fe),.fr (.tuple [.int p,.int q]),.fr (.list (li P))]/\pl.length<=1000/\sts.length=pl.length/\P.length=pl.length /\
 (∀i,i<pl.length->sts.getD i []≠[]/\(sts.getD i []).length<=1000/\∀s∈sts.getD i [],wO q s.1/\s.2.1<pl.length)/\∀ag,Fs sts pl ag p q P pl.length->R (.ow (ag.map fe)) [.un,.io (pl.map fe),.un,.un]
def jw(F:Fun K "picked_again" "picked_again" dz f fd)(B:Bn mg)(e:Cal P w K mg base "prices_by" 1 (spD K F7)):ca P w K mg base CX0 2 f fd ["steps", "picked", "cost", "prices"] (spD K uj):=by
 refine okD (k:=1) F bA (λss R h=>?_) (!2) (λcdv A outer s H E J=>⟨_,(ae (aw (i:=4) bA.nd rfl ci (b7 ac))
   (ae (dD PassesOwn.never rfl (fT false (K:=K) rfl rfl B.enumerate (aa (qf 3) ac)) (dM (K:=K) (n:=2) rfl rfl (aK (ak (i:=5) bA.nd rfl ci) (aK (ak (i:=6) bA.nd rfl ci) cB))) (ae (aw (i:=7) bA.nd rfl ci (aD e (J.mono (!2)) rfl (aa (aN (ai (K:=K) rfl) mIx (qv 0) (qv 5) (λ_ _=>rfl)) (aa (qf 2) (aa (qf 3) ac)))))
   (ae (aw (i:=8) bA.nd rfl ci (d8 (wn (K:=K) rfl rfl) Gy rfl B.min wi (aa (qv 7) ac)))
   (aj (b9 (gr 4 (K:=K) rfl rfl (oK (aF oT mB (qv 8) (qv 6) (aU _)) (aN (ai (K:=K) rfl) mIx (aN (ai (K:=K) rfl) mIx (qv 0) (qv 5) (λ_ _=>rfl)) (A7 (K:=K) rfl (qv 7) (qv 8)) (λ_ _=>rfl)) (aN (ai (K:=K) rfl) mIx (qv 1) (qv 5) (λ_ _=>rfl)))))))))
   (aj (a9 (qv 4))))),λss R h=>?_⟩)
 .obtain⟨sts,pl,p,q,P,rfl,_⟩:=h;rfl
 obtain⟨sts,pl,p,q,P,rfl,Q,h1,h2,h3,r⟩:=h;walk_at "dx";refine⟨JD _,?_⟩;walk_at "dx";refine iG (Iv sts pl p q P) (.mk [] _ _ _ _ _ rfl ⟨rfl,λi hi=>absurd hi (KF _)⟩) (λE hN=>?_) ?_
 .rintro k env hk ⟨ag,a,b,c,d,_,rfl,l⟩;rw[aP,Je] at hk;rw[cH,c7];have t:k<pl.length:=!0
  obtain⟨L,M,G⟩:=h3 k t;have u:atI (sts.map stL) (k:Int)=some (stL (sts.getD k [])):=cp (by
   rw[JE,Jh,Ji (!0)];rfl)
  walk_at "dx";refine⟨_,u,sts.getD k [],p,q,.list (li P),λi=>P.getD i 0,rfl,M,λs y=>⟨(G s y).1,.inl ⟨P,rfl,by have:=(G s y).2;omega,rfl⟩⟩,?_⟩;generalize C:sts.getD k []=st at *;walk_at "dx";refine⟨by simpa using L,λm N v=>?_⟩;walk_at "dx";have x:(ag.map fe).length<sizeLine:=by rw[Je,l.1];exact Jp (!0) af
  have more:∀o:Option Stp,((o=pkF pl k/\∀s∈st,P.getD k 0<=q*s.1 - p+P.getD s.2.1 0)\/∃s∈st,o=some s/\q*s.1 - p+P.getD s.2.1 0<P.getD k 0)->Fs sts pl (ag++[o]) p q P (k+1):=λo ho=>by
   refine⟨by rw[Jz,l.1];rfl,λi hi=>?_⟩;by_cases z:i=k
   .subst z;rw[C,show pkF (ag++[o]) i=o by rw[pkF,Jh,<-l.1];simp];exact ho
   .rw[show pkF (ag++[o]) i=pkF ag i by rw[pkF,pkF,Jh,JV (by rw[l.1];omega),<-Jh]];exact l.2 i (!0)
  refine cw (λD=>⟨_,u,N,by rw[Je];omega,λj hj g=>?_⟩) λO=>⟨_,mj t,x,(hN _).nx _ (.mk (ag++[pkF pl k]) _ _ _ _ _ (!1) (more _ (.inl ⟨rfl,λs y=>?_⟩)))⟩
  .rw[Je] at hj;have I:st[j]? = some st[j]:=Ji hj;refine⟨_,rfl,_,cp (by rw[JE,I];rfl),x,(hN _).nx _ (.mk (ag++[some st[j]]) _ _ _ _ _ (by rw[Jy];rfl) (more _ (.inr ⟨_,JF hj,rfl,?_⟩)))⟩;rw[Jh,JE,I] at g;have g:q*st[j].1 - p+P.getD st[j].2.1 0=m:=g;rw[g];exact D
  .have:=v _ (Jk.mpr ⟨s,y,rfl⟩);omega
 .rintro env ⟨ag,a,b,c,d,_,rfl,l⟩;rw[aP,Je,h2] at l;walk_at "dx";exact r ag l
def snD(x:Nat×Nat):Int×ah:=((x.1:Int),.int (x.2:Int))
theorem vH:∀(seen:List (Nat×Nat)) (i:Nat),(aI (seen.map snD) (i:Int)=none/\i ∉ seen.map (·.1))\/∃v:Nat,aI (seen.map snD) (i:Int)=some (.int v)/\(i,v)∈seen
 | [],i=>.inl ⟨rfl,!1⟩
 | x :: xs,i=>by
  rw[Jr,aq];by_cases z:x.1=i
  .refine .inr ⟨x.2,by rw[Mz (show(snD x).1=(i:Int) by rw[<-z];rfl)];rfl,by rw[<-z];simp⟩
  .rw[MA (show ¬(snD x).1=(i:Int) fromλe=>z (Lr.mp e))];rcases vH xs i with⟨h1,h2⟩|⟨v,h1,h2⟩
   .exact .inl ⟨h1,by simp only[Jr,Jo,not_or];exact⟨λe=>z e.symm,h2⟩⟩
   .exact .inr ⟨v,h1,Jq _ h2⟩
def AR{seen:List (Nat×Nat)}{i v:Nat}(h:aI (seen.map snD) (i:Int)=none):cV (seen.map snD) (i:Int) (.int (v:Int))=(seen++[(i,v)]).map snD:=by unfold cV;rw[h,MA (!1),Jy];rfl
def vE(o:Option Stp):k4 (fe o)=o.isNone:=by cases o <;> rfl
inductive Io (pl:List (Option Stp)) (k:Nat):List Sl->Prop
 | mk (S:List ao) (seen:List (Nat×Nat)) (loops:List (List Stp)) (cuts:List Nat) (a b c:Sl) (ls:List ah):ls=loops.map stL->LpI pl.length (pkF pl) k seen loops cuts->loops.length<=k->Io pl k [.io (pl.map fe),.tr S (dG (seen.map snD)),.ow ls,a,b,c]
inductive Im (pl:List (Option Stp)) (S:List ao) (seen:List (Nat×Nat)) (loops:List (List Stp)) (k:Nat) (c:Sl) (M:Nat):List Sl->Prop
 | mk (ys:List Nat) (here:Nat) (D:List (Int×ah)):D=(seen++ys.map λy=>(y,k)).map snD->LpW pl.length (pkF pl) k seen ys here->here<pl.length->M=pl.length - (seen.length+ys.length)->Im pl S seen loops k c M [.io (pl.map fe),.tr S (dG D),.ow (loops.map stL),.fr (.int k),.fr (.int here),c]
inductive Il (pl:List (Option Stp)) (S:List ao) (kv:List (Nat×Nat)) (loops:List (List Stp)) (k here n M:Nat):List Sl->Prop
 | mk (l:List Stp) (s:Stp) (ls:List ah):ls=(l++[s]).map ii->Pth (pkF pl) here (l++[s]) s.2.1->(l++[s]).length<=n->M=n - (l++[s]).length->Il pl S kv loops k here n M [.io (pl.map fe),.tr S (dG (kv.map snD)),.ow (loops.map stL),.fr (.int k),.fr (.int here),.ow ls]
abbrev dZ:Stmt:=top 31
def bu:ax ["picked", "walks", "loops", "first", "here", "loop"] ["picked"] (ad dZ):={}
def ub:DSp:=λss R=>∃pl:List (Option Stp),ss=[.io (pl.map fe)]/\pl.length<=1000/\(∀i s,pkF pl i=some s->s.2.1<pl.length) /\
 ∀(seen:List (Nat×Nat)) (loops:List (List Stp)) (cuts:List Nat),LpI pl.length (pkF pl) pl.length seen loops cuts->loops.length<=pl.length->R (.ow (loops.map stL)) [.io (pl.map fe)]
def jR(F:Fun K "loops_among" "loops_among" dZ f fd)(B:Bn mg):ca P w K mg base CX0 1 f fd ["picked"] (spD K ub):=by
 refine okD (k:=0) F bu (λss R h=>?_) (!2) (λcdv A outer s H E hr=>⟨_,(ae (aw (i:=1) bu.nd rfl ci zN)
   (ae (aw (i:=2) bu.nd rfl ci (b7 ac))
   (ae (dD PassesOwn.never rfl (cJ rfl B.range (aa (d8 (iA (K:=K) rfl) iw rfl B.len db (aa (qv 0) ac)) ac)) (ak (i:=3) bu.nd rfl ci) (ae (aw (i:=4) bu.nd rfl ci (qf 3))
   (ae (cg PassesOwn.never (PW.pt (qK (aF gu kW (qv 4) (qv 1) (by with_unfolding_all rfl)) (kE (aF kK ya (aN (ai (K:=K) rfl) mIx (qv 0) (qv 4) (λ_ _=>rfl)) gq (aU _))))) (ae (uL 1 (K:=K) rfl rfl (qf 4) (qf 3))
   (aj (aw (i:=4) bu.nd rfl ci (aN (ai (K:=K) rfl) mIx (aN (ai (K:=K) rfl) mIx (qv 0) (qv 4) (λ_ _=>rfl)) al (λ_ _=>rfl))))))
   (aj (gP (PW.pt (qK (aF Ek IJ (qv 4) (qv 1) (by with_unfolding_all rfl)) (kE (aF mr zX (aN (C6 (K:=K) rfl) C5 (qv 1) (qv 4) (λ_ _=>rfl)) (qv 3) (aU _))))) (ae (aw (i:=5) bu.nd rfl ci (b7 (aa (aN (ai (K:=K) rfl) mIx (qv 0) (qv 4) (λ_ _=>rfl)) ac)))
   (ae (cg PassesOwn.never (aF BC Gx (aN (ai (K:=K) rfl) mIx (aN (ai (K:=K) rfl) mIx (qv 5) (zL gc zW al) (λ_ _=>rfl)) al (λ_ _=>rfl)) (qv 4) (aU _)) (aj (b9 (gr 5 (K:=K) rfl rfl (aN (ai (K:=K) rfl) mIx (qv 0) (aN (ai (K:=K) rfl) mIx (aN (ai (K:=K) rfl) mIx (qv 5) (zL gc zW al) (λ_ _=>rfl)) al (λ_ _=>rfl)) (λ_ _=>rfl))))))
   (aj (b9 (gr 2 (K:=K) rfl rfl (qf 5)))))) bS)))))
   (aj (a9 (qv 2)))))),λss R h=>?_⟩)
 .obtain⟨pl,rfl,_⟩:=h;rfl
 obtain⟨pl,rfl,hl,hs,r⟩:=h;walk_at "dx";intro S;walk_at "dx";refine⟨JD _,?_⟩;walk_at "dx";rw[Je];refine⟨!0,!0,iG (Io pl) (.mk _ [] [] [] _ _ _ _ rfl ⟨!1,(λx hx=>nomatch hx),(λx hx=>nomatch hx),(λi hi=>absurd hi (KF _)),rfl,(λx hx=>nomatch hx)⟩ (JD _)) (λE hN=>?_) ?_⟩
 .rintro k env hk ⟨S,seen,loops,cuts,a,b,c,_,rfl,j,N⟩;rw[aA,JN] at hk;rw[bf,u2];walk_at "dx";have u:∀x∈seen,x.1<pl.length:=λx hx=>(j.lt x hx).1;have O:∀{i:Nat}{s:Stp},pkF pl i=some s->i<pl.length:=λ{i s} e=>K7 λz=>by
   rw[pkF,Jh,J0 z] at e;cases e
  refine gJ (Im pl S seen loops k c) ⟨_,.mk [] k _ (!1) ⟨.nil k,by simpa using j.nd,(λy q=>nomatch q)⟩ hk rfl⟩ λF hM=>?_;rintro _ env ⟨ys,here,_,rfl,C,M,rfl⟩;have few:=C.few u;have Q:=vH (seen++ys.map λy=>(y,k)) here;generalize d:(seen++ys.map λy=>(y,k))=kv at *;walk_at "dx";refine(λ(m:(here∈kv.map (·.1)\/pkF pl here=none)->dNx _ _ [.io (pl.map fe),.tr S (dG (kv.map snD)),.ow (loops.map stL),.fr (.int k),.fr (.int here),c])=>⟨kv.map snD,rfl,cw (λh1=>⟨_,mj M,cw (λh2=>?hB) (λh2=>m (.inr (by
   rw[vE] at h2;cases e:pkF pl here with
   | none=>rfl
   | some s=>rw[e] at h2;exact absurd rfl h2)))⟩) (λh1=>m (.inl (by
   rcases Q with⟨o,_⟩|⟨v,_,n⟩
   .rw[o] at h1;exact absurd rfl h1
   .exact Jk.mpr ⟨_,n,rfl⟩)))⟩) λhm=>?hT
  case hB =>
   rw[vE] at h2;obtain⟨s,es⟩:=J9.mp (show(pkF pl here).isSome=true by cases e:pkF pl here with
    | none=>rw[e] at h2;cases h2
    | some s=>rfl)
   obtain⟨o,n⟩:=Q.resolve_right (λ⟨v,g,_⟩=>by rw[g] at h1;cases h1);have D:=C.go es M (by rw[d];exact n);have p:=D.few u;rw[Jz] at p;have:kv.length=seen.length+ys.length:=by rw[<-d];simp
   refine⟨⟨_,rfl⟩,_,rfl,Jp (show(kv.map snD).length<1000000 by rw[Je];omega) af,?_⟩;walk_at "dx";refine⟨_,mj M,?_⟩;rw[es,AR o];refine⟨_,rfl,_,rfl,(hM _).nx _ ⟨pl.length - (seen.length+(ys++[here]).length),?_,.mk (ys++[here]) s.2.1 _ ?_ D (hs _ _ es) rfl⟩⟩
   .simp at p ⊢;omega
   .rw[<-d];simp
  case hT =>
   walk_at "dx";have t:∀{lo:List (List Stp)}{T:List Nat},LpI pl.length (pkF pl) k seen lo T->de (jN (pkF pl) T) here->(ys=[]->pkF pl k=none\/k∈seen.map (·.1))->LpI pl.length (pkF pl) (k+1) kv lo T:=λj h1 h2=>d▸j.next C h1 h2;have X:ys=[]->here=k:=λe=>by
    have:=C.way;rw[e] at this;cases this;rfl
   rcases Q with⟨o,n⟩|⟨v,o,n⟩
   .have Y:=hm.resolve_left n;exact⟨kv.map snD,rfl,cw (λh=>by rw[o] at h;cases h) (λ_=>(hN _).nx _ (.mk _ kv loops cuts _ _ _ _ rfl (t j (de.cut cuts (.root Y)) (λe=>.inl (X e▸Y))) (!0)))⟩
   .refine⟨kv.map snD,rfl,cw (λ_=>⟨kv.map snD,rfl,_,o,_,rfl,cw (λev=>?hA) (λev=>?hC)⟩) (λh=>absurd (by rw[o];rfl) h)⟩
    case hC =>
     have I:(here,v)∈seen:=by
      rw[<-d] at n;rcases Jj.mp n with z|z
      .exact z
      .obtain⟨y,_,e⟩:=Jk.mp z;cases e;exact absurd rfl ev
     exact(hN _).nx _ (.mk _ kv loops cuts _ _ _ _ rfl (t j (j.ends _ I) (λe=>.inr (X e▸Jk.mpr ⟨_,I,rfl⟩))) (!0))
    case hA =>
     have q:here∈ys:=by
      rw[<-d] at n;rcases Jj.mp n with z|z
      .have:=(j.lt _ z).2;omega
      .obtain⟨y,q,e⟩:=Jk.mp z;cases e;exact q
     obtain⟨U,Z,n2,n3⟩:=C.way.from q;obtain⟨s,es⟩:∃s,pkF pl here=some s:=by
      cases Z with
      | nil=>exact absurd rfl n2
      | cons e _=>exact⟨_,e⟩
     refine⟨_,mj M,Jt (!2) af,?_⟩;rw[es];walk_at "dx";refine gJ (Il pl S kv loops k here U.length) ⟨_,.mk [] s _ rfl (.cons es (.nil _)) (KL.mpr n2) rfl⟩ λG hL=>?_;rintro _ env ⟨l,s,_,rfl,pth,V,rfl⟩;have J:atI ((l++[s]).map ii) (-1)=some (ii s):=by rw[Jy];exact lG _ _
     walk_at "dx";have a0:U.length<=pl.length:=!0
     refine⟨_,J,_,rfl,_,rfl,_,rfl,cw (λne=>?hD) (λne=>?hE)⟩
     case hD =>
      obtain⟨⟨s',W⟩,lt⟩:=Z.loop pth V (λz=>ne (by rw[z]));have at':=mj (O W);rw[W] at at';exact⟨_,J,_,rfl,_,rfl,_,rfl,_,at',Jp (show((l++[s]).map ii).length<1000000 by rw[Je];omega) af,(hL _).nx _ ⟨U.length - ((l++[s])++[s']).length,(by rw[Jz (bs:=[s'])];simp only[JP];omega),.mk (l++[s]) s' _ (by rw[Jy (l₂:=[s'])];rfl) (pth.snoc W) (by rw[Jz (bs:=[s'])];exact lt) rfl⟩⟩
     case hE =>
      have ne:s.2.1=here:=Lr.mp (Decidable.not_not.mp ne);walk_at "dx";have L:((l++[s]).getLastD (0,0,[])).2.1=here:=(pth.last (!1)).trans ne;have lm:=j.more (l:=l++[s]) (i:=here) (!1) (!0) (ne▸pth);refine⟨Jp (show(loops.map stL).length<1000000 by rw[Je];omega) af,(hN _).nx _ (.mk _ kv (loops++[l++[s]]) _ _ _ _ _ (by rw[Jy (l₂:=[l++[s]])];rfl) (t lm (.root ?_) (λe=>by rw[e] at q;cases q)) (by rw[Jz];simp only[JP];omega))⟩;rw[L];exact Mz (!1)
 .rintro env ⟨S,seen,loops,cuts,a,b,c,_,rfl,j,N⟩;rw[aA,JN] at j N;walk_at "dx";exact r seen loops cuts j N
def vI(c:0<s):0<(Ks s s':Int)/\(∃a,s=(Ks s s':Int)*a)/\∃b,s'=(Ks s s':Int)*b:=by
 refine⟨?_,?_,?_⟩
 .have:Ks s s'≠0:=λz=>by
   have:=(Int.gcd_eq_zero_iff.mp z).1;omega
  omega
 .exact Int.gcd_dvd_left s s'
 .exact L8 s s'
def yJ(hx:0<=x)(c:0<=y):Ks y (x % y)=Ks x y:=by obtain⟨a,rfl⟩:=Lv hx;obtain⟨b,rfl⟩:=Lv c;show om b (a % b)=om a b;rw[Nat.gcd_comm b,<-Nat.gcd_rec,Nat.gcd_comm]
def Cd(d:1<=b):0<(Ks a b:Int)/\(Ks a b:Int)<=b:=by have c:=(vI (s:=b) (s':=a) (!0)).1;rw[Int.gcd_comm] at c;exact⟨c,Int.le_of_dvd (!0) (L8 a b)⟩
abbrev cf:Stmt:=top 12
def bI:ax ["one", "other", "rest"] ["one", "other"] (ad cf):={}
def Dx:DSp:=λss R=>∃a b:Int,ss=[.fr (.int a),.fr (.int b)]/\0<=a/\0<=b/\R (.fr (.int (Ks a b))) [.un,.un]
def fU(F:Fun K "greatest_divisor" "greatest_divisor" cf f fd)(B:Bn mg):ca P w K mg base CX0 1 f fd ["one", "other"] (spD K Dx):=by
 refine okD (k:=0) F bI (λss R h=>?_) (!2) (λcdv A outer s H E j=>⟨_,(bB (cg PassesOwn.never (aF BC Gx (qv 1) al (aU _)) (bB (aw (i:=2) bI.nd rfl ci (bX bO mIC (qv 0) (qv 1)))
   (bB (aw (i:=0) bI.nd rfl ci (qf 1))
   (aj (aw (i:=1) bI.nd rfl ci (qf 2))))))
   (aj (a9 (qv 0)))),λss R h=>?_⟩)
 .obtain⟨a,b,rfl,_⟩:=h;rfl
 obtain⟨a,b,rfl,e,g,q⟩:=h;walk_at "dd";refine⟨λm env=>∃(x y:Int) (r:Sl),env=[.fr (.int x),.fr (.int y),r]/\0<=x/\0<=y/\m=y.toNat/\Ks x y=Ks a b,⟨_,a,b,_,rfl,e,g,rfl,rfl⟩,?_⟩;rintro m env ⟨x,y,r,rfl,hx,d,rfl,hg⟩;walk_at "dd";refine cw (λc=>?_) (λc=>?_)
 .have h1:=Kr x (show y≠0 from c);have h2:=Kc x (show 0<y by omega);exact⟨!0,_,!0,d,h1,rfl,(yJ hx d).trans hg⟩
 .have c:y=0:=by simpa using c
  subst c;rw[<-hg,Int.gcd_zero_right,Int.natAbs_of_nonneg hx] at q;exact q
abbrev dA:Stmt:=top 13
def eR:ax ["above", "below", "divisor"] ["above", "below"] (ad dA):={}
def oy:DSp:=λss R=>∃a b:Int,ss=[.fr (.int a),.fr (.int b)]/\0<=a/\1<=b/\b<=1000/\R (.fr (.tuple [.int (a / (Ks a b:Int)),.int (b / (Ks a b:Int))])) [.un,.un]
def jx(F:Fun K "lowest_terms" "lowest_terms" dA f fd)(B:Bn mg)(c:Cal P w K mg base "greatest_divisor" 1 (spD K Dx)):ca P w K mg base CX0 2 f fd ["above", "below"] (spD K oy):=by
 refine okD (k:=1) F eR (λss R h=>?_) (!2) (λcdv A outer s H E g=>⟨_,(ae (aw (i:=2) eR.nd rfl ci (aD c (g.mono (!2)) rfl (aa (qf 0) (aa (qf 1) ac))))
   (aj (a9 (cQ (aa (bX qU mIC (qv 0) (qv 2)) (aa (bX qU mIC (qv 1) (qv 2)) ac)))))),λss R h=>?_⟩)
 .obtain⟨a,b,rfl,_⟩:=h;rfl
 obtain⟨a,b,rfl,j,l,m,q⟩:=h;walk_at "dd";refine⟨a,b,rfl,j,!0,?_⟩;walk_at "dd";refine nx ?_;walk_at "dd";obtain⟨d,n⟩:=Cd (a:=a) l;have e:Bg (Ks a b:Int):=by show(Ks a b:Int).natAbs<2 ^ 8000;exact Kj (show(Ks a b:Int).natAbs<=2 ^ 10 by omega) (Nat.pow_lt_pow_right (!2) (!2))
 exact⟨⟨d,e⟩,⟨d,e⟩,!2,q⟩
abbrev fB:Stmt:=top 21
def oz:ax ["row", "costs"] ["row", "costs"] (ad fB):={}
def rc(cs r:List Int):Int:=(r.map λc=>cs.getD c.toNat 0).sum
def jb:DSp:=λss R=>∃r cs:List Int,ss=[.fr (.list (li r)),.fr (.list (li cs))]/\r.length<=1000/\(∀x∈r,0<=x/\x<cs.length)/\R (.fr (.int (rc cs r))) [.un,.un]
def oV(F:Fun K "row_cost" "row_cost" fB f fd)(B:Bn mg):ca P w K mg base CX0 1 f fd ["row", "costs"] (spD K jb):=by
 refine okD (k:=0) F oz (λss R h=>?_) (!2) (λcdv A outer s H E b=>⟨_,(aj (a9 (d8 (jF (K:=K) rfl rfl) Gw rfl B.sum oe (aa (bF (N':=["clock", "costs"]) (ix:=[none,some 1]) rfl (bP (N:=_::_) (sc0:=ad fB) rfl rfl (!3)) (aH (K:=K) rfl (qf 0)) (λ_ _ _ _=>(ak (i:=0) (!4) rfl ci)) (λ_ _ _ _=>aM) (λ_ _ _ _=>(aN (ai (K:=K) rfl) mIx (qv 1) (qv 0) (λ_ _=>rfl)))) ac)))),λss R h=>?_⟩)
 .obtain⟨r,cs,rfl,_⟩:=h;rfl
 obtain⟨r,cs,rfl,h1,h2,q⟩:=h;walk_at "dd";refine bT (λi=>.int (cs.getD (r.getD i 0).toNat 0)) (by rw[Je];omega) (λi hi Q hQ=>?_) ?_
 .rw[c7];have d:=h2 _ (aY (l:=r) (k:=i) (by simpa using hi));generalize r.getD i 0=c at *;obtain⟨a,rfl⟩:∃a:Nat,c=(a:Int):=⟨c.toNat,!0⟩
  walk_at "dd";exact⟨_,dP (!0),hQ⟩
 rw[Je,aT r 0 (λc=>eb (cs.getD c.toNat 0)),show r.map (λc=>eb (cs.getD c.toNat 0))=li (r.map λc=>cs.getD c.toNat 0) from(JI ..).symm];walk_at "dd";exact q
abbrev gm:Stmt:=top 22
def sF:ax ["plan", "costs"] ["plan", "costs"] (ad gm):={}
def pc(cs:List Int)(rs:List (List Int)):Int:=(rs.map (rc cs)).sum
def kz:DSp:=λss R=>∃(a ag:List (List Int)) (cs:List Int),ss=[.fr (.tuple [.list (lr a),.list (lr ag)]),.fr (.list (li cs))]/\1<=ag.length/\ag.length<=1000/\(∀r∈ag,r.length<=1000/\∀x∈r,0<=x/\x<cs.length)/\0<=pc cs ag /\
 R (.fr (.tuple [.int (pc cs ag / (Ks (pc cs ag) ag.length:Int)),.int (ag.length / (Ks (pc cs ag) ag.length:Int))])) [.un,.un]
def sO(F:Fun K "cost_of" "cost_of" gm f fd)(B:Bn mg)(a:Cal P w K mg base "lowest_terms" 2 (spD K oy))(b:Cal P w K mg base "row_cost" 1 (spD K jb)):ca P w K mg base CX0 3 f fd ["plan", "costs"] (spD K kz):=by
 refine okD (k:=2) F sF (λss R h=>?_) (!2) (λcdv A outer s H E c=>⟨_,(aj (a9 (aD a (c.mono (!2)) rfl (aa (d8 (jF (K:=K) rfl rfl) Gw rfl B.sum oe (aa (bF (N':=["row", "costs"]) (ix:=[none,some 1]) rfl (bP (N:=_::_) (sc0:=ad gm) rfl rfl (!3)) (aH (K:=K) rfl (aN (ai (K:=K) rfl) mIx (qv 0) al (λ_ _=>rfl))) (λ_ _ _ _=>(ak (i:=0) (!4) rfl ci)) (λ_ _ _ _=>aM) (λ_ _ _ _=>(aD b (c.mono (!2)) rfl (aa (qf 0) (aa (qf 1) ac))))) ac)) (aa (d8 (iA (K:=K) rfl) iw rfl B.len db (aa (aN (ai (K:=K) rfl) mIx (qv 0) al (λ_ _=>rfl)) ac)) ac))))),λss R h=>?_⟩)
 .obtain⟨e,ag,cs,rfl,_⟩:=h;rfl
 obtain⟨e,ag,cs,rfl,h1,h2,h3,h4,q⟩:=h;walk_at "dd";refine bT (λi=>.int (rc cs (ag.getD i []))) (by rw[Je];omega) (λi hi Q hQ=>?_) ?_
 .rw[fN];have d:=h3 _ (dO (l:=ag) (k:=i) (by simpa using hi));walk_at "dd";exact⟨_,cs,rfl,d.1,d.2,_,rfl,hQ⟩
 rw[Je,aT ag [] (λr=>eb (rc cs r)),show ag.map (λr=>eb (rc cs r))=li (ag.map (rc cs)) from(JI ..).symm];walk_at "dd";rw[Je];exact⟨_,_,rfl,h4,!0,!0,_,rfl,q⟩
def BP(a b:Int):ah:=.tuple [.int (a / (Ks a b:Int)),.int (b / (Ks a b:Int))]
abbrev d5:Stmt:=top 32
def l7:ax ["loop"] ["loop"] (ad d5):={}
def jY:DSp:=λss R=>∃l:List Stp,ss=[.fr (stL l)]/\1<=l.length/\l.length<=1000/\0<=fv l/\R (.fr (BP (fv l) l.length)) [.un]
def my(F:Fun K "loop_cost" "loop_cost" d5 f fd)(B:Bn mg)(a:Cal P w K mg base "lowest_terms" 2 (spD K oy)):ca P w K mg base CX0 3 f fd ["loop"] (spD K jY):=by
 refine okD (k:=2) F l7 (λss R h=>?_) (!2) (λcdv A outer s H E b=>⟨_,(aj (a9 (aD a (b.mono (!2)) rfl (aa (d8 (jF (K:=K) rfl rfl) Gw rfl B.sum oe (aa (bF (N':=["step"]) (ix:=[none]) rfl (bP (N:=_::_) (sc0:=ad d5) rfl rfl (!3)) (aH (K:=K) rfl (qf 0)) (λ_ _ _ _=>(ak (i:=0) (!4) rfl ci)) (λ_ _ _ _=>aM) (λ_ _ _ _=>(aN (ai (K:=K) rfl) mIx (qv 0) al (λ_ _=>rfl)))) ac)) (aa (d8 (iA (K:=K) rfl) iw rfl B.len db (aa (qv 0) ac)) ac))))),λss R h=>?_⟩)
 .obtain⟨l,rfl,_⟩:=h;rfl
 obtain⟨l,rfl,h1,h2,h3,r⟩:=h;unfold stL;walk_at "dx";refine bT (λi=>.int (l.getD i (0,0,[])).1) (by rw[Je];omega) (λi hi Q hQ=>?_) ?_
 .rw[Je] at hi;have e:(l.map ii)[i]'(by rw[Je];exact hi)=ii (l.getD i (0,0,[])):=by
   rw[JG,Jh,Ji hi];rfl
  rw[e];unfold ii;walk_at "dx";exact hQ
 .rw[Je,iS,aT l (0,0,[]) (λs:Stp=>s.1)];walk_at "dx";rw[Je];exact⟨_,_,rfl,h3,!0,!0,_,rfl,r⟩
def Cp(x y:Option Stp):eA (fe x) (fe y)=decide (x=y):=by
 cases x with
 | none=>cases y <;> rfl
 | some a =>
  cases y with
  | none=>rfl
  | some b =>
   show et [.int a.1,.int (a.2.1:Int),.list (li a.2.2)] [.int b.1,.int (b.2.1:Int),.list (li b.2.2)]=_;simp only[et,lg,Bool.and_true];rw[show eA (.list (li a.2.2)) (.list (li b.2.2))=decide (a.2.2=b.2.2) from E7 _ _];obtain⟨a1,a2,c⟩:=a;obtain⟨d,e,f⟩:=b;simp only[Lm,nl];by_cases h1:a1=d <;> by_cases h2:a2=e <;> by_cases h3:c=f <;> simp[h1,h2,h3]
   all_goals (intro z;exact absurd (!0) h2)
theorem h8:∀a b:List (Option Stp),et (a.map fe) (b.map fe)=decide (a=b)
 | [],[]=>by simp[et]
 | [],_::_=>by simp[et]
 | _::_,[]=>by simp[et]
 | x::a,y::b=>by
  rw[Jr,Jr,et,h8 a b,Cp];by_cases h:x=y <;> by_cases h':a=b <;> simp[h,h']
def Sh.opt(n:Nat)(o:Option Stp):Sh (n+3) (fe o):=by
 cases o with
 | none=>exact Sh.none _
 | some s =>
  refine Sh.tuple λx hx=>?_;simp only[Jo,JR,or_false] at hx;rcases hx with rfl|rfl|rfl
  .exact Sh.int _ _
  .exact Sh.int _ _
  .exact Sh.ints _ _
def ul(pl:List (Option Stp)):shp (.list (pl.map fe)):=(Sh.list (n:=3) λx hx=>by
 obtain⟨o,_,rfl⟩:=Jk.mp hx;exact Sh.opt 0 o).shp (!2)
def Bl(hc:c<pl.length)(i:Nat):pkF (pl.set c none) i=if i=c then none else pkF pl i:=by
 unfold pkF;rw[Jh,Jh,List.getElem?_set];by_cases z:c=i
 .subst z;simp[hc]
 .rw[MA z,MA λe=>z e.symm]
def Bm(c:a.length=b.length)(h:∀i,i<a.length->pkF a i=pkF b i):a=b:=by refine K4 c λi h1 h2=>?_;have:=h i h1;rw[pkF,pkF,Jh,Jh,Ji h1,Ji h2] at this;exact this
def Cj:Nat->Nat
 | 0=>1
 | n+1=>(n+1)*Cj n
theorem rG:∀n,0<Cj n
 | 0=>Nat.one_pos
 | n+1=>Nat.mul_pos (Nat.succ_pos _) (rG n)
theorem rH(h1:1<=k):∀n,k<=n->k∣Cj n
 | 0,h=>!0
 | n+1,h=>by
  by_cases z:k=n+1
  .rw[z];exact L3 _ _
  .exact Lp (rH h1 n (!0)) (Me _ _)
abbrev lwP(a b:Nat):Nat:=a / om a b
abbrev lwQ(a b:Nat):Nat:=b / om a b
def iR(a b:Nat):BP (a:Int) (b:Int)=.tuple [.int (lwP a b:Nat),.int (lwQ a b:Nat)]:=by unfold BP;rw[show Ks (a:Int) (b:Int)=om a b from rfl,<-Mg,<-Mg]
def BO{a b:Nat}:a=om a b*lwP a b/\b=om a b*lwQ a b:=⟨(LR (Nat.gcd_dvd_left a b)).symm,(LR (L2 a b)).symm⟩
def pf(c:1<=b):1<=lwQ a b:=KQ λz=>by
 have:=(BO (a:=a) (b:=b)).2;rw[z,Nat.mul_zero] at this;omega
structure wL(sts:List (List Stp))(l:List Stp):Prop where
 ne : l≠[]
 few:l.length<=sts.length
 mem:∀s∈l,∃i,s∈sts.getD i []
 last:(l.getLastD (0,0,[])).2.1<sts.length
def wP(sts:List (List Stp))(p0 q0:Nat)(best:Option (List Stp))(p q:Nat):Prop:=(best=none/\p=p0/\q=q0)\/∃l,best=some l/\wL sts l/\p=lwP (fv l).toNat l.length/\q=lwQ (fv l).toNat l.length
def FP:Option (List Stp)->ah
 | none=>.none
 | some l=>stL l
structure Iw(D R p q:Nat):Prop where
 q1 : 1<=q
 q2 : q<=1000
 dvd:q∣D
 rank:dL D p q<=R
structure ChI(sts:List (List Stp))(D R:Nat)(pl:List (Option Stp))(p q:Nat):Prop extends Iw D R p q where
 len:pl.length=sts.length
 mem:∀i s,pkF pl i=some s->s∈sts.getD i []
 ends:∀i,de (pkF pl) i
structure StI(sts:List (List Stp))(C:Nat):Prop where
 few:sts.length<=1000
 at':∀i,i<sts.length->sts.getD i []≠[]/\(sts.getD i []).length<=1000
 stp:∀i s,s∈sts.getD i []->s.2.1<sts.length/\0<=s.1/\s.1<=C
def mK{sts:List (List Stp)}(h:s∈sts.getD i []):i<sts.length:=K7 λz=>by
 rw[Jh,J0 z] at h;cases h
def ChI.low{sts:List (List Stp)}{D R C:Nat}{pl:List (Option Stp)}{p q:Nat}(st:StI sts C)(h:ChI sts D R pl p q){P:Nat->Int}(hv:∀i,Val p q (pkF pl) i (P i))(hD:0<D):0<=dH (λi=>P i+p*sts.length) sts.length/\(dH (λi=>P i+p*sts.length) sts.length).toNat<=CY D R sts.length C :=
 yi hD h.dvd h.rank λi _=>AG (!0) (!0) (!0) h.ends (λi s e=>⟨mK (h.mem i s e),(st.stp _ _ (h.mem i s e)).2⟩) (hv i)
def ChI.less{sts:List (List Stp)}{D R C:Nat}{pl pl':List (Option Stp)}{p q p' q':Nat}(st:StI sts C)(hD:0<D){P:Nat->Int}(hv:∀i,Val p q (pkF pl) i (P i))(h':ChI sts D R pl' p' q')(c:dL D p' q'<dL D p q\/(p'=p/\q'=q/\iL p q (pkF pl) (pkF pl') P/\∃i,i<sts.length/\pkF pl' i≠pkF pl i)):∃b,(∀i,Val p' q' (pkF pl') i (b i))/\kZ D (CY D R sts.length C) sts.length p' q' b<kZ D (CY D R sts.length C) sts.length p q P:=by
 have a:∀i,Val p' q' (pkF pl') i (((h'.ends i).val (p:=p') (q:=q')).choose):=λi=>((h'.ends i).val (p:=p') (q:=q')).choose_spec;refine⟨_,a,?_⟩;obtain⟨d,e⟩:=h'.low st a hD;rcases c with z|⟨rfl,rfl,as,i,hi,ne⟩
 .exact BT z e
 .exact yg (λj _=>as.down (a j)) ⟨i,hi,as.lt (a i) ne⟩ d
def Fs.asked{pl ag:List (Option Stp)}{P:List Int}(h:Fs sts pl ag p q P pl.length)(hP:P.length=pl.length)(hv:∀i,i<pl.length->Val p q (pkF pl) i (P.getD i 0)):iL p q (pkF pl) (pkF ag) (λi=>P.getD i 0):=by
 have a:∀{l:List (Option Stp)}{i:Nat},l.length<=i->pkF l i=none:=λ{l i} z=>by rw[pkF,Jh,J0 z];rfl
 refine⟨λi=>?_,λi e=>?_,λi s e=>?_⟩
 .by_cases z:i<pl.length
  .exact hv i z
  .rw[show P.getD i 0=0 by rw[Jh,J0 (!0)];rfl];exact .root (a (!0))
 .by_cases z:i<pl.length
  .rcases h.2 i z with⟨e1,_⟩|⟨s,_,e1,_⟩
   .rw[<-e1];exact e
   .rw[e] at e1;cases e1
  .exact a (!0)
 .by_cases z:i<pl.length
  .rcases h.2 i z with⟨e1,_⟩|⟨s',_,e1,e2⟩
   .exact .inl (by rw[<-e1];exact e)
   .rw[e] at e1;cases e1;exact .inr e2
  .rw[a (by rw[h.1];omega)] at e;cases e
def nZ(h:∀s∈l,0<=s.1):0<=fv l:=by
 induction l with
 | nil=>exact KK _
 | cons a l b =>
  rw[ja];have:=h a (!1);have:=b λs c=>h s (Jq _ c);omega
def Pth.mem(h:Pth pk i l j):∀s∈l,∃k,pk k=some s:=by
 induction h with
 | nil i=>intro s a;cases a
 | cons e _ b =>
  intro s a;rcases Jo.mp a with rfl|a
  .exact⟨_,e⟩
  .exact b s a
inductive Ir (sts:List (List Stp)) (D p0 q0 C M:Nat):List Sl->Prop
 | mk (best:Option (List Stp)) (pl:List (Option Stp)) (p q:Nat) (P:Nat->Int) (a b c d:Sl):ChI sts D (dL D p0 q0) pl p q->wP sts p0 q0 best p q->(∀i,Val p q (pkF pl) i (P i))->M=kZ D (CY D (dL D p0 q0) sts.length C) sts.length p q P->Ir sts D p0 q0 C M [.fr (.list (sts.map stL)),.fr (.tuple [.int p,.int q]),.fr (FP best),.ow (pl.map fe),a,b,c,d]
inductive Iq (sts:List (List Stp)) (D p0 q0 p q:Nat) (Pl:List Int) (ag:List (Option Stp)) (loops:List (List Stp)) (cuts:List Nat) (j:Nat):List Sl->Prop
 | mk (best:Option (List Stp)) (pl':List (Option Stp)) (p' q':Nat) (a b:Sl):pl'.length=sts.length->(∀i,pkF pl' i=jN (pkF ag) (cuts.take j) i)->Iw D (dL D p0 q0) p' q'->wP sts p0 q0 best p' q'->dL D p' q'<=dL D p q->(j=0->p'=p/\q'=q)->(1<=j->dL D p' q'<dL D p q)->Iq sts D p0 q0 p q Pl ag loops cuts j [.fr (.list (sts.map stL)),.fr (.tuple [.int p',.int q']),.fr (FP best),.ow (pl'.map fe),.fr (.list (li Pl)),a,.fr (.list (loops.map stL)),b]
abbrev fD:Stmt:=top 34
def bv:ax ["steps", "cost", "best", "picked", "prices", "again", "loops", "loop"] ["steps", "cost"] (ad fD):={}
def ui:DSp:=λss R=>∃(sts:List (List Stp)) (C p0 q0:Nat),ss=[.fr (.list (sts.map stL)),.fr (.tuple [.int p0,.int q0])]/\StI sts C/\1<=q0/\q0<=1000 /\
 ∀(best:Option (List Stp)) (p q:Nat) (P:List Int),wP sts p0 q0 best p q->P.length=sts.length->(∀i s,s∈sts.getD i []->P.getD i 0<=q*s.1 - p+P.getD s.2.1 0)->R (.fr (.tuple [FP best,.list (li P)])) [.un,.un]
def oY(F:Fun K "cheapest" "cheapest" fD f fd)(B:Bn mg)(G:Cal P w K mg base "priced" 2 (spD K qp))(n:Cal P w K mg base "picked_again" 2 (spD K uj))(o:Cal P w K mg base "loops_among" 1 (spD K ub))(m:Cal P w K mg base "loop_cost" 3 (spD K jY))(v:Cal P w K mg base "is_less" 1 (spD K zw)):ca P w K mg base CX0 4 f fd ["steps", "cost"] (spD K ui):=by
 refine okD (k:=3) F bv (λss R h=>?_) (!2) (λcdv A outer s H E O=>⟨_,(ae (aw (i:=2) bv.nd rfl ci gq)
   (ae (bV (i:=3)  bv.nd rfl rfl (N':=["number"]) (ix:=[none]) rfl (bP (N:=_::_) (sc0:=ad fD) rfl rfl (!3)) (aH (K:=K) rfl (qf 0)) (λ_ _ _ _=>(ak (i:=0) (!4) rfl ci)) (λ_ _ _ _=>aM) (λ_ _ _ _=>gq))
   (aj (cg PassesOwn.never (mf wS) (ae (aw (i:=4) bv.nd rfl ci (dE 0 G (O.mono (!2)) rfl (aa (qv 3) (aa (qf 1) ac))))
   (ae (aw (i:=5) bv.nd rfl ci (dE 1 n (O.mono (!2)) rfl (aa (qf 0) (aa (qv 3) (aa (qf 1) (aa (qf 4) ac))))))
   (ae (gP (aF (GJ (K:=K) rfl O.units) mEq (qv 5) (qv 3) (aU _)) (aj (a9 (cQ (aa (qf 2) (aa (qf 4) ac))))) bS)
   (ae (aw (i:=3) bv.nd rfl ci (Gn 5))
   (ae (aw (i:=6) bv.nd rfl ci (dE 0 o (O.mono (!2)) rfl (aa (qv 3) ac)))
   (aj (dD PassesOwn.never rfl (aH (K:=K) rfl (qf 6)) (ak (i:=7) bv.nd rfl ci) (ae (uK 3 rfl (aN (ai (K:=K) rfl) mIx (aN (ai (K:=K) rfl) mIx (qv 7) (zL gc zW al) (λ_ _=>rfl)) al (λ_ _=>rfl)) gq)
   (aj (gP (mf (aD v (O.mono (!2)) rfl (aa (aD m (O.mono (!2)) rfl (aa (qf 7) ac)) (aa (qf 1) ac)))) (ae (aw (i:=2) bv.nd rfl ci (qf 7))
   (aj (aw (i:=1) bv.nd rfl ci (aD m (O.mono (!2)) rfl (aa (qf 7) ac))))) bS)))))))))))))),λss R h=>?_⟩)
 .obtain⟨sts,C,p0,q0,rfl,_⟩:=h;rfl
 obtain⟨sts,C,p0,q0,rfl,st,Y,a7,r⟩:=h;walk_at "dx";refine bT (λi=>.none) (by rw[Je];have:=st.few;omega) (λi hi Q hQ=>?_) ?_
 .walk_at "dx";exact hQ
 have t:∀i,pkF ((cu sts.length).map λ_=>(none:Option Stp)) i=none:=λi=>by
  rw[pkF,Jh,JE];cases (cu sts.length)[i]? <;> rfl
 rw[Je,show(cu sts.length).map (λ_=>Mm)=(((cu sts.length).map λ_=>(none:Option Stp)).map fe) by rw[JI];rfl];walk_at "dx";have hD:0<q0*Cj sts.length:=Nat.mul_pos Y (rG _);have dv:∀{k},1<=k->k<=sts.length->k∣q0*Cj sts.length:=λh1 h2=>Lp (rH h1 _ h2) (Me _ _);have b0:q0∣q0*Cj sts.length:=L3 _ _;generalize q0*Cj sts.length=D at *;refine gJ (Ir sts D p0 q0 C) ⟨_,.mk none _ p0 q0 (λ_=>0) _ _ _ _ ⟨⟨Y,a7,b0,Jx _⟩,!1,(λi s e=>by rw[t] at e;cases e),λi=>.root (t i)⟩ (.inl ⟨rfl,rfl,rfl⟩) (λi=>.root (t i)) rfl⟩ λE hN=>?_;clear t;rintro _ env ⟨best,pl,p,q,P,a,b,c,d,u,bo,hv,rfl⟩;have few:=st.few;walk_at "dx";have cq:∀x:Int,wO q x:=λx=>nB (!0) (by have:=u.q2;omega);refine⟨pl,p,q,rfl,by rw[u.len];omega,u.ends,λi s e=>⟨cq _,by rw[u.len];exact(st.stp _ _ (u.mem i s e)).1⟩,λPl S Z=>?_⟩;walk_at "dx";refine⟨sts,pl,p,q,Pl,rfl,by rw[u.len];omega,u.len.symm,S,λi hi=>⟨(st.at' i (by rw[<-u.len];exact hi)).1,(st.at' i (by rw[<-u.len];exact hi)).2,λs J=>⟨cq _,by rw[u.len];exact(st.stp _ _ J).1⟩⟩,λag X=>?_⟩;have as:=X.asked S Z;obtain rfl:P=λi=>Pl.getD i 0:=funext λi=>(hv i).same (as.val i);walk_at "dx";have T:ag.length=sts.length:=X.1.trans u.len;have I:∀i s,pkF ag i=some s->s∈sts.getD i []:=λi s e=>by
  have hi:i<pl.length:=K7 λz=>by
   rw[pkF,Jh,J0 (by rw[X.1];exact z)] at e;cases e
  rcases X.2 i hi with⟨e1,_⟩|⟨s',a0,e1,_⟩
  .exact u.mem i s (e1▸e)
  .rw[e] at e1;cases e1;exact a0
 refine⟨ul _,ul _,cw (λeq=>⟨Jt (!2) af,?hR⟩) (λne=>?hN)⟩
 case hR =>
  have eq:ag=pl:=of_decide_eq_true ((h8 ag pl).symm.trans eq);subst eq;refine(hN _).rt _ _ ?_
  walk_at "d2";refine r best p q Pl bo (S.trans u.len) λi s J=>?_;have hi:i<ag.length:=by rw[u.len];exact mK J
  rcases X.2 i hi with⟨_,h⟩|⟨s',a0,e1,h⟩
  .exact h s J
  .exact absurd h (xo as.val e1)
 case hN =>
  have ne:ag≠pl:=λe=>ne (by rw[e];exact(h8 pl pl).trans (decide_eq_true rfl));walk_at "dx";refine⟨ag,rfl,!0,λi s e=>by rw[T];exact(st.stp _ _ (I i s e)).1,λseen loops cuts lp lk=>?_⟩;rw[T] at lp lk;walk_at "dx";refine iG (Iq sts D p0 q0 p q Pl ag loops cuts) (.mk best ag p q _ _ T (λi=>(MA (!1)).symm) ⟨u.q1,u.q2,u.dvd,u.rank⟩ bo (Jx _) (λ_=>⟨rfl,rfl⟩) λh=>absurd h (!0)) (λF hM=>?hG) ?hE
  case hG =>
   rintro j env hj ⟨best,pl',p',q',a,b,U,t,cs,bo,rl,r0,r1⟩;rw[Je] at hj;have el:(loops.map stL)[j]'(by rw[Je];exact hj)=stL loops[j]:=JG ..;rw[el];obtain⟨l1,l2,i,V⟩:=lp.loop loops[j] (JF hj);have a3:cuts.take (j+1)=cuts.take j++[i]:=by rw[J6,show cuts[j]? = some i by rw[lp.cut,JE,Ji hj,LW,V.last l1]];rfl
   clear el;generalize loops[j]=l at *;have hi:i<sts.length:=by
    cases V with
    | nil=>exact absurd rfl l1
    | cons e _=>exact mK (I _ _ e)
   have b1:wL sts l:=⟨l1,l2,λs J=>by
    obtain⟨k,e⟩:=V.mem s J;exact⟨k,I k s e⟩,by rw[V.last l1];exact hi⟩
   have s0:0<=fv l:=nZ λs J=>by
    obtain⟨k,e⟩:=V.mem s J;exact(st.stp _ _ (I k s e)).2.1
   have mP:1<=l.length:=KL.mpr l1;have less:q*fv l<p*l.length:=as.loop u.ends V l1;have W:∃s,atI (l.map ii) (-1)=some (ii s)/\s.2.1=i:=by
    rcases J3 l with z|⟨l0,s,z⟩
    .exact absurd z l1
    .rw[J4] at z;have:=V.last l1;rw[z] at this ⊢;rw[Jy];exact⟨s,lG _ _,by simpa using this⟩
   obtain⟨s,W,b2⟩:=W;have L:BP (fv l) l.length=.tuple [.int (lwP (fv l).toNat l.length:Nat),.int (lwQ (fv l).toNat l.length:Nat)]:=by have:=iR (fv l).toNat l.length;rw[Kz s0] at this;exact this
   have qn:=pf (a:=(fv l).toNat) mP;have qm:lwQ (fv l).toNat l.length<=l.length:=ri _ _;have qd:lwQ (fv l).toNat l.length∣D:=Lp (Nat.div_dvd_of_dvd (L2 _ _)) (dv mP l2);have b3:lwP (fv l).toNat l.length*q<p*lwQ (fv l).toNat l.length:=by
    obtain⟨e1,e2⟩:=BO (a:=(fv l).toNat) (b:=l.length);have less:q*(fv l).toNat<p*l.length:=by
     have:((q*(fv l).toNat:Nat):Int)<((p*l.length:Nat):Int):=by rw[Mj,Mj,Kz s0];exact less
     exact Int.ofNat_lt.mp this
    generalize lwP (fv l).toNat l.length=x at *;generalize lwQ (fv l).toNat l.length=y at *;generalize om (fv l).toNat l.length=g at *;rw[e1] at less;rw[e2] at less;refine Nat.lt_of_mul_lt_mul_left (a:=g) ?_;rw[show g*(x*q)=q*(g*x) by rw[KO x q,<-J7,KO g q,J7],show g*(p*y)=p*(g*y) by rw[<-J7,KO g p,J7]];exact less
   walk_at "dx";refine⟨_,W,_,rfl,_,rfl,_,_,_,rfl,rfl,rfl,i,?hX,_,rfl,?hY⟩
   case hX =>
    rw[b2];exact vB (by rw[Je];omega)
   case hY =>
    rw[show((pl'.map fe).set i Mm)=(pl'.set i none).map fe from(Mx (f:=fe) (l:=pl') (i:=i) (a:=none)).symm];have M:∀k,pkF (pl'.set i none) k=jN (pkF ag) (cuts.take j++[i]) k:=λk=>by
     rw[Bl (!0),t k];unfold jN;by_cases z:k=i <;> simp[z]
    have a4:(pl'.set i none).length=sts.length:=by rw[yn];exact U
    generalize pl'.set i none=pl2 at *;walk_at "dx";refine⟨l,rfl,mP,!0,s0,?_⟩;rw[L];walk_at "dx";have b6:=cs.q2;refine⟨_,_,_,_,rfl,km (by omega +splitDisjunctions) (by omega +splitDisjunctions),km (by omega +splitDisjunctions) (by omega +splitDisjunctions),?_⟩;walk_at "dx";refine cw (λhl=>?hT) (λhl=>?hF)
    case hT =>
     walk_at "dx";refine⟨l,rfl,mP,!0,s0,?_⟩;rw[L];have hl:lwP (fv l).toNat l.length*q'<p'*lwQ (fv l).toNat l.length:=by exact_mod_cast hl
     have rk:=xB hD cs.dvd qd hl;walk_at "dx";exact .mk (some l) pl2 _ _ _ _ a4 (a3▸M) ⟨qn,!0,qd,by have:=cs.rank;omega⟩ (.inr ⟨l,rfl,b1,rfl,rfl⟩) (!0) (λz=>absurd z (Mc j)) λ_=>!0
    case hF =>
     refine(hM _).nx _ (.mk best pl2 p' q' _ _ a4 (a3▸M) cs bo rl (λz=>absurd z (Mc j)) λ_=>?_);by_cases z:j=0
     .obtain⟨rfl,rfl⟩:=r0 z;exact absurd (by exact_mod_cast b3) hl
     .exact r1 (!0)
  case hE =>
   rintro env ⟨best,pl',p',q',a,b,U,t,cs,bo,rl,r0,r1⟩;rw[Je] at t r0 r1;have b4:cuts.length=loops.length:=by rw[lp.cut,Je]
   have en:=lp.fin λi s e=>mK (I i s e);rw[<-b4,Ke] at t;have a5:pkF pl'=jN (pkF ag) cuts:=funext t;have a6:ChI sts D (dL D p0 q0) pl' p' q':=⟨cs,U,λi s e=>I i s (by
    rw[t i] at e;unfold jN at e;split at e
    .cases e
    .exact e),λi=>by rw[a5];exact en i⟩
   obtain⟨P',b5,lt⟩:=ChI.less st hD (P:=λi=>Pl.getD i 0) as.val a6 (pl:=pl) (by
    by_cases z:loops.length=0
    .right;obtain⟨rfl,rfl⟩:=r0 z;have ec:cuts=[]:=Lq.mp (!0);have e2:pkF pl'=pkF ag:=a5.trans (by rw[ec];funext i;exact MA (!1));rw[e2];refine⟨rfl,rfl,as,Classical.byContradiction λhn=>ne (Bm X.1 λi hi=>Decidable.byContradiction λhh=>hn ⟨i,!0,hh⟩)⟩
    .exact .inl (r1 (!0)))
   exact(hN _).nx _ ⟨_,lt,.mk best pl' p' q' P' _ _ _ _ a6 bo b5 rfl⟩
def kC{κ β:Type} [DecidableEq κ]{kvs:List (κ×β)}{k:κ}{v:β}(h:aI kvs k=none):cV kvs k v=kvs++[(k,v)]:=by unfold cV;rw[h,MA (!1)]
def eF{κ β:Type} [DecidableEq κ]{kvs:List (κ×β)}{k:κ}:k∈kvs.map (·.1)↔(aI kvs k).isSome=true:=by
 induction kvs with
 | nil=>simp[aI]
 | cons p kvs a =>
  rw[aq,Jr,Jo,a];by_cases z:p.1=k
  .simp[z]
  .rw[MA z];exact⟨λh=>h.resolve_left λe=>z e.symm,.inr⟩
abbrev Cm:=List (Nat×Option (Nat×List Int))
def cmV:Option (Nat×List Int)->ah
 | none=>.none
 | some x=>.tuple [.int (x.1:Int),.list (li x.2)]
def cmD(x:Nat×Option (Nat×List Int)):Int×ah:=((x.1:Int),cmV x.2)
def px(cm:Cm)(i:Nat):aI (cm.map cmD) (i:Int)=(aI cm i).map cmV:=by
 induction cm with
 | nil=>rfl
 | cons x cm a =>
  rw[Jr,aq,aq,a];by_cases z:x.1=i
  .rw[Mz z,Mz (show(cmD x).1=(i:Int) by rw[<-z];rfl)];rfl
  .rw[MA z,MA (show ¬(cmD x).1=(i:Int) fromλe=>z (Lr.mp e))]
inductive Bk (sts:List (List Stp)) (cm:Cm):Nat->Nat->Prop
 | root {i:Nat}:aI cm i=some none->Bk sts cm i 0
 | step {i h m:Nat}{r:List Int}:aI cm i=some (some (h,r))->(∃j s,s∈sts.getD j []/\s.2.2=r)->Bk sts cm h m->Bk sts cm i (m+1)
structure CmI(sts:List (List Stp))(cm:Cm):Prop where
 nd : (cm.map (·.1)).Nodup
 lt : ∀x∈cm.map (·.1),x<sts.length
 bk : ∀x∈cm.map (·.1),∃m,m<cm.length/\Bk sts cm x m
def Bk.up(h:Bk sts cm i m)(y:Nat×Option (Nat×List Int)):Bk sts (cm++[y]) i m:=by
 have g:∀{i v},aI cm i=some v->aI (cm++[y]) i=some v:=λe=>by rw[k7,e]
 induction h with
 | root e=>exact .root (g e)
 | step e a _ b=>exact .step (g e) a b
def CmI.put(c:CmI sts cm)(hk:k ∉ cm.map (·.1))(g:h∈cm.map (·.1))(i:k<sts.length)(l:∃j s,s∈sts.getD j []/\s.2.2=r):CmI sts (cm++[(k,some (h,r))]):=by
 have mem:∀x,x∈(cm++[(k,some (h,r))]).map (·.1)->x∈cm.map (·.1)\/x=k:=λx hx=>by simpa using hx
 refine⟨?_,λx hx=>?_,λx hx=>?_⟩
 .rw[Jy];exact Ju.mpr ⟨c.nd,!1,λa n b f z=>hk (by simp at f;rw[<-f,<-z];exact n)⟩
 .rcases mem x hx with z|rfl
  .exact c.lt x z
  .exact i
 .rw[Jz];rcases mem x hx with z|rfl
  .obtain⟨m,d,b⟩:=c.bk x z;exact⟨m,KU d,b.up _⟩
  .obtain⟨m,d,b⟩:=c.bk h g;refine⟨m+1,Nat.succ_lt_succ d,.step ?_ l (b.up _)⟩;have:aI cm x=none:=by
    cases e:aI cm x with
    | none=>rfl
    | some v=>exact absurd (eF.mpr (by rw[e];rfl)) hk
   rw[k7,this];simp[aI]
def CmI.len(c:CmI sts cm):cm.length<=sts.length:=by have:=fE _ _ c.nd c.lt;rwa [Je] at this
inductive HZ (sts:List (List Stp)) (f t M:Nat):List Sl->Prop
 | mk (S:List ao) (cm:Cm) (dn wt:List Nat) (a b c:Sl):CmI sts cm->cm.map (·.1)=dn++wt->f∈cm.map (·.1)->(∀x∈dn,∀s∈sts.getD x [],s.2.1∈cm.map (·.1))->M=sts.length - dn.length->HZ sts f t M [.fr (.list (sts.map stL)),.fr (.int f),.fr (.int t),.tr S (dG (cm.map cmD)),.ow (nD wt),a,b,c]
inductive HY (sts:List (List Stp)) (f t h:Nat) (dn:List Nat) (sh:List Stp) (m:Nat):List Sl->Prop
 | mk (S:List ao) (cm:Cm) (wt:List Nat) (c d:Sl) (D:List (Int×ah)) (ws:List ah):D=cm.map cmD->ws=nD wt->CmI sts cm->cm.map (·.1)=(dn++[h])++wt->f∈cm.map (·.1)->(∀x∈dn,∀s∈sts.getD x [],s.2.1∈cm.map (·.1))->(∀s∈sh.take m,s.2.1∈cm.map (·.1))->HY sts f t h dn sh m [.fr (.list (sts.map stL)),.fr (.int f),.fr (.int t),.tr S (dG D),.ow ws,.fr (.int h),c,d]
inductive HX (sts:List (List Stp)) (f t:Nat) (S:List ao) (cm:Cm) (wt:List Nat) (b:Sl) (M:Nat):List Sl->Prop
 | mk (rs:List (List Int)) (here:Nat) (ws:List ah):ws=lr rs->Bk sts cm here M->rs.length+M<=sts.length->(∀r∈rs,∃j s,s∈sts.getD j []/\s.2.2=r)->HX sts f t S cm wt b M [.fr (.list (sts.map stL)),.fr (.int f),.fr (.int t),.tr S (dG (cm.map cmD)),.ow (nD wt),.fr (.int here),b,.ow ws]
abbrev dX:Stmt:=top 35
def bc:ax ["steps", "first", "last", "came", "waiting", "here", "step", "rows"] ["steps", "first", "last"] (ad dX):={}
def Dv:DSp:=λss R=>∃(sts:List (List Stp)) (C f t:Nat),ss=[.fr (.list (sts.map stL)),.fr (.int f),.fr (.int t)]/\StI sts C/\f<sts.length/\(∃l,Gth (λi=>sts.getD i []) f l t) /\
 ∀rs:List (List Int),rs.length<=sts.length->(∀r∈rs,∃j s,s∈sts.getD j []/\s.2.2=r)->R (.ow (lr rs)) [.un,.un,.un]
def jQ(F:Fun K "way_between" "way_between" dX f fd)(B:Bn mg):ca P w K mg base CX0 1 f fd ["steps", "first", "last"] (spD K Dv):=by
 refine okD (k:=0) F bc (λss R h=>?_) (!2) (λcdv A outer s H E D=>⟨_,(ae (aw (i:=3) bc.nd rfl ci (A9 (qf 1) gq))
   (ae (aw (i:=4) bc.nd rfl ci (b7 (aa (qf 1) ac)))
   (ae (cg PassesOwn.never (aF gu kW (qv 2) (qv 3) (by with_unfolding_all rfl)) (ae (aw (i:=5) bc.nd rfl ci (DW 4 (K:=K) rfl rfl))
   (aj (dD PassesOwn.never rfl (aH (K:=K) rfl (aN (ai (K:=K) rfl) mIx (qv 0) (qv 5) (λ_ _=>rfl))) (ak (i:=6) bc.nd rfl ci) (aj (gP (aF gu kW (aN (ai (K:=K) rfl) mIx (qv 6) al (λ_ _=>rfl)) (qv 3) (by with_unfolding_all rfl)) (ae (uL 3 (K:=K) rfl rfl (aN (ai (K:=K) rfl) mIx (qv 6) al (λ_ _=>rfl)) (cQ (aa (qf 5) (aa (aN (ai (K:=K) rfl) mIx (qv 6) al (λ_ _=>rfl)) ac))))
   (aj (b9 (gr 4 (K:=K) rfl rfl (aN (ai (K:=K) rfl) mIx (qv 6) al (λ_ _=>rfl)))))) bS))))))
   (ae (aw (i:=7) bc.nd rfl ci (b7 ac))
   (ae (aw (i:=5) bc.nd rfl ci (qf 2))
   (ae (cg PassesOwn.never (aF kK ya (aN (C6 (K:=K) rfl) C5 (qv 3) (qv 5) (λ_ _=>rfl)) gq (aU _)) (ae (b9 (gr 7 (K:=K) rfl rfl (aN (ai (K:=K) rfl) mIx (aN (C6 (K:=K) rfl) C5 (qv 3) (qv 5) (λ_ _=>rfl)) al (λ_ _=>rfl))))
   (aj (aw (i:=5) bc.nd rfl ci (aN (ai (K:=K) rfl) mIx (aN (C6 (K:=K) rfl) C5 (qv 3) (qv 5) (λ_ _=>rfl)) al (λ_ _=>rfl))))))
   (ae (b9 (Gk 7 (K:=K) rfl rfl))
   (aj (a9 (qv 7)))))))))),λss R h=>?_⟩)
 .obtain⟨sts,C,f,t,rfl,_⟩:=h;rfl
 obtain⟨sts,C,f,t,rfl,st,W,⟨lw,X⟩,r⟩:=h;have few:=st.few;walk_at "dx";intro S;walk_at "dx";refine⟨Jt (!2) af,?_⟩;walk_at "dx";refine gJ (HZ sts f t) ⟨_,.mk S [(f,none)] [] [f] _ _ _ ⟨!1,by simpa using W,λx hx=>⟨0,!1,.root ?_⟩⟩ rfl (!1) (λx hx=>nomatch hx) rfl⟩ λE hN=>?_
 .obtain rfl:x=f:=by simpa using hx
  simp[aI]
 rintro _ env ⟨S,cm,dn,wt,a,b,c,g,n,j,l,rfl⟩;have u:=px cm t;walk_at "dx";refine⟨_,rfl,cw (λh1=>?hB) (λh1=>?hT)⟩
 case hB =>
  rw[u,Ld] at h1;have O:t ∉ cm.map (·.1):=λz=>by
   rw[eF.mp z] at h1;cases h1
  cases wt with
  | nil =>
   rw[JM] at n;exact absurd (uB (ks:=cm.map (·.1)) (λx hx s o=>l x (n▸hx) s o) X j) O
  | cons h w =>
   refine⟨_,_,rfl,?_⟩;have q:h∈cm.map (·.1):=by rw[n];simp
   have G:=g.lt h q;obtain⟨_,g2⟩:=st.at' h G;have Q:atI (sts.map stL) (h:Int)=some (stL (sts.getD h [])):=cp (by
    rw[JE,Jh,Ji G];rfl)
   have T:=st.stp h;walk_at "dx";refine⟨_,Q,?_⟩;generalize I:sts.getD h []=sh at *;walk_at "dx";refine iG (HY sts f t h dn sh) (.mk S cm w _ _ _ _ rfl rfl g (by rw[n];simp) j l (λs o=>nomatch o)) (λF hM=>?hG) ?hE
   case hG =>
    rintro m env L ⟨S,cm,wt,c,d,_,_,rfl,rfl,g,n,j,l,p⟩;rw[Je] at L;have Y:(sh.map ii)[m]'(by rw[Je];exact L)=ii sh[m]:=JG ..;rw[Y];have J:sh[m]∈sh:=JF L;have tk:sh.take (m+1)=sh.take m++[sh[m]]:=by rw[J6,Ji L];rfl
    generalize sh[m]=s at *;have u:=px cm s.2.1;have q:h∈cm.map (·.1):=by rw[n];simp
    have cl:=g.len;walk_at "dx";refine⟨_,rfl,_,rfl,_,rfl,_,rfl,cw (λh2=>?hP) (λh2=>?hQ)⟩
    case hQ =>
     refine(hM _).nx _ (.mk _ cm wt _ _ _ _ rfl rfl g n j l λx hx=>?_);rw[tk] at hx;rcases Jj.mp hx with z|z
     .exact p x z
     .rw[Jf.mp z];refine eF.mpr ?_;rw[u,Ld] at h2;cases e:(aI cm s.2.1).isSome with
      | true=>rfl
      | false=>exact absurd e h2
    case hP =>
     rw[u,Ld] at h2;have o:s.2.1 ∉ cm.map (·.1):=λz=>by
      rw[eF.mp z] at h2;cases h2
     have Z:aI (cm.map cmD) (s.2.1:Int)=none:=by
      rw[u];cases e:aI cm s.2.1 with
      | none=>rfl
      | some v=>rw[e] at h2;cases h2
     refine⟨_,rfl,_,rfl,Jt (!2) af,⟨_,rfl⟩,_,rfl,_,rfl,_,rfl,_,rfl,Jp (show(cm.map cmD).length<1000000 by rw[Je];omega) af,?_⟩;rw[kC Z];walk_at "dx";have e2:=congrArg fI n;rw[Je,Jz] at e2;have N:(cm++[(s.2.1,some (h,s.2.2))]).map (·.1)=cm.map (·.1)++[s.2.1]:=by rw[Jy];rfl
     refine⟨_,rfl,_,rfl,Jp (show(nD wt).length<1000000 by rw[Je];omega) af,(hM _).nx _ (.mk _ (cm++[(s.2.1,some (h,s.2.2))]) (wt++[s.2.1]) _ _ _ _ (by rw[Jy];rfl) (by rw[nD,nD,Jy];rfl) (g.put o q (T s J).1 ⟨h,s,by rw[I];exact J,rfl⟩) (by rw[N,n,J5 (dn++[h])]) (by rw[N];exact Jl _ j) (by rw[N];exactλx hx s' U=>Jl _ (l x hx s' U)) λx hx=>?_)⟩;rw[N];rw[tk] at hx;rcases Jj.mp hx with z|z
     .exact Jl _ (p x z)
     .rw[Jf.mp z];simp
   case hE =>
    rintro env ⟨S,cm,wt,c,d,_,_,rfl,rfl,g,n,j,l,p⟩;rw[Je,Ke] at p;have:=g.len;have e2:=congrArg fI n;rw[Je,Jz,Jz] at e2;refine(hN _).nx _ ⟨sts.length - (dn++[h]).length,by rw[Jz];simp at e2 ⊢;omega,.mk S cm (dn++[h]) wt _ _ _ g n j (λx hx s o=>?_) rfl⟩;rcases Jj.mp hx with z|z
    .exact l x z s o
    .rw[Jf.mp z,I] at o;exact p s o
 case hT =>
  walk_at "dx";refine⟨JD _,?_⟩;walk_at "dx";have O:t∈cm.map (·.1):=eF.mpr (by
   rw[u,Ld] at h1;cases e:(aI cm t).isSome with
   | true=>rfl
   | false=>exact absurd e h1)
  obtain⟨m0,a0,b0⟩:=g.bk t O;have cl:=g.len;refine gJ (HX sts f t S cm wt b) ⟨m0,.mk [] t _ rfl b0 (by simp;omega) (λr D=>nomatch D)⟩ λF hM=>?_;rintro M env ⟨rs,here,_,rfl,bk,hl,D⟩;have y:=px cm here;walk_at "dx";cases bk with
  | root e =>
   rw[e] at y;refine⟨_,rfl,_,y,cw (λh=>by cases h) (λ_=>?_)⟩;walk_at "dx";rw[show(lr rs).reverse=lr rs.reverse from(List.map_reverse ..).symm];exact r rs.reverse (by rw[Kg];omega) λx hx=>D x (List.mem_reverse.mp hx)
  | step e o bk =>
   rename_i hp m V;rw[e] at y;refine⟨_,rfl,_,y,cw (λ_=>⟨_,rfl,_,y,_,rfl,_,rfl,Jp (show(lr rs).length<1000000 by rw[Je];omega) af,?_⟩) (λh=>absurd rfl h)⟩;walk_at "dx";refine⟨_,rfl,_,y,_,rfl,_,rfl,(hM _).nx _ ⟨m,!0,.mk (rs++[V]) hp _ (by rw[lr,lr,Jy];rfl) bk (by rw[Jz];simp only[JP];omega) λx hx=>?_⟩⟩;rcases Jj.mp hx with z|z
   .exact D x z
   .rw[Jf.mp z];exact o
abbrev cX:Stmt:=top 36
def ij:ax ["steps", "first", "loop", "rows"] ["steps", "first", "loop"] (ad cX):={}
def ud:DSp:=λss R=>∃(sts:List (List Stp)) (C f:Nat) (l:List Stp),ss=[.fr (.list (sts.map stL)),.fr (.int f),.fr (stL l)]/\StI sts C/\f<sts.length/\wL sts l/\(∃m,Gth (λi=>sts.getD i []) f m (l.getLastD (0,0,[])).2.1)/\(∀i s,s∈sts.getD i []->s.2.2.length<=1000) /\
 ∀rs:List (List Int),R (.fr (.tuple [.list (lr rs),.list (lr (l.map (·.2.2)))])) [.un,.un,.un]
def mx(F:Fun K "loop_plan" "loop_plan" cX f fd)(B:Bn mg)(a:Cal P w K mg base "way_between" 1 (spD K Dv)):ca P w K mg base CX0 2 f fd ["steps", "first", "loop"] (spD K ud):=by
 refine okD (k:=1) F ij (λss R h=>?_) (!2) (λcdv A outer s H E d=>⟨_,(bB (aw (i:=3) ij.nd rfl ci (aD a (d.mono (!2)) rfl (aa (qf 0) (aa (qf 1) (aa (aN (ai (K:=K) rfl) mIx (aN (ai (K:=K) rfl) mIx (qv 2) (zL gc zW al) (λ_ _=>rfl)) al (λ_ _=>rfl)) ac)))))
   (aj (a9 (cQ (aa (bF (N':=["row"]) (ix:=[none]) rfl (bP (N:=_::_) (sc0:=ad cX) rfl rfl (!3)) (aH (K:=K) rfl (qf 3)) (λ_ _ _ _=>(ak (i:=0) (!4) rfl ci)) (λ_ _ _ _=>aM) (λ_ _ _ _=>(qM (K:=K) rfl rfl B.list (aa (qv 0) ac)))) (aa (bF (N':=["step"]) (ix:=[none]) rfl (bP (N:=_::_) (sc0:=ad cX) rfl rfl (!3)) (aH (K:=K) rfl (qf 2)) (λ_ _ _ _=>(ak (i:=0) (!4) rfl ci)) (λ_ _ _ _=>aM) (λ_ _ _ _=>(qM (K:=K) rfl rfl B.list (aa (aN (ai (K:=K) rfl) mIx (qv 0) al (λ_ _=>rfl)) ac)))) ac)))))),λss R h=>?_⟩)
 .obtain⟨sts,C,f,l,rfl,_⟩:=h;rfl
 obtain⟨sts,C,f,l,rfl,st,g,lo,j,m,r⟩:=h;have few:=st.few;have p:=lo.few;obtain⟨s,b,c⟩:∃s,atI (l.map ii) (-1)=some (ii s)/\s.2.1=(l.getLastD (0,0,[])).2.1:=by
  rcases J3 l with z|⟨q,s,z⟩
  .exact absurd z lo.ne
  .rw[J4] at z;rw[z,Jy];exact⟨s,lG _ _,!1⟩
 walk_at "dx";refine⟨_,b,_,rfl,_,rfl,sts,C,f,s.2.1,rfl,st,g,by rw[c];exact j,λrs n o=>?_⟩;walk_at "dx";refine bT (λi=>.list (li (rs.getD i []))) (by rw[Je];omega) (λi hi Q hQ=>?_) ?_
 .rw[fN];walk_at "dx";exact hQ
 rw[Je,aT rs [] (λr=>dy (li r))];walk_at "dx";refine bT (λi=>.list (li (l.getD i (0,0,[])).2.2)) (by rw[Je];omega) (λi hi Q hQ=>?_) ?_
 .rw[Je] at hi;have e:(l.map ii)[i]'(by rw[Je];exact hi)=ii (l.getD i (0,0,[])):=by
   rw[JG,Jh,Ji hi];rfl
  rw[e];unfold ii;walk_at "dx";exact hQ
 rw[Je,aT l (0,0,[]) (λs:Stp=>dy (li s.2.2))];walk_at "dx";refine⟨Jt (!2) af,?_⟩;have:=r rs;rw[show lr (l.map (·.2.2))=l.map (λs:Stp=>dy (li s.2.2)) from JI ..] at this;exact this
abbrev eV:Stmt:=top 24
def cO:ax ["ways", "leading", "standing", "way"] ["ways"] (ad eV):={}
def kO(F:Fun K "leading_to" "leading_to" eV f fd)(B:Bn mg):ca P w K mg base CX0 1 f fd ["ways"] (spD K uc):=by
 refine F.ok (k:=0) cO (λvs H Q E h=>?_) λcdv A outer s H vs Q E b h=>⟨AK K,kH (zO (i:=1) cO.nd rfl ci uY) (kH (uO PassesOwn.never rfl (zQ (bG (i:=0) rfl ci)) (oO (i:=2) cO.nd rfl ci) (kG (uO PassesOwn.never rfl (uT (oR (HM (hu2 b)) (bG (i:=0) rfl ci) (bG (i:=2) rfl ci) (λ_ _=>rfl))) (oO (i:=3) cO.nd rfl ci) (kG (oM (Ef ei nT nN jy (zR oi ti tf (sQ (hu2 b)) (bG (i:=1) rfl ci) (cj (oR (ai rfl) (bG (i:=3) rfl ci) j9 (λ_ _=>rfl)) (cj (uX eK) eK))) (cj (bG (i:=2) rfl ci) eK))))))) (kG (zP (bG (i:=1) rfl ci)))),?_⟩
 .obtain⟨M,ss,R,a,_,⟨W,rfl,_⟩,_⟩:=h;exact a
 .have e:=yj h;obtain⟨M,ss,R,a,_,⟨W,rfl,_⟩,_⟩:=h
  match vs,a with
  | [v],_=>exact e
section
variable {α:Type}[DecidableEq α][BEq α][LawfulBEq α]
def BB(succ:α->List α)(lost:List α)(s:α):Nat:=(succ s).countP λt=>decide (t ∉ lost)
def nu(l:List α)(lost:List α)(x:α)(hx:x ∉ lost):l.countP (λt=>decide (t ∉ lost))=l.countP (λt=>decide (t ∉ lost++[x]))+l.count x:=by
 induction l with
 | nil=>rfl
 | cons a l b =>
  rw[L6,L6,A2,b];by_cases z:a=x
  .subst z;simp[hx];omega
  .by_cases w:a∈lost
   .simp[w,z]
   .simp[w,z];omega
structure LoI(ks:List α)(succ:α->List α)(opens:α->Int)(wait lost:List α):Prop where
 nd : (lost++wait).Nodup
 sub:∀s∈lost++wait,s∈ks
 opn:∀s∈ks,opens s=BB succ lost s
 all:∀s∈ks,s∈lost++wait↔opens s=0
structure LoW(ks:List α)(succ:α->List α)(opens:α->Int)(wait lost:List α)(x:α)(todo:List α):Prop where
 nd : ((lost++[x])++wait).Nodup
 sub:∀s∈(lost++[x])++wait,s∈ks
 opn:∀s∈ks,opens s=BB succ (lost++[x]) s+todo.count s
 all:∀s∈ks,s∈(lost++[x])++wait↔opens s=0
 todo:∀s∈todo,s∈ks
variable {ks wait lost todo:List α}{succ:α->List α}{opens:α->Int}{x y:α}
def LoI.start(nd:ks.Nodup):LoI ks succ (λs=>((succ s).length:Int)) (ks.filter λs=>(succ s).isEmpty) []:=by
 refine⟨(show(ks.filter _).Nodup from List.Pairwise.filter _ nd),λs b=>by simp at b;exact b.1,λs b=>?_,λs b=>?_⟩
 .unfold BB;rw[List.countP_eq_length.mpr λa _=>!1]
 .simp[b]
def LoI.pop(h:LoI ks succ opens (wait++[x]) lost)(lead:List α)(b:∀s∈ks,lead.count s=(succ s).count x)(hk:∀s∈lead,s∈ks):LoW ks succ opens wait lost x lead:=by
 have pm:((lost++[x])++wait).Perm (lost++(wait++[x])):=by rw[J5];exact gt _ KW
 have hx:x ∉ lost:=λz=>by
  have:=Ju.mp h.nd;exact this.2.2 x z x (!1) rfl
 refine⟨pm.nodup_iff.mpr h.nd,λs a=>h.sub s (pm.mem_iff.mp a),λs a=>?_,λs a=>?_,hk⟩
 .rw[h.opn s a,b s a];unfold BB;rw[nu (succ s) lost x hx];simp
 .rw[pm.mem_iff];exact h.all s a
def LoW.fin(h:LoW ks succ opens wait lost x []):LoI ks succ opens wait (lost++[x]):=⟨h.nd,h.sub,λs a=>by rw[h.opn s a];simp,h.all⟩
def LoW.pos(h:LoW ks succ opens wait lost x (y::todo)):0<opens y:=by have a:=h.todo y (!1);have:=h.opn y a;rw[LJ] at this;omega
def LoW.step(h:LoW ks succ opens wait lost x (y::todo))(o':α->Int)(ho:∀s,o' s=if s=y then opens y - 1 else opens s):LoW ks succ o' (if o' y=0 then wait++[y] else wait) lost x todo:=by
 have i:=h.todo y (!1);have l:=h.pos;have m:o' y=opens y - 1:=by rw[ho,Mz rfl]
 have g:y ∉ (lost++[x])++wait:=λz=>by have:=(h.all y i).mp z;omega
 have d:∀s∈ks,o' s=BB succ (lost++[x]) s+todo.count s:=λs c=>by
  have:=h.opn s c;rw[ho];by_cases z:s=y
  .subst z;rw[LJ] at this;rw[Mz rfl];omega
  .rw[MA z,this,List.count_cons_of_ne (λe=>z e.symm)]
 have f:∀s∈todo,s∈ks:=λs c=>h.todo s (by simp[c]);by_cases z:o' y=0
 .rw[Mz z];have e:(lost++[x])++(wait++[y])=((lost++[x])++wait)++[y]:=!1
  refine⟨?_,λs c=>?_,d,λs c=>?_,f⟩
  .rw[e];exact Ju.mpr ⟨h.nd,!1,λa k b j w=>g (by rw[Jf] at j;rw[<-j,<-w];exact k)⟩
  .rw[e] at c;rcases Jj.mp c with w|w
   .exact h.sub s w
   .rw[Jf.mp w];exact i
  .rw[e,Jj,Jf,h.all s c,ho];by_cases w:s=y
   .subst w;rw[Mz rfl];exact⟨λ_=>!0,λ_=>.inr rfl⟩
   .rw[MA w];simp[w]
 .rw[MA z];refine⟨h.nd,h.sub,d,λs c=>?_,f⟩;rw[h.all s c,ho];by_cases w:s=y
  .subst w;rw[Mz rfl];omega
  .rw[MA w]
def LoI.fin(h:LoI ks succ opens [] lost){s:α}(a:s∈ks)(b:s ∉ lost):∃t∈succ s,t ∉ lost:=by
 have h1:opens s≠0:=λz=>b (by simpa using(h.all s a).mpr z);rw[h.opn s a] at h1;have:0<BB succ lost s:=!0
 obtain⟨t,c,d⟩:=List.countP_pos_iff.mp this;exact⟨t,c,of_decide_eq_true d⟩
def Off(succ:α->List α)(l:List α):Prop:=∀A:α->Prop,(∀s,A s->∃t∈succ s,A t)->∀s∈l,¬A s
def Off.add(h:Off succ (lost++wait))(b:∀t∈succ y,t∈lost):Off succ (lost++(wait++[y])):=λA hA s a z=>by
 rw[<-J5,Jj,Jf] at a;rcases a with w|rfl
 .exact h A hA s w z
 .obtain⟨t,c,at'⟩:=hA s z;exact h A hA t (Jl _ (b t c)) at'
def qT(h:BB succ lost y=0):∀t∈succ y,t∈lost:=λt a=>by
 have:=List.countP_eq_zero.mp h t a;simpa using this
end
def cx(W:Wd)(x:ay):List ay:=((aI W x).getD []).map (·.2)
def lK(ld:Ldl)(y:ay):List ay:=(aI ld y).getD []
def yE(ld:Ldl)(y x a:ay):lK (lI ld y x) a=if a=y then lK ld y++[x] else lK ld a:=by
 induction ld with
 | nil =>
  unfold lI lK;rw[aq];by_cases z:a=y
  .subst z;simp[aI]
  .have b:¬y=a:=λe=>z e.symm;simp[z,b,aI]
 | cons p ld c =>
  unfold lI;by_cases w:p.1=y
  .rw[Mz w];unfold lK;rw[aq,aq,aq];by_cases z:a=y
   .subst z;simp[w]
   .have b:¬p.1=a:=λe=>z (by rw[<-e,w]);simp[z,b]
  .rw[MA w];unfold lK at c ⊢;rw[aq,aq,aq];by_cases v:p.1=a
   .have z:¬a=y:=λe=>w (by rw[v,e]);simp[v,z]
   .rw[MA v,MA v,c,MA w]
def y4(x z y:ay)(qs:List (ah×ay))(ld:Ldl):(lK (tF ld x qs) y).count z=(lK ld y).count z+if z=x then (qs.map (·.2)).count y else 0:=by
 induction qs generalizing ld with
 | nil=>simp[tF]
 | cons q qs c =>
  show(lK (tF (lI ld q.2 x) x qs) y).count z=_;rw[c,yE,Jr,A2];by_cases a:y=q.2 <;> by_cases b:z=x
  .subst a b;simp;omega
  .subst a;have d:¬x=z:=λe=>b e.symm;simp[b,A2,d]
  .subst b;have f:¬q.2=y:=λe=>a e.symm;simp[a,f]
  .simp[a,b]
theorem rZ(z y:ay):∀(W:Wd) (ld:Ldl),(W.map λp=>p.1).Nodup->(lK (W.foldl (λld p=>tF ld p.1 p.2) ld) y).count z=(lK ld y).count z+(cx W z).count y
 | [],ld,_=>by simp[cx,aI]
 | p :: W,ld,nd=>by
  rw[Jr] at nd;obtain⟨a,b⟩:=JO.mp nd;rw[List.foldl_cons,rZ z y W _ b,y4];unfold cx;rw[aq];by_cases h:p.1=z
  .have hn:aI W z=none:=by
    cases e:aI W z with
    | none=>rfl
    | some v=>exact absurd (eF.mpr (by rw[e];rfl)) (h▸a)
   rw[Mz h,Mz h.symm,hn];simp
  .rw[MA h,MA λe=>h e.symm];omega
def sV(nd:(W.map λp=>p.1).Nodup)(z y:ay):(lK (c8 W) y).count z=(cx W z).count y:=by have:=rZ z y W [] nd;unfold c8;simpa[lK,aI] using this
def yI(ld:Ldl)(y:ay):(aI (pj ld) y).getD (.list [])=.list ((lK ld y).map λk=>bi k):=by
 induction ld with
 | nil=>rfl
 | cons p ld a =>
  unfold lK at a ⊢;show(aI ((p.1,_)::pj ld) y).getD _=_;rw[aq,aq];by_cases z:p.1=y
  .simp[z]
  .rw[MA z,MA z];exact a
def Cc(W:Wd)(x:ay):aI (wdK W) x=(aI W x).map λqs=>.list (qs.map w9):=by
 induction W with
 | nil=>rfl
 | cons p W a =>
  show aI ((p.1,_)::wdK W) x=_;rw[aq,aq];by_cases z:p.1=x
  .simp[z]
  .rw[MA z,MA z];exact a
def opK(ks:List ay)(o:ay->Int):List (ay×ah):=ks.map λk=>(k,.int (o k))
def jv(ks:List ay)(o:ay->Int)(y:ay):aI (opK ks o) y=if y∈ks then some (.int (o y)) else none:=by
 induction ks with
 | nil=>rfl
 | cons k ks a =>
  show aI ((k,_)::opK ks o) y=_;rw[aq];by_cases z:k=y
  .subst z;simp
  .rw[MA z,a];have b:¬y=k:=λe=>z e.symm;simp[b]
def BF(h:y∈ks)(v:Int):cV (opK ks o) y (.int v)=opK ks λs=>if s=y then v else o s:=by
 unfold cV;rw[jv,Mz h,Mz (by rfl),opK,opK,JI];refine rA λk _=>?_;by_cases z:k=y
 .subst z;simp
 .simp[z]
def vf(h:y ∉ ks):cV (opK ks o) y (.int (o y))=opK (ks++[y]) o:=by rw[kC (by rw[jv,MA h]),opK,opK,Jy];rfl
def loK(l:List ay):List (ay×ah):=l.map λk=>(k,.bool true)
def pi(l:List ay)(y:ay):(aI (loK l) y).isSome=decide (y∈l):=by
 induction l with
 | nil=>rfl
 | cons k l a =>
  show(aI ((k,_)::loK l) y).isSome=_;rw[aq];by_cases z:k=y
  .subst z;simp
  .rw[MA z,a];have b:¬y=k:=λe=>z e.symm;simp[b]
def BQ(h:y ∉ l):cV (loK l) y (.bool true)=loK (l++[y]):=by
 have:aI (loK l) y=none:=by
  have:=pi l y;rw[decide_eq_false h] at this;cases e:aI (loK l) y with
  | none=>rfl
  | some v=>rw[e] at this;cases this
 rw[kC this,loK,loK,Jy];rfl
structure Fo(W:Wd)(lost:List ay):Prop where
 sub:∀x∈lost,x∈W.map λp=>p.1
 fin:∀x∈W.map λp=>p.1,x ∉ lost->∃y∈cx W x,y ∉ lost
 shut:∀x∈lost,∀y∈cx W x,y∈lost
 off:Off (cx W) lost
structure WdI(W:Wd):Prop where
 nd : (W.map λp=>p.1).Nodup
 few:W.length<=100
 rows:∀p∈W,p.2.length<=100
 cl : ∀p∈W,∀q∈p.2,q.2∈W.map λp=>p.1
inductive Ib (W:Wd) (ks:List ay) (i:Nat):List Sl->Prop
 | mk (S:List ao) (a b c d:Sl) (D:List (ay×ah)):D=opK (ks.take i) (λs=>((cx W s).length:Int))->Ib W ks i [.fr (bz (wdK W)),.fr (bz (pj (c8 W))),.tr S (bz D),a,b,c,d]
inductive Ia (W:Wd) (ks:List ay) (M:Nat):List Sl->Prop
 | mk (S S2:List ao) (o:ay->Int) (wait lost:List ay) (c d:Sl):LoI ks (cx W) o wait lost->Off (cx W) (lost++wait)->M=ks.length - lost.length->Ia W ks M [.fr (bz (wdK W)),.fr (bz (pj (c8 W))),.tr S (bz (opK ks o)),c,.ow (wait.map λk=>bi k),.tr S2 (bz (loK lost)),d]
inductive H9 (W:Wd) (ks:List ay) (S2:List ao) (lost:List ay) (x:ay) (lead:List ay) (m:Nat):List Sl->Prop
 | mk (S:List ao) (o:ay->Int) (wait:List ay) (d:Sl) (ls:List ah):ls=wait.map (λk=>bi k)->LoW ks (cx W) o wait lost x (lead.drop m)->Off (cx W) ((lost++[x])++wait)->H9 W ks S2 lost x lead m [.fr (bz (wdK W)),.fr (bz (pj (c8 W))),.tr S (bz (opK ks o)),.fr (bi x),.ow ls,.tr S2 (bz (loK (lost++[x]))),d]
abbrev dh:Stmt:=top 25
def bp:ax ["ways", "leading", "open_ways", "standing", "waiting", "lost", "other"] ["ways"] (ad dh):={}
def zu:DSp:=λss R=>∃W:Wd,ss=[.fr (bz (wdK W))]/\WdI W/\∀lost,Fo W lost->R (.fr (bz (loK lost))) [.un]
def kL(F:Fun K "lost_among" "lost_among" dh f fd)(B:Bn mg)(l:Cal P w K mg base "leading_to" 1 (spD K uc)):ca P w K mg base CX0 2 f fd ["ways"] (spD K zu):=by
 refine okD (k:=1) F bp (λss R h=>?_) (!2) (λcdv A outer s H E T=>⟨_,(ae (aw (i:=1) bp.nd rfl ci (aD l (T.mono (!2)) rfl (aa (qf 0) ac)))
   (ae (aw (i:=2) bp.nd rfl ci im)
   (ae (dD PassesOwn.never rfl (qL (K:=K) rfl (qf 0)) (ak (i:=3) bp.nd rfl ci) (aj (fL 2 (K:=K) rfl (hu2 T) rfl (qf 3) (d8 (iA (K:=K) rfl) iw rfl B.len db (aa (aN (nV (K:=K) rfl (hu2 T)) nU (qv 0) (qv 3) (λ_ _=>rfl)) ac)))))
   (ae (bV (i:=4)  bp.nd rfl rfl (N':=["standing", "ways"]) (ix:=[none,some 0]) rfl (bP (N:=_::_) (sc0:=ad dh) rfl rfl (!3)) (qL (K:=K) rfl (qf 0)) (λ_ _ _ _=>(ak (i:=0) (!4) rfl ci)) (λ_ _ _ _=>(dB (j7 (gp (K:=K) rfl (aN (nV (K:=K) rfl (hu2 T)) nU (qv 1) (qv 0) (λ_ _=>rfl)))))) (λ_ _ _ _=>(qf 0)))
   (ae (aw (i:=5) bp.nd rfl ci im)
   (ae (cg PassesOwn.never (gp (K:=K) rfl (qv 4)) (ae (aw (i:=3) bp.nd rfl ci (sH 4 (K:=K) rfl rfl))
   (ae (fL 5 (K:=K) rfl (hu2 T) rfl (qf 3) wS)
   (aj (dD PassesOwn.never rfl (aH (K:=K) rfl (DY (K:=K) rfl (hu2 T) (qv 1) (qf 3) (b7 ac))) (ak (i:=6) bp.nd rfl ci) (ae (D0 2 (K:=K) rfl (hu2 T) rfl ES (qf 6) al)
   (aj (gP (aF mr zX (aN (nV (K:=K) rfl (hu2 T)) nU (qv 2) (qv 6) (λ_ _=>rfl)) al (aU _)) (aj (b9 (gr 4 (K:=K) rfl rfl (qf 6)))) bS))))))))
   (eZ 5 (aj (a9 (qv 5)))))))))),λss R h=>?_⟩)
 .obtain⟨W,rfl,_⟩:=h;rfl
 obtain⟨W,rfl,J,r⟩:=h;have few:=J.few;have L:∀n:Nat,n<1000000->n<sizeLine:=λn h=>Jp h af;have X:∀p∈W,aI (wdK W) p.1=some (.list (p.2.map w9)):=λp U=>by rw[Cc,gZ J.nd U];rfl
 walk_at "dx";refine⟨W,rfl,J.nd,J.few,J.rows,?_⟩;walk_at "dx";intro S;walk_at "dx";have ek:(wdK W).map (λp=>bi p.1)=(W.map λp=>p.1).map (λk=>bi k):=by simp[wdK]
 refine⟨wdK W,rfl,?_⟩;rw[ek];have kin:∀k∈W.map (λp=>p.1),∃qs,aI W k=some qs/\aI (wdK W) k=some (.list (qs.map w9))/\qs.length<=100:=λk hk=>by
  obtain⟨p,U,rfl⟩:=Jk.mp hk;exact⟨p.2,gZ J.nd U,X p U,J.rows p U⟩
 have nd:=J.nd;have b2:(W.map λp=>p.1).length<=100:=by rw[Je];exact few
 have I:∀{k qs},aI W k=some qs->cx W k=qs.map (·.2):=λe=>by unfold cx;rw[e];rfl
 have cl:∀k∈W.map (λp=>p.1),∀y∈cx W k,y∈W.map λp=>p.1:=λk hk y Y=>by
  obtain⟨p,U,rfl⟩:=Jk.mp hk;rw[I (gZ J.nd U)] at Y;obtain⟨q,hq,rfl⟩:=Jk.mp Y;exact J.cl p U q hq
 have lc:=λz y=>sV nd z y;clear ek X;generalize M:(W.map λp=>p.1)=ks at *;refine iG (Ib W ks) (.mk S _ _ _ _ _ rfl) (λE hN=>?h1) ?h2
 case h1 =>
  rintro i env hi ⟨S,a,b,c,d,_,rfl⟩;rw[Je] at hi;rw[JG];have a0:ks[i]∈ks:=JF hi;have a3:ks[i] ∉ ks.take i:=λz=>by
   obtain⟨j,hj,e⟩:=J8 z;rw[ol] at e;rw[JZ] at hj;have:=(K1 nd).mp e;omega
  have a4:ks.take (i+1)=ks.take i++[ks[i]]:=by rw[J6,Ji hi];rfl
  generalize ks[i]=k at *;obtain⟨qs,g1,g2,g3⟩:=kin k a0;have Z:(qs.map w9).length=(cx W k).length:=by rw[I g1,Je,Je]
  walk_at "dx";refine⟨_,rfl,k,rfl,rfl,_,g2,_,rfl,⟨_,rfl⟩,_,rfl,k,rfl,rfl,L _ ?_,(hN _).nx _ (.mk _ _ _ _ _ _ ?_)⟩
  .rw[opK,Je,JZ];omega
  .rw[Z,a4];exact vf (o:=λs=>((cx W s).length:Int)) a3
 case h2 =>
  rintro env ⟨S,a,b,c,d,_,rfl⟩;rw[Je,Ke];walk_at "dx";refine⟨wdK W,rfl,?_⟩;rw[show(wdK W).map (λp=>bi p.1)=ks.map (λk=>bi k) by rw[<-M];simp[wdK]];refine bY (λj=>(cx W (ks.getD j (0,[]))).isEmpty) (λj=>bi (ks.getD j (0,[]))) (by rw[Je];omega) (λj hj Q Q' h1 h2=>?h3) ?h4
  case h3 =>
   rw[Je] at hj;rw[JG];have ej:ks.getD j (0,[])=ks[j]:=by simp[Jh,hj]
   have a5:ks[j]∈ks:=JF hj;rw[ej] at h1 h2;clear ej;generalize ks[j]=k at *;obtain⟨qs,g1,g2,g3⟩:=kin k a5;have Z:(cx W k).isEmpty=(qs.map w9).isEmpty:=by rw[I g1];cases qs <;> rfl
   walk_at "dx";refine⟨_,rfl,k,rfl,rfl,_,g2,_,rfl,cw (λz=>h1 ?_) (λz=>h2 ?_)⟩
   .rw[Z];cases e:(qs.map w9).isEmpty with
    | true=>rfl
    | false=>rw[e] at z;cases z
   .rw[Z];cases e:(qs.map w9).isEmpty with
    | true=>rw[e] at z;exact absurd rfl z
    | false=>rfl
  case h4 =>
   rw[Je,bK ks (0,[]) (λk=>(cx W k).isEmpty) (λk=>bi k)];walk_at "dx";intro S2;walk_at "dx";refine gJ (Ia W ks) ⟨_,.mk S S2 (λs=>((cx W s).length:Int)) (ks.filter λk=>(cx W k).isEmpty) [] _ _ (LoI.start nd) (λA hA s u z=>?hO) rfl⟩ λF hM=>?hW
   case hO =>
    obtain⟨t,ht,_⟩:=hA s z;have u:s∈ks/\cx W s=[]:=by simpa using u
    rw[u.2] at ht;cases ht
   case hW =>
    rintro _ env ⟨S,S2,o,wait,lost,c,d,lo,off,rfl⟩;walk_at "dx";rcases J3 wait with rfl|⟨wait,x,rfl⟩
    .refine cw (λz=>by simp at z) (λ_=>?_);walk_at "dx";have zero:∀s∈lost,o s=0:=λs u=>(lo.all s (lo.sub s (by simpa using u))).mp (by simpa using u);refine r lost ⟨λs u=>?_,λs u hn=>?_,λs u y Y=>?_,by simpa using off⟩
     .rw[M];exact lo.sub s (by simpa using u)
     .rw[M] at u;exact lo.fin u hn
     .have a6:=lo.sub s (by simpa using u);have:=lo.opn s a6;rw[zero s u] at this;exact qT (!0) y Y
    .rw[J4] at lo off ⊢;refine cw (λ_=>?_) (λz=>absurd (!1) z);refine⟨bi x,!1,?_⟩;rw[show((wait++[x]).map λk=>bi k).dropLast=wait.map λk=>bi k by simp];have V:∀s∈lK (c8 W) x,s∈ks:=λs u=>by
      have h1:=List.count_pos_iff.mpr u;rw[lc] at h1;have h2:(aI W s).isSome=true:=by
       cases e:aI W s with
       | none=>simp[cx,e] at h1
       | some v=>rfl
      rw[<-M];exact eF.mpr h2
     have C:=lo.pop (lK (c8 W) x) (λs _=>lc s x) V;have g:Off (cx W) ((lost++[x])++wait):=λA hA s u=>off A hA s (by simp at u ⊢;exact u.elim .inl λh=>.inr (Or.symm h));have a7:x ∉ lost:=λz=>by
      have:=(Ju.mp (Ju.mp C.nd).1).2.2;exact this x z x (!1) rfl
     have D:=cG C.nd C.sub;have b3:x∈ks:=C.sub x (!1);rw[Jz,Jz,JP] at D;have b0:(loK lost).length<sizeLine:=L _ (by rw[loK,Je];omega);have gl:=yI (c8 W) x;generalize lK (c8 W) x=lead at *;clear lo off;walk_at "dx";refine⟨⟨_,rfl⟩,_,rfl,x,rfl,rfl,b0,?_⟩;rw[BQ a7];walk_at "dx";refine⟨⟨_,rfl⟩,JD _,_,rfl,x,rfl,rfl,_,gl,?_⟩;refine iG (H9 W ks S2 lost x lead) (.mk S o wait _ _ rfl C g) (λG hL=>?hG) ?hE
     case hG =>
      clear C g D;rintro m env hm ⟨S,o,wait,d,_,rfl,C,g⟩;rw[Je] at hm;rw[JG];rw[K9 hm] at C;have O:lead[m]∈ks:=V _ (JF hm);generalize lead[m]=y at *;have D:=cG C.nd C.sub;rw[Jz,Jz,JP] at D;have st:=C.step (λs=>if s=y then o y - 1 else o s) λs=>rfl;have b1:aI (opK ks o) y=some (.int (o y)):=by rw[jv,Mz O]
      have hok:(opK ks o).length<sizeLine:=L _ (by rw[opK,Je];omega);have eo:(λs=>if s=y then o y - 1 else o s) y=o y - 1:=Mz rfl;rw[show(if y=y then o y - 1 else o y)=o y - 1 from Mz rfl] at st;walk_at "dx";refine⟨⟨_,rfl⟩,_,rfl,y,rfl,rfl,_,b1,rfl,rfl,rfl,hok,?_⟩;rw[BF O];generalize (λs=>if s=y then o y - 1 else o s)=o' at *;rw[<-eo] at st;walk_at "dx";refine⟨_,rfl,y,rfl,rfl,_,by rw[jv,Mz O],_,rfl,cw (λz=>?hz) (λz=>?hn)⟩
      case hz =>
       rw[Mz z] at st;refine⟨L _ (by rw[Je];omega),(hL _).nx _ (.mk _ o' (wait++[y]) _ _ (by rw[Jy];rfl) st ?_)⟩;have:=st.opn y O;rw[z] at this;exact g.add (qT (!0))
      case hn =>
       rw[MA z] at st;exact(hL _).nx _ (.mk _ o' wait _ _ rfl st g)
     case hE =>
      rintro env ⟨S,o,wait,d,_,rfl,C,g⟩;rw[Je,List.drop_length] at C;have lf:=C.fin;have D:=cG lf.nd lf.sub;rw[Jz,Jz,JP] at D;exact(hM _).nx _ ⟨ks.length - (lost++[x]).length,by rw[Jz,JP];omega,.mk S S2 o wait (lost++[x]) _ _ lf g rfl⟩
abbrev Lw:=List (Std×List (List Int))
abbrev kyw(L:Lw):List Std:=L.map (·.1)
def wyS(s o:List Int)(x:Std)(r:List Int):ah:=.tuple [.list (li r),stS (bC s o x r)]
def lwK(s o:List Int)(L:Lw):List (ay×ah):=L.map λp=>(kOf p.1,.list (p.2.map (wyS s o p.1)))
def lwW(s o:List Int)(L:Lw):Wd:=L.map λp=>(kOf p.1,p.2.map λr=>(dy (li r),kOf (bC s o p.1 r)))
def toL(s o:List Int)(L:Lw):Lds:=L.map λp=>(p.1,p.2.map (bC s o p.1))
def Es(s o:List Int)(L:Lw):wdK (lwW s o L)=lwK s o L:=by unfold wdK lwW lwK;rw[JI];refine rA λp _=>?_;simp only[Function.comp,JI];rfl
def eP(s o:List Int)(L:Lw):kys (toL s o L)=kyw L:=by simp[kys,kyw,toL]
def vo(s o:List Int)(L:Lw)(x:Std):aI (lwK s o L) (kOf x)=(L.find? λp=>decide (p.1=x)).map λp=>.list (p.2.map (wyS s o p.1)):=by
 induction L with
 | nil=>rfl
 | cons p L a =>
  show aI ((kOf p.1,_)::lwK s o L) _=_;rw[aq,a,JY];by_cases h:p.1=x
  .rw[Mz (by rw[h])];simp[h]
  .rw[MA λz=>h (fW z)];simp[h]
def fM(s o:List Int)(L:Lw)(x:Std):(aI (lwK s o L) (kOf x)).isSome=decide (x∈kyw L):=by
 rw[vo]
 induction L with
 | nil=>rfl
 | cons p L a =>
  rw[JY];by_cases h:p.1=x
  .simp[h]
  .have h':¬x=p.1:=λz=>h z.symm;simp only[h,decide_false,a];simp[h']
def iy(nd:(kyw L).Nodup)(a:p∈L):aI (lwK s o L) (kOf p.1)=some (.list (p.2.map (wyS s o p.1))):=by
 rw[vo]
 induction L with
 | nil=>cases a
 | cons q L b =>
  obtain⟨c,d⟩:=JO.mp nd;rw[JY];rcases Jo.mp a with e|e
  .subst e;simp
  .have:¬q.1=p.1:=λz=>c (Jk.mpr ⟨p,e,z.symm⟩);simp only[this,decide_false];exact b d e
def jz(h:x ∉ kyw L):cV (lwK s o L) (kOf x) (.list (v.map (wyS s o x)))=lwK s o (L++[(x,v)]):=by unfold cV;rw[MA (by rw[fM];simpa using h)];simp[lwK]
def eD(s o:List Int)(L:Lw):(lwK s o L).length=L.length:=Je ..
inductive Fm (s o:List Int) (x0:Std):Std->Prop
 | refl:Fm s o x0 x0
 | step {y z:Std}:Fm s o x0 y->z∈AL s o y->Fm s o x0 z
structure FlW(s o:List Int)(x0:Std)(L:Lw)(pile:List Std):Prop where
 fil:Fil s o x0 (toL s o L) pile
 rows:∀p∈L,p.2.Perm (fJ s.length (o.getD p.1.1 0) p.1.2)
 few:∀p∈L,p.2.length<64
 rch:∀x,x∈pile\/x∈kyw L->Fm s o x0 x
section
theorem FlW.init(h:IsS s o x0):FlW s o x0 [] [x0]:=⟨Fil.init h,!1,!1,λx hx=>by
 rcases hx with z|z
 .rw[Jf.mp z];exact .refl
 .cases z⟩
theorem FlW.nd(h:FlW s o x0 L pile):(kyw L).Nodup:=by rw[<-eP s o];exact h.fil.nd
theorem FlW.skip(h:FlW s o x0 L (pile++[x]))(hx:x∈kyw L):FlW s o x0 L pile:=⟨h.fil.skip (by rw[eP];exact hx),h.rows,h.few,λy a=>h.rch y (a.imp (λz=>by simp[z]) id)⟩
theorem FlW.add(f:∀c∈s,1<=c)(h:FlW s o x0 L (pile++[x]))(hx:x ∉ kyw L)(hv:v.Perm (fJ s.length (o.getD x.1 0) x.2))(b:v.length<64):FlW s o x0 (L++[(x,v)]) (pile++v.map (bC s o x)):=by
 have e:toL s o (L++[(x,v)])=toL s o L++[(x,v.map (bC s o x))]:=by simp[toL]
 have d:=h.rch x (.inl (!1));refine⟨by rw[e];exact h.fil.add f (by rw[eP];exact hx) (hv.map _) (by rw[Je];exact b),λp a=>?_,λp a=>?_,λy g=>?_⟩
 .rcases Jj.mp a with z|z
  .exact h.rows p z
  .rw[Jf.mp z];exact hv
 .rcases Jj.mp a with z|z
  .exact h.few p z
  .rw[Jf.mp z];exact b
 .rcases g with z|z
  .rcases Jj.mp z with z|z
   .exact h.rch y (.inl (by simp[z]))
   .obtain⟨r,i,rfl⟩:=Jk.mp z;exact .step d (Jk.mpr ⟨r,hv.mem_iff.mp i,rfl⟩)
  .simp only[kyw,Jy,Jr,Kv,Jj,Jf] at z;rcases z with z|z
   .exact h.rch y (.inr z)
   .rw[z];exact d
def FlW.len(h:FlW s o x0 L pile):L.length<=(f9 s o).length:=by have:=h.fil.few;simpa[toL] using this
end
inductive Iu (s o:List Int) (m:Nat):List Sl->Prop
 | mk (L:Lw) (pile:List Std) (S:List ao) (c:Sl) (ps:List ah):ps=pile.map stS->FlW s o (0,s) L pile->m=((f9 s o).length - L.length)*64+pile.length->Iu s o m [.fr (.tuple [.list (li s),.list (li o)]),.tr S (bz (lwK s o L)),.ow ps,c]
abbrev dJ:Stmt:=top 23
def dU:ax ["town", "ways", "waiting", "standing"] ["town"] (ad dJ):={}
def zz:DSp:=λss R=>∃(s o:List Int),ss=[.fr (.tuple [.list (li s),.list (li o)])]/\TbL s o/\(f9 s o).length<=100/\∀L:Lw,FlW s o (0,s) L []->R (.fr (bz (lwK s o L))) [.un]
def oZ(F:Fun K "all_ways" "all_ways" dJ f fd)(B:Bn mg)(l:Cal P w K mg base "begun" 1 (spD K je))(b:Cal P w K mg base "choices" 6 (spD K jd))(g:Cal P w K mg base "behind" 1 (spD K iN)):ca P w K mg base CX0 7 f fd ["town"] (spD K zz):=by
 refine okD (k:=6) F dU (λss R h=>?_) (!2) (λcdv A outer s H E y=>⟨_,(ae (aw (i:=1) dU.nd rfl ci im)
   (ae (aw (i:=2) dU.nd rfl ci (b7 (aa (aD l (y.mono (!2)) rfl (aa (qf 0) ac)) ac)))
   (ae (cg PassesOwn.never (gp (K:=K) rfl (qv 2)) (ae (aw (i:=3) dU.nd rfl (di rfl) (sH 2 (K:=K) rfl rfl))
   (aj (gP (aF (gY (K:=K) rfl (hu2 y)) gW (qv 3) (qv 1) (by with_unfolding_all rfl)) (ae (fL 1 (K:=K) rfl (hu2 y) rfl (qf 3) (bF (N':=["row", "town", "standing"]) (ix:=[none,some 0,some 3]) rfl (bP (N:=_::_) (sc0:=ad dJ) rfl rfl (!3)) (aH (K:=K) rfl (aD b (y.mono (!2)) rfl (aa (qf 0) (aa (qf 3) ac)))) (λ_ _ _ _=>(ak (i:=0) (!4) rfl ci)) (λ_ _ _ _=>aM) (λ_ _ _ _=>(cQ (aa (qf 0) (aa (aD g (y.mono (!2)) rfl (aa (qf 1) (aa (qf 2) (aa (qf 0) ac)))) ac))))))
   (aj (b9 (Go 2 (K:=K) rfl rfl (aa (bF (N':=["way"]) (ix:=[none]) rfl (bP (N:=_::_) (sc0:=ad dJ) rfl rfl (!3)) (aH (K:=K) rfl (aN (nV (K:=K) rfl (hu2 y)) nU (qv 1) (qv 3) (λ_ _=>rfl))) (λ_ _ _ _=>(ak (i:=0) (!4) rfl ci)) (λ_ _ _ _=>aM) (λ_ _ _ _=>(aN (ai (K:=K) rfl) mIx (qv 0) al (λ_ _=>rfl)))) ac))))) bS))))
   (eZ 1 (aj (a9 (qv 1))))))),λss R h=>?_⟩)
 .obtain⟨s,o,rfl,_⟩:=h;rfl
 obtain⟨s,o,rfl,⟨t1,t2,J,O,T,_⟩,W,q⟩:=h;have C:∀n:Nat,n<1000000->n<sizeLine:=λn h=>Jp h af;have U:IsS s o (0,s):=⟨t2,rfl,λc hc=>⟨J _ (aY hc),KK _⟩⟩
 have G:∀d,d<o.length->0<=o.getD d 0/\(s.length<=4\/o.getD d 0<=3):=λd hd=>⟨O _ (aY hd),T.imp id λh=>h _ (aY hd)⟩
 walk_at "dx";intro V;walk_at "dx";refine⟨s,o,rfl,?_⟩;walk_at "dx";refine⟨Jt (!2) af,?_⟩;walk_at "dx";refine gJ (Iu s o) ⟨_,.mk [] [(0,s)] V .un _ rfl (FlW.init U) rfl⟩ λE hN=>?_;rintro _ env ⟨L,pile,S,c,_,rfl,m,rfl⟩;have M:=m.len;have t:=m.fil.pl;rw[show(toL s o L).length=L.length from Je ..] at t;walk_at "dx";rcases J3 pile with rfl|⟨P,x,rfl⟩
 .refine cw (λz=>by simp at z) (λ_=>?_);walk_at "dx";exact q L m
 rw[J4] at m t ⊢;refine cw (λ_=>?_) (λz=>absurd (!1) z);have j:IsS s o x:=m.fil.pis x (!1);refine⟨stS x,!1,?_⟩;walk_at "dx";refine⟨kOf x,rfl,rfl,lwK s o L,rfl,cw (λh=>?_) (λh=>?_)⟩
 .rw[fM] at h;have hx:x ∉ kyw L:=by simpa using h
  refine⟨s,o,x.2,x.1,rfl,t1,(G _ j.1).1,(G _ j.1).2,⟨j.1,j.2.1⟩,λa D=>?_⟩;have I:a.length<64:=by rw[D.length_eq];exact hJ t1 (G _ j.1).2
  walk_at "dx";have hP:P.length<900000:=by simp at t;omega
  refine bT (λi=>wyS s o x (a.getD i [])) (by rw[Je];omega) (λi hi Q hQ=>?_) ?_
  .rw[Je] at hi;rw[fN];walk_at "dx";refine⟨s,o,x.2,_,x.1,rfl,t2,j.2.1,!0,?_⟩;walk_at "dx";exact⟨Jt (!2) af,hQ⟩
  rw[Je,aT a [] (λr=>wyS s o x r)];walk_at "dx";have u:=m.add J hx D I;have v:=u.len;refine⟨⟨_,rfl⟩,lwK s o L,rfl,kOf x,rfl,rfl,C _ (by rw[eD];omega),?_⟩;rw[jz hx];walk_at "dx";have hg:=iy (s:=s) (o:=o) u.nd (p:=(x,a)) (!1);refine⟨lwK s o (L++[(x,a)]),rfl,kOf x,rfl,rfl,_,hg,_,rfl,?_⟩;refine bT (λi=>stS (bC s o x (a.getD i []))) (by rw[Je];show a.length<=_;omega) (λi hi Q hQ=>?_) ?_
  .rw[Je] at hi;have e:(eT (wyS s o (x,a).1) (x,a).2)[i]'(by rw[Je];exact hi)=wyS s o x (a.getD i []):=by
    rw[JG,Jh,Ji hi];rfl
   rw[e];unfold wyS;walk_at "dx";exact hQ
  rw[Je,show(x,a).2=a from rfl,aT a [] (λr=>stS (bC s o x r)),show a.map (λr=>stS (bC s o x r))=(a.map (bC s o x)).map stS by rw[JI];rfl];walk_at "dx";refine⟨?_,(hN _).nx _ ⟨((f9 s o).length - (L.length+1))*64+(P.length+a.length),?_,.mk (L++[(x,a)]) (P++a.map (bC s o x)) _ _ _ (!1) u (!1)⟩⟩
  .simp;exact KM (C _ (!0))
  .simp at v ⊢;omega
 .rw[fM] at h;have hx:x∈kyw L:=by simpa using h
  exact(hN _).nx _ ⟨_,!1,.mk L P _ _ _ (!1) (m.skip hx) rfl⟩
def yv(s o:List Int)(lost:List ay)(p:Std×List (List Int)):List (List Int):=p.2.filter λr=>decide (kOf (bC s o p.1 r) ∉ lost)
def fV(s o:List Int)(lost:List ay)(L:Lw):Lw:=(L.filter λp=>decide (kOf p.1 ∉ lost)).map λp=>(p.1,yv s o lost p)
inductive C9 (s o:List Int) (L:Lw) (x0:Std):Std->Prop
 | refl:C9 s o L x0 x0
 | step {p:Std×List (List Int)}{r:List Int}:p∈L->C9 s o L x0 p.1->r∈p.2->C9 s o L x0 (bC s o p.1 r)
structure jT(s o:List Int)(L:Lw):Prop where
 nd : (kyw L).Nodup
 len:L.length<=(f9 s o).length
 few:∀p∈L,p.2.length<64
 ne : ∀p∈L,p.2≠[]
 is : ∀p∈L,IsS s o p.1
 row:∀p∈L,∀r∈p.2,r∈fJ s.length (o.getD p.1.1 0) p.1.2/\bC s o p.1 r∈kyw L
 full:∀p∈L,∀r∈fJ s.length (o.getD p.1.1 0) p.1.2,eI s o (bC s o p.1 r)->r∈p.2
 beg:eI s o (0,s)->(0,s)∈kyw L
 rch:∀x∈kyw L,C9 s o L (0,s) x
section
def gC(x:Std):x∈kyw (fV s o lost L)↔x∈kyw L/\kOf x ∉ lost:=by
 unfold fV kyw;rw[JI];constructor
 .intro h;obtain⟨p,a,rfl⟩:=Jk.mp h;obtain⟨h1,h2⟩:=JB.mp a;exact⟨Jk.mpr ⟨p,h1,rfl⟩,of_decide_eq_true h2⟩
 .rintro⟨h1,h2⟩;obtain⟨p,a,rfl⟩:=Jk.mp h1;exact Jk.mpr ⟨p,JB.mpr ⟨a,decide_eq_true h2⟩,rfl⟩
def iQ(s o:List Int)(L:Lw):(lwW s o L).map (λp=>p.1)=(kyw L).map kOf:=by simp[lwW,kyw]
def gX{l:List Std}:kOf x∈l.map kOf↔x∈l:=by
 constructor
 .intro h;obtain⟨y,a,e⟩:=Jk.mp h;rw[<-fW e];exact a
 .exactλh=>Jk.mpr ⟨x,h,rfl⟩
def gv{l:List Std}(h:l.Nodup):(l.map kOf).Nodup:=List.pairwise_map.mpr (h.imp λne e=>ne (fW e))
def og(nd:(kyw L).Nodup)(a:p∈L):cx (lwW s o L) (kOf p.1)=p.2.map λr=>kOf (bC s o p.1 r):=by unfold cx;rw[show aI (lwW s o L) (kOf p.1)=some (p.2.map λr=>(dy (li r),kOf (bC s o p.1 r))) from gZ (by rw[iQ];exact gv nd) (Jk.mpr ⟨p,a,rfl⟩)];show((p.2.map _).map _)=_;rw[JI];rfl
def FlW.closed(h:FlW s o (0,s) L [])(a:p∈L)(b:r∈p.2):bC s o p.1 r∈kyw L:=by
 have:=h.fil.cl (p.1,p.2.map (bC s o p.1)) (Jk.mpr ⟨p,a,rfl⟩) _ (Jk.mpr ⟨r,b,rfl⟩);rcases this with z|z
 .cases z
 .rwa [eP] at z
def FlW.start(h:FlW s o (0,s) L []):(0,s)∈kyw L:=by
 rcases h.fil.st with z|z
 .cases z
 .rwa [eP] at z
def FlW.wdi(h:FlW s o (0,s) L [])(b:L.length<=100):WdI (lwW s o L):=by
 refine⟨by rw[iQ];exact gv h.nd,by rw[lwW,Je];exact b,λq hq=>?_,λq hq w hw=>?_⟩
 .obtain⟨p,a,rfl⟩:=Jk.mp hq;have:=h.few p a;show(p.2.map _).length<=100;rw[Je];omega
 .obtain⟨p,a,rfl⟩:=Jk.mp hq;obtain⟨r,c,rfl⟩:=Jk.mp hw;rw[iQ];exact gX.mpr (h.closed a c)
def FlW.kept(h:FlW s o (0,s) L [])(lo:Fo (lwW s o L) lost):jT s o (fV s o lost L):=by
 have mem:∀q∈fV s o lost L,∃p∈L,kOf p.1 ∉ lost/\q=(p.1,yv s o lost p):=λq hq=>by
  obtain⟨p,a,rfl⟩:=Jk.mp hq;obtain⟨h1,h2⟩:=JB.mp a;exact⟨p,h1,of_decide_eq_true h2,rfl⟩
 have can:∀y∈kyw L,eI s o y->kOf y ∉ lost:=λy d hc g=>by
  refine lo.off (λk=>∃y,k=kOf y/\y∈kyw L/\eI s o y) (λk hk=>?_) (kOf y) g ⟨y,rfl,d,hc⟩;obtain⟨y,rfl,d,hc⟩:=hk;obtain⟨p,a,rfl⟩:=Jk.mp d;obtain⟨z,hz,m⟩:=hc.step;obtain⟨r,c,rfl⟩:=Jk.mp hz;have b:=(h.rows p a).mem_iff.mpr c;refine⟨kOf (bC s o p.1 r),?_,_,rfl,h.closed a b,m⟩;rw[og h.nd a];exact Jk.mpr ⟨r,b,rfl⟩
 have sh:∀p∈L,∀r∈p.2,kOf (bC s o p.1 r) ∉ lost->kOf p.1 ∉ lost:=λp a r c hn g=>hn (lo.shut _ g _ (by
  rw[og h.nd a];exact Jk.mpr ⟨r,c,rfl⟩))
 refine⟨?_,?_,λq hq=>?_,λq hq=>?_,λq hq=>?_,λq hq r c=>?_,λq hq r c hc=>?_,λhc=>?_,λx hx=>?_⟩
 .have e:kyw (fV s o lost L)=kyw (L.filter λp=>decide (kOf p.1 ∉ lost)):=by simp[kyw,fV]
  rw[e];exact h.nd.sublist (rB.map _)
 .unfold fV;rw[Je];exact Jt (JQ _ _) h.len
 .obtain⟨p,a,_,rfl⟩:=mem q hq;exact Kj (JQ _ _) (h.few p a)
 .obtain⟨p,a,hn,rfl⟩:=mem q hq;obtain⟨y,d,n⟩:=lo.fin (kOf p.1) (by rw[iQ];exact gX.mpr (Jk.mpr ⟨p,a,rfl⟩)) hn;rw[og h.nd a] at d;obtain⟨r,c,rfl⟩:=Jk.mp d;exact List.ne_nil_of_mem (JB.mpr ⟨c,decide_eq_true n⟩)
 .obtain⟨p,a,_,rfl⟩:=mem q hq;exact h.fil.is (p.1,p.2.map (bC s o p.1)) (Jk.mpr ⟨p,a,rfl⟩)
 .obtain⟨p,a,_,rfl⟩:=mem q hq;obtain⟨h1,h2⟩:=JB.mp c;exact⟨(h.rows p a).mem_iff.mp h1,(gC _).mpr ⟨h.closed (p:=p) a h1,of_decide_eq_true h2⟩⟩
 .obtain⟨p,a,_,rfl⟩:=mem q hq;have h1:=(h.rows p a).mem_iff.mpr c;exact JB.mpr ⟨h1,decide_eq_true (can _ (h.closed a h1) hc)⟩
 .exact(gC _).mpr ⟨h.start,can _ h.start hc⟩
 .obtain⟨i,j⟩:=(gC _).mp hx;have key:∀x,Fm s o (0,s) x->x∈kyw L/\(kOf x ∉ lost->C9 s o (fV s o lost L) (0,s) x):=λx hx=>by
   induction hx with
   | refl=>exact⟨h.start,λ_=>.refl⟩
   | step _ hz l =>
    obtain⟨p,a,e⟩:=Jk.mp l.1;subst e;obtain⟨r,c,rfl⟩:=Jk.mp hz;have b:=(h.rows p a).mem_iff.mpr c;refine⟨h.closed a b,λhn=>?_⟩;have f:=sh p a r b hn;exact .step (p:=(p.1,yv s o lost p)) (Jk.mpr ⟨p,JB.mpr ⟨a,decide_eq_true f⟩,rfl⟩) (l.2 f) (JB.mpr ⟨b,decide_eq_true hn⟩)
  exact(key x (h.rch x (.inr i))).2 j
def sX(L:Lw)(hi:i<L.length):fV s o lost (L.take (i+1))=if kOf L[i].1 ∉ lost then fV s o lost (L.take i)++[(L[i].1,yv s o lost L[i])] else fV s o lost (L.take i):=by unfold fV;rw[J6,Ji hi,Kb,Jy];by_cases h:kOf L[i].1 ∉ lost <;> simp[h]
def vy(nd:(kyw L).Nodup)(hi:i<L.length):L[i].1 ∉ kyw (fV s o lost (L.take i)):=by
 intro h;obtain⟨h1,_⟩:=(gC _).mp h;obtain⟨q,hq,e⟩:=Jk.mp h1;obtain⟨j,hj,e2⟩:=J8 hq;rw[ol] at e2;rw[JZ] at hj;have h1:(kyw L)[j]'(by simp;omega)=(kyw L)[i]'(by simp;omega):=by simp[e2,e]
 have:=(K1 nd).mp h1;omega
end
inductive Ip (s o:List Int) (L:Lw) (lost:List ay) (i:Nat):List Sl->Prop
 | mk (S:List ao) (e:Sl) (D:List (ay×ah)):D=lwK s o (fV s o lost (L.take i))->Ip s o L lost i [.fr (.tuple [.list (li s),.list (li o)]),.fr (bz (lwK s o L)),.fr (bz (loK lost)),.tr S (bz D),e]
abbrev d6:Stmt:=top 26
def cF:ax ["town", "ways", "lost", "kept", "standing"] ["town"] (ad d6):={}
def ue:DSp:=λss R=>∃(s o:List Int),ss=[.fr (.tuple [.list (li s),.list (li o)])]/\TbL s o/\(f9 s o).length<=100/\∀L:Lw,jT s o L->R (.fr (bz (lwK s o L))) [.un]
def mC(F:Fun K "kept_ways" "kept_ways" d6 f fd)(B:Bn mg)(b:Cal P w K mg base "all_ways" 7 (spD K zz))(a:Cal P w K mg base "lost_among" 2 (spD K zu)):ca P w K mg base CX0 8 f fd ["town"] (spD K ue):=by
 refine okD (k:=7) F cF (λss R h=>?_) (!2) (λcdv A outer s H E c=>⟨_,(ae (aw (i:=1) cF.nd rfl ci (aD b (c.mono (!2)) rfl (aa (qf 0) ac)))
   (ae (aw (i:=2) cF.nd rfl (di rfl) (aD a (c.mono (!2)) rfl (aa (qf 1) ac)))
   (ae (aw (i:=3) cF.nd rfl ci im)
   (ae (dD PassesOwn.never rfl (qL (K:=K) rfl (qf 1)) (ak (i:=4) cF.nd rfl ci) (aj (gP (aF (gY (K:=K) rfl (hu2 c)) gW (qv 4) (qv 2) (by with_unfolding_all rfl)) (aj (fL 3 (K:=K) rfl (hu2 c) rfl (qf 4) (bF (N':=["way", "lost"]) (ix:=[none,some 2]) rfl (bP (N:=_::_) (sc0:=ad d6) rfl rfl (!3)) (aH (K:=K) rfl (aN (nV (K:=K) rfl (hu2 c)) nU (qv 1) (qv 4) (λ_ _=>rfl))) (λ_ _ _ _=>(ak (i:=0) (!4) rfl ci)) (λ_ _ _ _=>(dB (aF (gY (K:=K) rfl (hu2 c)) gW (aN (ai (K:=K) rfl) mIx (qv 0) al (λ_ _=>rfl)) (qv 1) (by with_unfolding_all rfl)))) (λ_ _ _ _=>(qf 0))))) bS)))
   (eZ 3 (aj (a9 (qv 3)))))))),λss R h=>?_⟩)
 .obtain⟨s,o,rfl,_⟩:=h;rfl
 obtain⟨s,o,rfl,tb,x,q⟩:=h;have m:∀n:Nat,n<1000000->n<sizeLine:=λn h=>Jp h af;walk_at "dx";refine⟨s,o,rfl,tb,x,λL d=>?_⟩;have y:=d.len;walk_at "dx";refine⟨lwW s o L,by rw[Es],d.wdi (!0),λlost lo=>?_⟩;walk_at "dx";intro S1;walk_at "dx";refine⟨lwK s o L,rfl,?_⟩;have C:(lwK s o L).map (λp=>bi p.1)=(kyw L).map stS:=by simp[lwK,kOf]
 rw[C];refine iG (Ip s o L lost) (.mk S1 _ _ rfl) (λE hN=>?_) ?_
 .rintro i env hi ⟨S,e,_,rfl⟩;rw[Je,Je] at hi;have v:L[i]∈L:=JF hi;rw[JG,JG];have g:=sX (s:=s) (o:=o) (lost:=lost) L hi;have t:=vy (s:=s) (o:=o) (lost:=lost) d.nd hi;have u:=iy (s:=s) (o:=o) d.nd v;have D:=d.few _ v;generalize L[i]=p at *;walk_at "dx";refine⟨kOf p.1,rfl,rfl,loK lost,rfl,?_⟩;rw[pi];by_cases hn:kOf p.1∈lost
  .rw[MA (by simp[hn])];exact(hN _).nx _ (.mk _ _ _ (by rw[g,MA (λz=>z hn)]))
  .rw[Mz (by simp[hn])];refine⟨_,rfl,kOf p.1,rfl,rfl,_,u,_,rfl,?_⟩;refine bY (λj=>decide (kOf (bC s o p.1 (p.2.getD j [])) ∉ lost)) (λj=>wyS s o p.1 (p.2.getD j [])) (by rw[Je];omega) (λj hj Q G h1 h2=>?_) ?_
   .rw[Je] at hj;have e:(p.2.map (wyS s o p.1))[j]'(by rw[Je];exact hj)=wyS s o p.1 (p.2.getD j []):=by
     rw[JG,Jh,Ji hj];rfl
    rw[e];generalize p.2.getD j []=r at *;unfold wyS at h1 ⊢;walk_at "dx";refine⟨kOf (bC s o p.1 r),rfl,rfl,loK lost,rfl,?_⟩;rw[pi];by_cases l:kOf (bC s o p.1 r)∈lost
    .rw[MA (by simp[l])];exact h2 (by simp[l])
    .rw[Mz (by simp[l])];exact h1 (by simp[l])
   rw[Je,bK p.2 [] (λr=>decide (kOf (bC s o p.1 r) ∉ lost)) (λr=>wyS s o p.1 r)];walk_at "dx";refine⟨⟨_,rfl⟩,_,rfl,kOf p.1,rfl,rfl,m _ ?_,(hN _).nx _ (.mk _ _ _ ?_)⟩
   .rw[eD];have h1:=JQ (λp=>decide (kOf p.1 ∉ lost)) (L.take i);rw[JZ] at h1;unfold fV;rw[Je];omega
   .rw[g,Mz hn];exact jz t
 .rintro env ⟨S,e,_,rfl⟩;rw[Je,Je,Ke];walk_at "dx";exact q _ (d.kept lo)
def oF(L:Lw)(x:Std):List (List Int):=((L.find? λp=>decide (p.1=x)).map (·.2)).getD []
def kD(nd:(kyw L).Nodup)(a:p∈L):oF L p.1=p.2:=by
 unfold oF
 induction L with
 | nil=>cases a
 | cons q L b =>
  obtain⟨c,d⟩:=JO.mp nd;rw[JY];rcases Jo.mp a with e|e
  .subst e;simp
  .have:¬q.1=p.1:=λz=>c (Jk.mpr ⟨p,e,z.symm⟩);simp only[this,decide_false];exact b d e
def nmS(xs:List Std)(y:Std):Nat:=(xs.map kOf).idxOf (kOf y)
def qW(h:y∈xs):nmS xs y<xs.length:=by have:=List.idxOf_lt_length_of_mem (gX.mpr h);rwa [Je] at this
def Ep(h:y∈xs):xs[nmS xs y]'(qW h)=y:=by have h1:(xs.map kOf)[nmS xs y]'(by rw[Je];exact qW h)=kOf y:=List.getElem_idxOf _;rw[JG] at h1;exact fW h1
def sA(s o cs:List Int)(xs:List Std)(x:Std)(r:List Int):Stp:=(rc cs r,nmS xs (bC s o x r),r)
def nP(s o cs:List Int)(L:Lw)(xs:List Std):List (List Stp):=xs.map λx=>(oF L x).map (sA s o cs xs x)
abbrev fA:Stmt:=top 27
def dS:ax ["ways", "standings", "costs", "numbers", "number", "standing"] ["ways", "standings", "costs"] (ad fA):={}
def t9:DSp:=λss R=>∃(s o cs:List Int) (L:Lw) (xs:List Std),ss=[.fr (bz (lwK s o L)),.fr (.list (xs.map stS)),.fr (.list (li cs))]/\jT s o L/\xs.Perm (kyw L)/\L.length<=100/\s.length<=6/\cs.length=s.length/\R (.ow ((nP s o cs L xs).map stL)) [.un,.un,.un]
def oU(F:Fun K "steps_of" "steps_of" fA f fd)(B:Bn mg)(c:Cal P w K mg base "row_cost" 1 (spD K jb)):ca P w K mg base CX0 2 f fd ["ways", "standings", "costs"] (spD K t9):=by
 refine okD (k:=1) F dS (λss R h=>?_) (!2) (λcdv A outer s H E u=>⟨_,(ae (aw (i:=3) dS.nd rfl (di rfl) im)
   (ae (dD PassesOwn.never rfl (fT false (K:=K) rfl rfl B.enumerate (aa (qf 1) ac)) (dM (K:=K) (n:=2) rfl rfl (aK (ak (i:=4) dS.nd rfl ci) (aK (ak (i:=5) dS.nd rfl ci) cB))) (aj (fL 3 (K:=K) rfl (hu2 u) rfl (qf 5) (qf 4))))
   (eZ 3 (aj (a9 (bF (N':=["one", "ways", "costs", "numbers"]) (ix:=[none,some 0,some 2,some 3]) rfl (bP (N:=_::_) (sc0:=ad fA) rfl rfl (!3)) (aH (K:=K) rfl (qf 1)) (λ_ _ _ _=>(ak (i:=0) (!4) rfl ci)) (λ_ _ _ _=>aM) (λ_ _ _ _=>(bF (N':=["way", "costs", "numbers"]) (ix:=[none,some 2,some 3]) rfl (Fj (!3)) (aH (K:=K) rfl (aN (nV (K:=K) rfl (hu2 u)) nU (qv 1) (qv 0) (λ_ _=>rfl))) (λ_ _ _ _=>(ak (i:=0) (!4) rfl ci)) (λ_ _ _ _=>aM) (λ_ _ _ _=>(cQ (aa (aD c (u.mono (!2)) rfl (aa (aN (ai (K:=K) rfl) mIx (qv 0) al (λ_ _=>rfl)) (aa (qf 1) ac))) (aa (aN (nV (K:=K) rfl (hu2 u)) nU (qv 2) (aN (ai (K:=K) rfl) mIx (qv 0) al (λ_ _=>rfl)) (λ_ _=>rfl)) (aa (aN (ai (K:=K) rfl) mIx (qv 0) al (λ_ _=>rfl)) ac))))))))))))),λss R h=>?_⟩)
 .obtain⟨s,o,cs,L,xs,rfl,_⟩:=h;rfl
 obtain⟨s,o,cs,L,xs,rfl,g,pm,T,t1,y,q⟩:=h;have C:∀n:Nat,n<1000000->n<sizeLine:=λn h=>Jp h af;have U:xs.length<=100:=by rw[pm.length_eq,Je];exact T
 have D:xs.Nodup:=pm.nodup_iff.mpr g.nd;have l:(xs.map kOf).Nodup:=gv D;walk_at "dx";intro S;walk_at "dx";refine cR (λi env=>∃(S:List ao) (a b:Sl),env=[.fr (bz (lwK s o L)),.fr (.list (xs.map stS)),.fr (.list (li cs)),.tr S (bz (opK ((xs.map kOf).take i) λk=>(((xs.map kOf).idxOf k:Nat):Int))),a,b]) ⟨S,_,_,rfl⟩ ?h1 ?h2
 case h1 =>
  rintro i env hi ⟨S,a,b,rfl⟩;rw[aP,Je] at hi;rw[cH,JG];have d:i<(xs.map kOf).length:=by rw[Je];exact hi
  have G:kOf xs[i] ∉ (xs.map kOf).take i:=λz=>by
   obtain⟨j,hj,e⟩:=J8 z;rw[ol] at e;rw[JZ] at hj;have:=(K1 (i:=j) (j:=i) (h₀:=by omega) (h₁:=d) l).mp (by rw[e,JG]);omega
  have I:(xs.map kOf).take (i+1)=(xs.map kOf).take i++[kOf xs[i]]:=by rw[J6,Ji d,JG];rfl
  have J:(xs.map kOf).idxOf (kOf xs[i])=i:=by have:=l.idxOf_getElem i d;rwa [JG] at this
  rw[I];generalize xs[i]=x at *;walk_at "dx";refine⟨⟨_,rfl⟩,_,rfl,kOf x,rfl,rfl,C _ ?_,?_⟩
  .rw[opK,Je,JZ,Je];omega
  .have:=vf (o:=λk=>(((xs.map kOf).idxOf k:Nat):Int)) G;rw[J] at this;exact congrArg bz this
 case h2 =>
  rintro env ⟨S,a,b,rfl⟩;rw[aP,Je,show xs.length=(xs.map kOf).length from(Je ..).symm,Ke];walk_at "dx";have m:∀x,x∈xs↔x∈kyw L:=λx=>pm.mem_iff;refine bT (λi=>stL ((oF L (xs.getD i (0,[]))).map (sA s o cs xs (xs.getD i (0,[]))))) (by rw[Je];omega) (λi hi Q hQ=>?h3) ?h4
  case h3 =>
   rw[Je] at hi;rw[JG];have V:xs.getD i (0,[])=xs[i]:=by rw[Jh,Ji hi];rfl
   rw[V] at hQ;have hx:=(m xs[i]).mp (JF hi);generalize xs[i]=x at *;obtain⟨p,v,rfl⟩:=Jk.mp hx;rw[kD g.nd v] at hQ;have M:=iy (s:=s) (o:=o) g.nd v;have W:=g.few p v;have t:=g.row p v;walk_at "dx";refine⟨_,rfl,kOf p.1,rfl,rfl,_,M,_,rfl,?_⟩;refine bT (λj=>ii (sA s o cs xs p.1 (p.2.getD j []))) (by rw[Je];omega) (λj hj Q hQ=>?h5) ?h6
   case h5 =>
    rw[Je] at hj;have e:(p.2.map (wyS s o p.1))[j]'(by rw[Je];exact hj)=wyS s o p.1 (p.2.getD j []):=by rw[JG,Jh,Ji hj];rfl
    rw[e];obtain⟨X,Y⟩:=t (p.2.getD j []) (dO hj);have Z:=bR s.length _ (JB.mp X).1;generalize p.2.getD j []=r at *;have hy:(xs.map kOf).idxOf (kOf (bC s o p.1 r))=nmS xs (bC s o p.1 r):=rfl;have O:kOf (bC s o p.1 r)∈xs.map kOf:=gX.mpr ((m _).mpr Y);unfold wyS;walk_at "dx";refine⟨r,cs,rfl,!0,by rw[y];exact Z.2.2,?_⟩;walk_at "dx";refine⟨_,rfl,kOf (bC s o p.1 r),rfl,rfl,_,by rw[jv,Mz O],?_⟩;exact⟨Jt (!2) af,hQ⟩
   case h6 =>
    rw[Je,aT p.2 [] (λr=>ii (sA s o cs xs p.1 r)),show p.2.map (λr=>ii (sA s o cs xs p.1 r))=(p.2.map (sA s o cs xs p.1)).map ii by rw[JI];rfl];walk_at "dx";exact hQ
  case h4 =>
   rw[Je,aT xs (0,[]) (λx=>stL ((oF L x).map (sA s o cs xs x)))];walk_at "dx";rw[nP,JI] at q;exact q
def Gth.app(h:Gth steps i l j)(h':Gth steps j m k):Gth steps i (l++m) k:=by
 induction h with
 | nil i=>exact h'
 | cons e _ a=>exact .cons e (a h')
def Ht(s o cs:List Int)(p q:Nat):Prop:=∃(L:Lw) (f:Std->Int),jT s o L/\∀a∈L,∀r∈a.2,f a.1<=q*rc cs r - p+f (bC s o a.1 r)
theorem uC(h:∀c∈cs,0<=c/\c<=10):∀r:List Int,0<=rc cs r/\rc cs r<=10*r.length
 | []=>by simp[rc]
 | x :: r=>by
  have a:=uC h r;have:0<=cs.getD x.toNat 0/\cs.getD x.toNat 0<=10:=by
   by_cases z:x.toNat<cs.length
   .exact h _ (aY z)
   .rw[Jh,J0 (!0)];simp
  have e:rc cs (x::r)=cs.getD x.toNat 0+rc cs r:=by simp[rc]
  rw[e,JX];omega
theorem fb(h:∀c∈cs,0<=c/\c<=10):∀B:List (List Int),0<=pc cs B
 | []=>by simp[pc]
 | r::B=>by
  have a:=fb h B;have:=(uC h r).1;have e:pc cs (r::B)=rc cs r+pc cs B:=by simp[pc]
  omega
section
def tV(b:jT s o L)(pm:xs.Perm (kyw L))(a:p∈L):(nP s o cs L xs).getD (nmS xs p.1) []=p.2.map (sA s o cs xs p.1):=by have hx:p.1∈xs:=pm.mem_iff.mpr (Jk.mpr ⟨p,a,rfl⟩);unfold nP;rw[Jh,JE,Ji (qW hx),Ep hx];show(oF L p.1).map _=_;rw[kD b.nd a]
def tU(b:jT s o L)(pm:xs.Perm (kyw L))(hi:i<xs.length):∃p∈L,(nP s o cs L xs).getD i []=p.2.map (sA s o cs xs p.1):=by obtain⟨p,a,e⟩:=Jk.mp (pm.mem_iff.mp (JF hi));refine⟨p,a,?_⟩;unfold nP;rw[Jh,JE,Ji hi,<-e];show(oF L p.1).map _=_;rw[kD b.nd a]
def gg:(nP s o cs L xs).length=xs.length:=Je ..
def qc(a:jT s o L)(pm:xs.Perm (kyw L))(h:t∈(nP s o cs L xs).getD i []):∃p∈L,∃r∈p.2,t=sA s o cs xs p.1 r:=by have hi:=mK h;rw[gg] at hi;obtain⟨p,b,e⟩:=tU (cs:=cs) a pm hi;rw[e] at h;obtain⟨r,c,rfl⟩:=Jk.mp h;exact⟨p,b,r,c,rfl⟩
def xk(b:jT s o L)(pm:xs.Perm (kyw L))(g:L.length<=100)(h6:s.length<=6)(hc:∀c∈cs,0<=c/\c<=10):StI (nP s o cs L xs) 60/\∀i t,t∈(nP s o cs L xs).getD i []->t.2.2.length<=6/\(∀x∈t.2.2,0<=x/\x<s.length)/\t.1=rc cs t.2.2:=by
 have hx:xs.length=L.length:=by rw[pm.length_eq,Je]
 have row:∀p∈L,∀r∈p.2,r.length<=6/\∀x∈r,0<=x/\x<s.length:=λp a r d=>by
  have:=bR s.length r (JB.mp (b.row p a r d).1).1;exact⟨!0,this.2.2⟩
 refine⟨⟨by rw[gg];omega,λi hi=>?_,λi t f=>?_⟩,λi t f=>?_⟩
 .rw[gg] at hi;obtain⟨p,a,e⟩:=tU (cs:=cs) b pm hi;rw[e];exact⟨λz=>b.ne p a (LM.mp z),by rw[Je];have:=b.few p a;omega⟩
 .obtain⟨p,a,r,d,rfl⟩:=qc b pm f;have h1:=uC hc r;have h2:=(row p a r d).1;rw[gg];refine⟨qW (pm.mem_iff.mpr (b.row p a r d).2),h1.1,?_⟩;show rc cs r<=((60:Nat):Int)
  omega
 .obtain⟨p,a,r,d,rfl⟩:=qc b pm f;exact⟨(row p a r d).1,(row p a r d).2,rfl⟩
def xl(a:jT s o L)(pm:xs.Perm (kyw L))(h:C9 s o L (0,s) x):∃m,Gth (λi=>(nP s o cs L xs).getD i []) (nmS xs (0,s)) m (nmS xs x):=by
 induction h with
 | refl=>exact⟨[],.nil _⟩
 | @step p r b _ c d =>
  obtain⟨m,g⟩:=d;refine⟨m++[sA s o cs xs p.1 r],g.app (.cons (s:=sA s o cs xs p.1 r) ?_ (.nil _))⟩;show _∈(nP s o cs L xs).getD (nmS xs p.1) [];rw[tV a pm b];exact Jk.mpr ⟨r,c,rfl⟩
def Et(a:jT s o L)(pm:xs.Perm (kyw L)){p q:Nat}{P:List Int}(h:∀i t,t∈(nP s o cs L xs).getD i []->P.getD i 0<=q*t.1 - p+P.getD t.2.1 0):Ht s o cs p q :=
 ⟨L,λx=>P.getD (nmS xs x) 0,a,λb c r d=>h (nmS xs b.1) (sA s o cs xs b.1 r) (by
  rw[tV a pm c];exact Jk.mpr ⟨r,d,rfl⟩)⟩
end
def Bz(h:∀t∈l,t.1=rc cs t.2.2):pc cs (l.map (·.2.2))=fv l:=by
 induction l with
 | nil=>rfl
 | cons t l a =>
  have e:pc cs ((t::l).map (·.2.2))=rc cs t.2.2+pc cs (l.map (·.2.2)):=by simp[pc]
  rw[e,a λt b=>h t (by simp[b]),ja,h t (!1)]
abbrev eU:Stmt:=top 37
def bH:ax ["town", "costs", "plan", "ways", "standings", "steps", "found"] ["town", "costs"] (ad eU):={}
def qr:DSp:=λss R=>∃(s o cs:List Int),ss=[.fr (.tuple [.list (li s),.list (li o)]),.fr (.list (li cs))]/\TbL s o/\(f9 s o).length<=60/\cs.length=s.length/\(∀c∈cs,0<=c/\c<=10)/\R (.fr .none) [.un,.un] /\
 (eI s o (0,s)->∀(p q:Nat) (d1 d2:ah),1<=q->q<=1000->Ht s o cs p q->R (.fr (.tuple [.tuple [.int p,.int q],d1,d2])) [.un,.un])
def kM(F:Fun K "least_cost" "least_cost" eU f fd)(B:Bn mg)(y:Cal P w K mg base "plan_of" 10 (spD K qq))(c:Cal P w K mg base "kept_ways" 8 (spD K ue))(n:Cal P w K mg base "steps_of" 2 (spD K t9))(b:Cal P w K mg base "cost_of" 3 (spD K kz))(u:Cal P w K mg base "cheapest" 4 (spD K ui))(D:Cal P w K mg base "begun" 1 (spD K je))(d:Cal P w K mg base "loop_plan" 2 (spD K ud)):ca P w K mg base CX0 11 f fd ["town", "costs"] (spD K qr):=by
 refine okD (k:=10) F bH (λss R h=>?_) (!2) (λcdv A outer s H E C=>⟨_,(ae (aw (i:=2) bH.nd rfl ci (aD y (C.mono (!2)) rfl (aa (qf 0) ac)))
   (ae (gP (aF vd GC (qv 2) gq (aU _)) (aj (a9 gq)) bS)
   (ae (aw (i:=3) bH.nd rfl ci (aD c (C.mono (!2)) rfl (aa (qf 0) ac)))
   (ae (aw (i:=4) bH.nd rfl ci (DP (K:=K) rfl rfl (jo C) rfl B.sorted (aa (qv 3) ac)))
   (ae (aw (i:=5) bH.nd rfl ci (aD n (C.mono (!2)) rfl (aa (qf 3) (aa (qf 4) (aa (qf 1) ac)))))
   (ae (aw (i:=6) bH.nd rfl ci (aD u (C.mono (!2)) rfl (aa (qf 5) (aa (aD b (C.mono (!2)) rfl (aa (qf 2) (aa (qf 1) ac))) ac))))
   (uI (gP (aF kK ya (aN (ai (K:=K) rfl) mIx (qv 6) al (λ_ _=>rfl)) gq (aU _)) (aj (aw (i:=2) bH.nd rfl ci (aD d (C.mono (!2)) rfl (aa (qf 5) (aa (qN (K:=K) rfl (jo C) (qv 4) (aD D (C.mono (!2)) rfl (aa (qf 0) ac))) (aa (aN (ai (K:=K) rfl) mIx (qv 6) al (λ_ _=>rfl)) ac)))))) bS)
   (aj (a9 (cQ (aa (aD b (C.mono (!2)) rfl (aa (qf 2) (aa (qf 1) ac))) (aa (qf 2) (aa (A5 (K:=K) rfl rfl rfl B.list rfl B.zip (aa (qv 4) (aa (aN (ai (K:=K) rfl) mIx (qv 6) al (λ_ _=>rfl)) ac))) ac))))))))))))),λss R h=>?_⟩)
 .obtain⟨s,o,cs,rfl,_⟩:=h;rfl
 obtain⟨s,o,cs,rfl,tb,t6,N,hc,qn,q⟩:=h;obtain⟨t1,t2,t3,t4,t5,_⟩:=id tb;walk_at "dx";refine⟨s,o,rfl,tb,?_,λhg A B hB S Y=>?_⟩
 .walk_at "dx";exact qn
 walk_at "dx";refine⟨s,o,rfl,tb,!0,λL G=>?_⟩;have a5:=G.len;walk_at "dx";refine⟨lwK s o L,rfl,by rw[eD];omega,λks pk=>?_⟩;obtain⟨xs,pm,rfl⟩:∃xs:List Std,xs.Perm (kyw L)/\ks=xs.map kOf:=cY pk (kyw L) (by simp[lwK,kyw]);rw[show(xs.map kOf).map (λk=>bi k)=xs.map stS by rw[JI];rfl];walk_at "dx";refine⟨s,o,cs,L,xs,rfl,G,pm,!0,t1,N,?_⟩;obtain⟨T,I⟩:=xk (cs:=cs) G pm (!0) t1 hc;have low:=λ{p q:Nat}{P:List Int}=>Et (cs:=cs) G pm (p:=p) (q:=q) (P:=P);have rch:=λ{x:Std}=>xl (cs:=cs) G pm (x:=x);have J:(nP s o cs L xs).length=xs.length:=gg;have Z:(0,s)∈xs:=pm.mem_iff.mpr (G.beg hg);have a6:xs.length=L.length:=by rw[pm.length_eq,Je]
 have U:(xs.map kOf).Nodup:=gv (pm.nodup_iff.mpr G.nd);have a0:∀i,i<xs.length->∃m,Gth (λi=>(nP s o cs L xs).getD i []) (nmS xs (0,s)) m i:=λi hi=>by
  obtain⟨m,g⟩:=rch (G.rch xs[i] (pm.mem_iff.mp (JF hi)));have e:nmS xs xs[i]=i:=by have:=U.idxOf_getElem i (by rw[Je];exact hi);rwa [JG] at this
  rw[e] at g;exact⟨m,g⟩
 generalize nP s o cs L xs=sts at *;have row:∀r∈B,r.length<=1000/\∀x∈r,0<=x/\x<cs.length:=λr C=>by
  obtain⟨h,l,hf⟩:=Y r C;have:=bR s.length r (JB.mp hf).1;exact⟨!0,λx hx=>by rw[N];exact this.2.2 x hx⟩
 obtain⟨a,X⟩:∃a:Nat,pc cs B=a:=⟨(pc cs B).toNat,(Kz (fb hc B)).symm⟩
 walk_at "dx";refine⟨A,B,cs,rfl,hB,!0,row,fb hc B,?_⟩;have v:=iR a B.length;unfold BP at v;rw[X,v];walk_at "dx";have a3:=pf (a:=a) hB;have a7:lwQ a B.length<=B.length:=ri _ _;refine⟨sts,60,_,_,rfl,T,a3,!0,λbest p q' P bo hP M=>?_⟩;walk_at "dx";refine⟨λenv=>∃A B:List (List Int),env=[.fr (.tuple [.list (li s),.list (li o)]),.fr (.list (li cs)),.fr (.tuple [.list (lr A),.list (lr B)]),.fr (bz (lwK s o L)),.fr (.list (xs.map stS)),.fr (.list (sts.map stL)),.fr (.tuple [FP best,.list (li P)])]/\1<=B.length/\B.length<=1000/\(∀r∈B,r.length<=1000/\∀x∈r,0<=x/\x<cs.length)/\p=lwP (pc cs B).toNat B.length/\q'=lwQ (pc cs B).toNat B.length,?h1,?h2⟩
 case h1 =>
  rcases bo with⟨rfl,rfl,rfl⟩|⟨l,rfl,lo,hp,hq⟩
  .walk_at "dx";refine cw (λz=>by cases z) (λ_=>⟨A,rfl,B,rfl,hB,!0,row,?_⟩);rw[X];exact⟨rfl,rfl⟩
  .walk_at "dx";refine cw (λ_=>?_) (λz=>absurd rfl z);refine⟨xs.map kOf,by rw[JI];rfl,s,o,rfl,?_⟩;walk_at "dx";refine⟨kOf (0,s),rfl,rfl,by rw[JI];rfl,gX.mpr Z,by rw[Je];omega,λj hj=>?_⟩;have O:j<xs.length:=by
    have:=(Js.mp hj).1;rwa [Je] at this
   have ej:nmS xs (0,s)=j:=by rw[Ji (by rw[Je];exact O)] at hj;injection hj with hj;have:=U.idxOf_getElem j (by rw[Je];exact O);rw[hj] at this;exact this
   have V:∀t∈l,t.2.2.length<=6/\(∀x∈t.2.2,0<=x/\x<s.length)/\t.1=rc cs t.2.2:=λt Q=>by
    obtain⟨i,hi⟩:=lo.mem t Q;exact I i t hi
   have W:=lo.last;have a4:=lo.few;rw[J] at W a4;refine⟨sts,60,j,l,rfl,T,by rw[J];exact O,lo,ej▸a0 _ W,λi t Q=>by have:=(I i t Q).1;omega,λrs=>?_⟩;walk_at "dx";refine⟨rs,rfl,l.map (·.2.2),rfl,?_⟩;rw[Bz λt Q=>(V t Q).2.2,Je];refine⟨KL.mpr lo.ne,!0,λr C=>?_,hp,hq⟩;obtain⟨t,Q,rfl⟩:=Jk.mp C;have:=V t Q;exact⟨!0,λx hx=>by rw[N];exact this.2.1 x hx⟩
 case h2 =>
  rintro env ⟨A,B,rfl,hB,S,row,rfl,rfl⟩;have h0:=fb hc B;obtain⟨a,X⟩:∃a:Nat,pc cs B=a:=⟨(pc cs B).toNat,(Kz h0).symm⟩
  have v:=iR a B.length;unfold BP at v;walk_at "dx";refine⟨A,B,cs,rfl,hB,S,row,h0,?_⟩;have g1:=pf (a:=a) hB;have g2:lwQ a B.length<=B.length:=ri _ _;rw[X] at M ⊢;rw[v];walk_at "dx";exact⟨Jt (!2) af,q hg _ _ _ _ g1 (!0) (low M)⟩
abbrev eX:Stmt:=top 46
def cP:ax ["_law_town_here", "_law_lefts", "_law_span"] ["_law_town_here"] (ad eX):={}
def kx:DSp:=λss R=>∃(s o:List Int),ss=[.fr (.tuple [.list (li s),.list (li o)])]/\s.length<=1000/\R (.fr (.tuple [.int 0,.tuple (li s)])) [.un]
def kT(F:Fun K "_law_begun" "_law_begun" eX f fd)(B:Bn mg):ca P w K mg base CX0 1 f fd ["_law_town_here"] (spD K kx):=by
 refine okD (k:=0) F cP (λss R h=>?_) (!2) (λcdv A outer s H E c=>⟨_,(bB (aw (i:=1) cP.nd rfl ci (cQ ac))
   (bB (dD PassesOwn.never rfl (aH (K:=K) rfl (aN (ai (K:=K) rfl) mIx (qv 0) al (λ_ _=>rfl))) (ak (i:=2) cP.nd rfl ci) (aj (aw (i:=1) cP.nd rfl ci (uM (K:=K) rfl (qv 1) (cQ (aa (qf 2) ac))))))
   (aj (a9 (cQ (aa al (aa (qf 1) ac))))))),λss R h=>?_⟩)
 .obtain⟨s,o,rfl,_⟩:=h;rfl
 obtain⟨s,o,rfl,d,q⟩:=h;walk_at "dd";refine⟨JD _,?_⟩;refine cR (λi env=>∃a:Sl,env=[.fr (.tuple [.list (li s),.list (li o)]),.fr (.tuple (li (s.take i))),a]) ⟨_,rfl⟩ ?_ ?_
 .rintro i env hi ⟨a,rfl⟩;have b:i<s.length:=by simpa using hi
  rw[c7,tS b];walk_at "dd";exact⟨Jt (!2) af,by rw[Je,JZ];exact Jt (!0) af,!1⟩
 .rintro env ⟨a,rfl⟩;rw[Je,Ke];walk_at "dd";exact⟨Jt (!2) af,q⟩
def nQ(s o:List Int)(L:Lw)(p:Std×List (List Int)):List (List Int):=p.2.filter λr=>decide (bC s o p.1 r∈kyw L)
def kB(s o:List Int)(L A:Lw):Lw:=(A.filter λp=>decide (nQ s o L p≠[])).map λp=>(p.1,nQ s o L p)
def tW(s o:List Int)(L:Lw)(p:Std×List (List Int)):stp (toL s o L) (p.1,p.2.map (bC s o p.1))=(nQ s o L p).map (bC s o p.1):=by unfold stp nQ;rw[y2,eP];rfl
def AO(s o:List Int)(L A:Lw):toL s o (kB s o L A)=xx (toL s o L) (toL s o A):=by
 unfold kB xx
 induction A with
 | nil=>rfl
 | cons p A a =>
  have e:stp (toL s o L) (p.1,p.2.map (bC s o p.1))=[]↔nQ s o L p=[]:=by rw[tW];exact LM
  show toL s o (((p::A).filter _).map _)=(((p.1,p.2.map (bC s o p.1))::toL s o A).filter _).map _;by_cases h:nQ s o L p=[]
  .rw[Kw (by simp[h]),Kw (by simp[e.mpr h])];exact a
  .rw[Ka (by simp[h]),Ka (by simpa usingλz=>h (e.mp z)),Jr,Jr];show _::toL s o _=_;rw[a,tW]
structure LdW(s o:List Int)(L:Lw):Prop where
 sft:Sft s o (0,s) (toL s o L)
 rows:∀p∈L,∀r∈p.2,r∈fJ s.length (o.getD p.1.1 0) p.1.2
 few:∀p∈L,p.2.length<64
 is : ∀p∈L,IsS s o p.1
section
theorem LdW.nd(h:LdW s o L):(kyw L).Nodup:=by rw[<-eP s o];exact h.sft.nd
def LdW.len(h:LdW s o L):L.length<=(f9 s o).length:=by have:=h.sft.few;simpa[toL] using this
def FlW.ldw(h:FlW s o (0,s) L []):LdW s o L:=⟨h.fil.sft λp a=>by
  obtain⟨q,hq,rfl⟩:=Jk.mp a;rw[Je];exact h.few q hq,λp a r b=>(h.rows p a).mem_iff.mp b,h.few,λp a=>h.fil.is (p.1,p.2.map (bC s o p.1)) (Jk.mpr ⟨p,a,rfl⟩)⟩
def fw(a:p∈kB s o L A):∃q∈A,nQ s o L q≠[]/\p=(q.1,nQ s o L q):=by obtain⟨q,hq,rfl⟩:=Jk.mp a;obtain⟨h1,h2⟩:=JB.mp hq;exact⟨q,h1,of_decide_eq_true h2,rfl⟩
theorem LdW.next(h:LdW s o L):LdW s o (kB s o L L):=by
 refine⟨by rw[AO];exact h.sft.next,λp a r b=>?_,λp a=>?_,λp a=>?_⟩
 .obtain⟨q,hq,_,rfl⟩:=fw a;exact h.rows q hq r (JB.mp b).1
 .obtain⟨q,hq,_,rfl⟩:=fw a;exact Kj (JQ _ _) (h.few q hq)
 .obtain⟨q,hq,_,rfl⟩:=fw a;exact h.is q hq
structure C3(s o:List Int)(L:Lw):Prop where
 nd : (kyw L).Nodup
 len:L.length<=(f9 s o).length
 row:∀p∈L,∀r∈p.2,r∈fJ s.length (o.getD p.1.1 0) p.1.2/\bC s o p.1 r∈kyw L
 ne : ∀p∈L,p.2≠[]
 few:∀p∈L,p.2.length<64
 is : ∀p∈L,IsS s o p.1
def C3.can(h:C3 s o L)(hx:x∈kyw L):eI s o x:=⟨λy=>y∈kyw L,hx,λy b=>by
 obtain⟨p,a,rfl⟩:=Jk.mp b;obtain⟨r,c⟩:=List.exists_mem_of_ne_nil _ (h.ne p a);obtain⟨h1,h2⟩:=h.row p a r c;exact⟨_,Jk.mpr ⟨r,h1,rfl⟩,h2⟩⟩
def LdW.done(h:LdW s o L)(b:L.length<=(kB s o L L).length)(hg:eI s o (0,s)):C3 s o (kB s o L L)/\(0,s)∈kyw (kB s o L L):=by
 have e:(L.filter λp=>decide (nQ s o L p≠[]))=L:=by unfold kB at b;rw[Je] at b;exact rB.eq_of_length_le b
 have f:kyw (kB s o L L)=kyw L:=by unfold kB;rw[e];simp[kyw]
 have hn:=h.next
 refine⟨⟨hn.nd,hn.len,λp a r d=>⟨hn.rows p a r d,?_⟩,λp a=>?_,hn.few,hn.is⟩,?_⟩
 .obtain⟨q,hq,_,rfl⟩:=fw a;rw[f];exact of_decide_eq_true (JB.mp d).2
 .obtain⟨q,hq,c,rfl⟩:=fw a;exact c
 .have:=hn.sft.can hg;rwa [eP] at this
structure sk(s o:List Int)(L F:Lw)(pile:List Std):Prop where
 nd : (kyw F).Nodup
 sub:∀p∈F,p∈L
 pin:∀x∈pile,x∈kyw L
 st : (0,s)∈pile\/(0,s)∈kyw F
 cl : ∀p∈F,∀r∈p.2,bC s o p.1 r∈pile\/bC s o p.1 r∈kyw F
 pl : pile.length<=64*F.length+1
def sk.init(h:(0,s)∈kyw L):sk s o L [] [(0,s)]:=⟨!1,!1,by simpa using h,!1,!1,!1⟩
def sk.len(h:sk s o L F pile):F.length<=L.length:=by
 have:=cG h.nd λx hx=>by
  obtain⟨p,a,rfl⟩:=Jk.mp hx;exact(Jk.mpr ⟨p,h.sub p a,rfl⟩:p.1∈kyw L)
 simpa[kyw] using this
def sk.skip(h:sk s o L F (pile++[x]))(hx:x∈kyw F):sk s o L F pile:=by
 refine⟨h.nd,h.sub,λy a=>h.pin y (by simp[a]),?_,λp b r c=>?_,by have:=h.pl;simp at this;omega⟩
 .rcases h.st with e|e
  .rcases Jj.mp e with e|e
   .exact .inl e
   .rw[Jf.mp e];exact .inr hx
  .exact .inr e
 .rcases h.cl p b r c with e|e
  .rcases Jj.mp e with e|e
   .exact .inl e
   .rw[Jf.mp e];exact .inr hx
  .exact .inr e
def sk.add(g:C3 s o L)(d:p∈L)(h:sk s o L F (pile++[p.1]))(hx:p.1 ∉ kyw F):sk s o L (F++[p]) (pile++p.2.map (bC s o p.1)):=by
 have key:∀y,y∈pile++[p.1]\/y∈kyw F->y∈pile++p.2.map (bC s o p.1)\/y∈kyw (F++[p]):=by
  intro y f;rcases f with e|e
  .rcases Jj.mp e with e|e
   .exact .inl (Jl _ e)
   .exact .inr (by simp[kyw,Jf.mp e])
  .exact .inr (by simp only[kyw,Jy,Jj];exact .inl e)
 refine⟨?_,λq hq=>?_,λy f=>?_,key _ h.st,λq hq r c=>?_,?_⟩
 .simp only[kyw,Jy,Jr,Kv];refine Ju.mpr ⟨h.nd,!1,λa i b j e=>?_⟩;rw[Jf.mp j] at e;exact hx (e▸i)
 .rcases Jj.mp hq with e|e
  .exact h.sub q e
  .rw[Jf.mp e];exact d
 .rcases Jj.mp f with e|e
  .exact h.pin y (by simp[e])
  .obtain⟨r,c,rfl⟩:=Jk.mp e;exact(g.row p d r c).2
 .rcases Jj.mp hq with e|e
  .exact key _ (h.cl q e r c)
  .rw[Jf.mp e] at c ⊢;exact .inl (Jg _ (Jk.mpr ⟨r,c,rfl⟩))
 .have:=h.pl;have:=g.few p d;simp at this ⊢;have:=h.pl;simp at this;omega
structure pO(s o:List Int)(F:Lw):Prop where
 nd : (kyw F).Nodup
 len:F.length<=(f9 s o).length
 st : (0,s)∈kyw F
 ne : ∀p∈F,p.2≠[]
 few:∀p∈F,p.2.length<64
 is : ∀p∈F,IsS s o p.1
 row:∀p∈F,∀r∈p.2,r∈fJ s.length (o.getD p.1.1 0) p.1.2/\bC s o p.1 r∈kyw F/\eI s o (bC s o p.1 r)
def sk.road(h:sk s o L F [])(b:C3 s o L):pO s o F:=by refine⟨h.nd,Jt h.len b.len,h.st.resolve_left (!1),λp a=>b.ne p (h.sub p a),λp a=>b.few p (h.sub p a),λp a=>b.is p (h.sub p a),λp a r c=>?_⟩;have h1:=(h.cl p a r c).resolve_left (!1);obtain⟨q,hq,e⟩:=Jk.mp h1;exact⟨(b.row p (h.sub p a) r c).1,h1,b.can (by rw[<-e];exact Jk.mpr ⟨q,h.sub q hq,rfl⟩)⟩
def xm(a:C3 s o L)(b:p∈L):nQ s o L p=p.2:=List.filter_eq_self.mpr λr c=>decide_eq_true (a.row p b r c).2
def uq(L:Lw)(hi:i<L.length):kB s o L (L.take (i+1))=if nQ s o L L[i]=[] then kB s o L (L.take i) else kB s o L (L.take i)++[(L[i].1,nQ s o L L[i])]:=by unfold kB;rw[J6,Ji hi,Kb,Jy];by_cases h:nQ s o L L[i]=[] <;> simp[h]
def xw(nd:(kyw L).Nodup)(hi:i<L.length):L[i].1 ∉ kyw (kB s o L (L.take i)):=by
 intro h;obtain⟨q,hq,e⟩:=Jk.mp h;obtain⟨q',a,_,rfl⟩:=fw hq;obtain⟨j,hj,e2⟩:=J8 a;rw[ol] at e2;rw[JZ] at hj;have e:q'.1=L[i].1:=e;have h1:(kyw L)[j]'(by simp;omega)=(kyw L)[i]'(by simp;omega):=by simp[e2,e]
 have:=(K1 nd).mp h1;omega
end
def uo(x:Std):Sh 2 (stS x):=Sh.tuple (n:=1) λy a=>by
 simp only[Jo,List.mem_nil_iff,or_false,JR] at a;rcases a with rfl|rfl
 .exact Sh.int _ _
 .exact Sh.tuple (n:=0) λz hz=>by
   obtain⟨i,_,rfl⟩:=Jk.mp hz;exact Sh.int _ _
def gi(l:List Std):shp (.list (l.map stS)):=(Sh.list (n:=2) (λx hx=>by obtain⟨y,_,rfl⟩:=Jk.mp hx;exact uo y)).shp (!2)
def rJ(l:List Std):eA (.list (l.map stS)) (.list [])=l.isEmpty:=by cases l <;> rfl
def qu(s o:List Int)(x:Std)(l:List (List Int)):shp (.list (l.map (wyS s o x))):=(Sh.list (n:=3) (λd hd=>by
 obtain⟨r,_,rfl⟩:=Jk.mp hd;exact Sh.two (Sh.ints _ _) (uo _))).shp (!2)
def yO(s o:List Int)(x:Std)(l:List (List Int)):eA (.list (l.map (wyS s o x))) (.list [])=l.isEmpty:=by cases l <;> rfl
def pQ(s o:List Int)(x:Std)(a:List (List Int))(h:a.length<64)(hR:R (.ow ((a.map (bC s o x)).map stS)) env):CD (a.map (wyS s o x)) [none,none] (yR 2 (nj (kj 0) (nj (kj 1) yS))) Af (yW 1) env R:=by
 refine bT (λi=>stS (bC s o x (a.getD i []))) (by rw[Je];omega) (λi hi Q hQ=>?_) ?_
 .rw[Je] at hi;have e:(a.map (wyS s o x))[i]'(by rw[Je];exact hi)=wyS s o x (a.getD i []):=by
   rw[JG,Jh,Ji hi];rfl
  rw[e];unfold wyS;walk_at "dx";exact hQ
 .rw[Je,aT a [] (λr=>stS (bC s o x r)),show a.map (λr=>stS (bC s o x r))=(a.map (bC s o x)).map stS by rw[JI];rfl];exact hR
inductive IvA (s o:List Int) (m:Nat):List Sl->Prop
 | mk (L:Lw) (pile:List Std) (S:List ao) (c e1 e2 e3 e4:Sl) (ps:List ah):ps=pile.map stS->FlW s o (0,s) L pile->m=((f9 s o).length - L.length)*64+pile.length->IvA s o m [.fr (.tuple [.list (li s),.list (li o)]),.tr S (bz (lwK s o L)),.ow ps,c,e1,e2,e3,e4]
inductive IvB (s o:List Int) (m:Nat):List Sl->Prop
 | mk (L:Lw) (a b c e d:Sl):LdW s o L->(m=L.length+1\/∃L0,LdW s o L0/\L=kB s o L0 L0/\m=L0.length)->IvB s o m [.fr (.tuple [.list (li s),.list (li o)]),.fr (bz (lwK s o L)),a,b,.fr (.int m),c,e,d]
inductive IvC (s o:List Int) (L:Lw) (a:Sl) (i:Nat):List Sl->Prop
 | mk (S:List ao) (b e d:Sl) (D:List (ay×ah)):D=lwK s o (kB s o L (L.take i))->IvC s o L a i [.fr (.tuple [.list (li s),.list (li o)]),.fr (bz (lwK s o L)),a,b,.fr (.int (lwK s o L).length),.tr S (bz D),e,d]
inductive IvD (s o:List Int) (L:Lw) (m:Nat):List Sl->Prop
 | mk (F:Lw) (pile:List Std) (S:List ao) (c e1 e2 e3:Sl) (ps:List ah):ps=pile.map stS->sk s o L F pile->m=(L.length - F.length)*64+pile.length->IvD s o L m [.fr (.tuple [.list (li s),.list (li o)]),.fr (bz (lwK s o L)),.ow ps,c,e1,e2,e3,.tr S (bz (lwK s o F))]
abbrev br:Stmt:=top 47
def aE:ax ["_law_town_here", "_law_leads", "_law_pile", "_law_here", "_law_many", "_law_kept", "_law_good", "_law_found"] ["_law_town_here"] (ad br):={}
def qt:DSp:=λss R=>∃(s o:List Int),ss=[.fr (.tuple [.list (li s),.list (li o)])]/\TB s o/\TbL s o/\(f9 s o).length<=100/\eI s o (0,s)/\∀F:Lw,pO s o F->R (.fr (bz (lwK s o F))) [.un]
def kQ(F:Fun K "_law_roads" "_law_roads" br f fd)(B:Bn mg)(g:Cal P w K mg base "_law_begun" 1 (spD K kx))(u:Cal P w K mg base "_law_rows" 1 (spD K zt))(t:Cal P w K mg base "_law_after" 1 (spD K uk)):ca P w K mg base CX0 3 f fd ["_law_town_here"] (spD K qt):=by
 refine okD (k:=2) F aE (λss R h=>?_) (!2) (λcdv A outer s H E v=>⟨_,(ae (aw (i:=1) aE.nd rfl (di rfl) im)
   (ae (aw (i:=2) aE.nd rfl ci (b7 (aa (aD g (v.mono (!2)) rfl (aa (qf 0) ac)) ac)))
   (ae (cg PassesOwn.never (aF (GF (K:=K) rfl v.units) mNe (qv 2) (b7 ac) (aU _)) (ae (aw (i:=3) aE.nd rfl (di rfl) (sH 2 (K:=K) rfl rfl))
   (aj (gP (aF (gY (K:=K) rfl (hu2 v)) gW (qv 3) (qv 1) (by with_unfolding_all rfl)) (ae (fL 1 (K:=K) rfl (hu2 v) rfl (qf 3) (bF (N':=["_law_row", "_law_town_here", "_law_here"]) (ix:=[none,some 0,some 3]) rfl (bP (N:=_::_) (sc0:=ad br) rfl rfl (!3)) (aH (K:=K) rfl (aD u (v.mono (!2)) rfl (aa (qf 0) (aa (qf 3) ac)))) (λ_ _ _ _=>(ak (i:=0) (!4) rfl ci)) (λ_ _ _ _=>aM) (λ_ _ _ _=>(cQ (aa (qf 0) (aa (aD t (v.mono (!2)) rfl (aa (qf 1) (aa (qf 2) (aa (qf 0) ac)))) ac))))))
   (aj (aw (i:=2) aE.nd rfl ci (kF (eB (K:=K) rfl) yc (qv 2) (bF (N':=["_law_row", "_law_there"]) (ix:=[none,none]) rfl (bP (N:=_::_) (sc0:=ad br) rfl rfl (!3)) (aH (K:=K) rfl (aN (nV (K:=K) rfl (hu2 v)) nU (qv 1) (qv 3) (λ_ _=>rfl))) (λ_ _ _ _=>(dM (K:=K) (n:=2) rfl rfl (aK (ak (i:=0) (!4) rfl ci) (aK (ak (i:=1) (!4) rfl ci) cB)))) (λ_ _ _ _=>aM) (λ_ _ _ _=>(qf 1))))))) bS))))
   (eZ 1 (ae (aw (i:=4) aE.nd rfl ci (bX cr mI (d8 fj BN rfl B.len db (aa (qv 1) ac)) al))
   (ae (cg PassesOwn.never (aF oT mB (d8 fj BN rfl B.len db (aa (qv 1) ac)) (qv 4) (aU _)) (ae (aw (i:=4) aE.nd rfl ci (d8 fj BN rfl B.len db (aa (qv 1) ac)))
   (ae (aw (i:=5) aE.nd rfl ci im)
   (ae (dD PassesOwn.never rfl (qL (K:=K) rfl (qf 1)) (ak (i:=3) aE.nd rfl (di rfl)) (ae (bV (i:=6)  aE.nd rfl rfl (N':=["_law_road", "_law_leads"]) (ix:=[none,some 1]) rfl (bP (N:=_::_) (sc0:=ad br) rfl rfl (!3)) (aH (K:=K) rfl (aN (nV (K:=K) rfl (hu2 v)) nU (qv 1) (qv 3) (λ_ _=>rfl))) (λ_ _ _ _=>(ak (i:=0) (!4) rfl ci)) (λ_ _ _ _=>(dB (aF (GI (K:=K) rfl (hu2 v)) GD (aN (ai (K:=K) rfl) mIx (qv 0) al (λ_ _=>rfl)) (qv 1) (by with_unfolding_all rfl)))) (λ_ _ _ _=>(qf 0)))
   (aj (gP (aF (GF (K:=K) rfl v.units) mNe (qv 6) (b7 ac) (aU _)) (aj (fL 5 (K:=K) rfl (hu2 v) rfl (qf 3) (qf 6))) bS))))
   (eZ 5 (aj (aw (i:=1) aE.nd rfl (di rfl) (qf 5))))))))
   (ae (aw (i:=7) aE.nd rfl ci im)
   (ae (bV (i:=2)  aE.nd rfl rfl (N':=["_law_here", "_law_leads"]) (ix:=[none,some 1]) rfl (bP (N:=_::_) (sc0:=ad br) rfl rfl (!3)) (aH (K:=K) rfl (b7 (aa (aD g (v.mono (!2)) rfl (aa (qf 0) ac)) ac))) (λ_ _ _ _=>(ak (i:=0) (!4) rfl ci)) (λ_ _ _ _=>(dB (aF (GI (K:=K) rfl (hu2 v)) GD (qv 0) (qv 1) (by with_unfolding_all rfl)))) (λ_ _ _ _=>(qf 0)))
   (ae (cg PassesOwn.never (aF (GF (K:=K) rfl v.units) mNe (qv 2) (b7 ac) (aU _)) (ae (aw (i:=3) aE.nd rfl (di rfl) (sH 2 (K:=K) rfl rfl))
   (aj (gP (aF (gY (K:=K) rfl (hu2 v)) gW (qv 3) (qv 7) (by with_unfolding_all rfl)) (ae (fL 7 (K:=K) rfl (hu2 v) rfl (qf 3) (bF (N':=["_law_road", "_law_leads"]) (ix:=[none,some 1]) rfl (bP (N:=_::_) (sc0:=ad br) rfl rfl (!3)) (aH (K:=K) rfl (aN (nV (K:=K) rfl (hu2 v)) nU (qv 1) (qv 3) (λ_ _=>rfl))) (λ_ _ _ _=>(ak (i:=0) (!4) rfl ci)) (λ_ _ _ _=>(dB (aF (GI (K:=K) rfl (hu2 v)) GD (aN (ai (K:=K) rfl) mIx (qv 0) al (λ_ _=>rfl)) (qv 1) (by with_unfolding_all rfl)))) (λ_ _ _ _=>(qf 0))))
   (aj (aw (i:=2) aE.nd rfl ci (kF (eB (K:=K) rfl) yc (qv 2) (bF (N':=["_law_row", "_law_there"]) (ix:=[none,none]) rfl (bP (N:=_::_) (sc0:=ad br) rfl rfl (!3)) (aH (K:=K) rfl (aN (nV (K:=K) rfl (hu2 v)) nU (qv 7) (qv 3) (λ_ _=>rfl))) (λ_ _ _ _=>(dM (K:=K) (n:=2) rfl rfl (aK (ak (i:=0) (!4) rfl ci) (aK (ak (i:=1) (!4) rfl ci) cB)))) (λ_ _ _ _=>aM) (λ_ _ _ _=>(qf 1))))))) bS))))
   (eZ 7 (aj (a9 (qv 7))))))))))))),λss R h=>?_⟩)
 .obtain⟨s,o,rfl,_⟩:=h;rfl
 obtain⟨s,o,rfl,tb,⟨t1,t2,t3,t4,t5,_⟩,t6,hg,q⟩:=h;have D:∀n:Nat,n<1000000->n<sizeLine:=λn h=>Jp h af;have i0:IsS s o (0,s):=⟨t2,rfl,λc hc=>⟨t3 _ (aY hc),KK _⟩⟩
 have hh:∀d,d<o.length->0<=o.getD d 0/\(s.length<=4\/o.getD d 0<=3):=λd hd=>⟨t4 _ (aY hd),t5.imp id λh=>h _ (aY hd)⟩
 walk_at "dx";intro S0;walk_at "dx";refine⟨s,o,rfl,!0,?_⟩;walk_at "dx";refine⟨Jt (!2) af,?_⟩;walk_at "dx";refine gJ (IvA s o) ⟨_,.mk [] [(0,s)] S0 _ _ _ _ _ _ rfl (FlW.init i0) rfl⟩ λN hN=>?_;rintro _ env ⟨L,pile,S,c,e1,e2,e3,e4,_,rfl,l,rfl⟩;have I:=l.len;have y:=l.fil.pl;rw[show(toL s o L).length=L.length from Je ..] at y;walk_at "dx";refine⟨JD _,gi pile,gi [],?_⟩;rw[rJ];rcases J3 pile with rfl|⟨P,x,rfl⟩
 .rw[MA (!1)];walk_at "dx";refine⟨lwK s o L,rfl,?_⟩;walk_at "dx";refine gJ (IvB s o) ⟨L.length+1,by rw[eD];exact .mk L _ _ _ _ _ l.ldw (.inl rfl)⟩ λM hM=>?_;clear l I y;rintro m env ⟨L,a,b,c,e,d,l,hm⟩;walk_at "dx";refine⟨lwK s o L,rfl,?_⟩;rw[eD];have a7:=l.len;refine cw (λO=>?hB) (λO=>?hC)
  case hB =>
   refine⟨lwK s o L,rfl,?_⟩;walk_at "dx";intro S1;walk_at "dx";refine⟨lwK s o L,rfl,?_⟩;have ek:(lwK s o L).map (λp=>bi p.1)=(kyw L).map stS:=by simp[lwK,kOf]
   rw[ek];refine iG (IvC s o L a) (.mk S1 b e d _ rfl) (λY hL=>?_) ?_
   .rintro i env hi ⟨S,b,e,d,_,rfl⟩;rw[Je,Je] at hi;have T:L[i]∈L:=JF hi;rw[JG,JG];have X:=uq (s:=s) (o:=o) L hi;have a6:=xw (s:=s) (o:=o) l.nd hi;have U:=iy (s:=s) (o:=o) l.nd T;have Z:=l.few _ T;generalize L[i]=p at *;walk_at "dx";refine⟨_,rfl,kOf p.1,rfl,rfl,_,U,_,rfl,?_⟩;refine bY (λj=>decide (bC s o p.1 (p.2.getD j [])∈kyw L)) (λj=>wyS s o p.1 (p.2.getD j [])) (by rw[Je];omega) (λj hj Q Q' h1 h2=>?_) ?_
    .rw[Je] at hj;have e:(p.2.map (wyS s o p.1))[j]'(by rw[Je];exact hj)=wyS s o p.1 (p.2.getD j []):=by
      rw[JG,Jh,Ji hj];rfl
     rw[e];generalize p.2.getD j []=r at *;unfold wyS at h1 ⊢;walk_at "dx";refine⟨kOf (bC s o p.1 r),rfl,rfl,lwK s o L,rfl,?_⟩;rw[fM];exact cw (λh=>h1 h) (λh=>h2 (by simpa using h))
    rw[Je,bK p.2 [] (λr=>decide (bC s o p.1 r∈kyw L)) (λr=>wyS s o p.1 r),show(p.2.filter λr=>decide (bC s o p.1 r∈kyw L))=nQ s o L p from rfl];walk_at "dx";refine⟨JD _,qu _ _ _ _,qu s o p.1 [],?_⟩;rw[yO];by_cases hn:nQ s o L p=[]
    .rw[MA (by simp[hn])];exact(hL _).nx _ (.mk _ _ _ _ _ (by rw[X,Mz hn]))
    .rw[Mz (by simpa using hn)];refine⟨⟨_,rfl⟩,_,rfl,kOf p.1,rfl,rfl,D _ ?_,(hL _).nx _ (.mk _ _ _ _ _ (by rw[X,MA hn,<-jz a6]))⟩;rw[eD];unfold kB;rw[Je];have h1:=JQ (λp=>decide (nQ s o L p≠[])) (L.take i);rw[JZ] at h1;omega
   .rintro env ⟨S,b,e,d,_,rfl⟩;rw[Je,Je,Ke];walk_at "dx";rw[eD];exact⟨L.length,!0,.mk (kB s o L L) _ _ _ _ _ l.next (.inr ⟨L,l,rfl,rfl⟩)⟩
  case hC =>
   have fin:C3 s o L/\(0,s)∈kyw L:=by
    rcases hm with rfl|⟨L0,h0,rfl,rfl⟩
    .exact absurd (!0) O
    .exact h0.done (!0) hg
   clear hm O l;obtain⟨V,a0⟩:=fin;walk_at "dx";intro S2;walk_at "dx";refine⟨s,o,rfl,!0,?_⟩;walk_at "dx";refine⟨Jt (!2) af,?_⟩;refine bY (λ_=>true) (λ_=>stS (0,s)) (!1) (λj hj Q Q' h1 h2=>?_) ?_
   .have ej:j=0:=by simpa using hj
    subst ej;walk_at "dx";refine⟨kOf (0,s),rfl,lwK s o L,rfl,?_⟩;rw[fM,Mz (decide_eq_true a0)];exact h1 rfl
   rw[show((cu [hZ [eb 0,hZ (li s)]].length).filter λ_=>true).map (λ_=>stS (0,s))=[(0,s)].map stS from rfl];walk_at "dx";refine gJ (IvD s o L) ⟨_,.mk [] [(0,s)] S2 _ _ _ _ _ rfl (sk.init a0) rfl⟩ λY hL=>?_;rintro _ env ⟨F,pile,S,c,e1,e2,e3,_,rfl,l,rfl⟩;have I:=l.len;have y:=l.pl;walk_at "dx";refine⟨JD _,gi pile,gi [],?_⟩;rw[rJ];rcases J3 pile with rfl|⟨P,x,rfl⟩
   .rw[MA (!1)];walk_at "dx";exact q F (l.road V)
   rw[J4] at l y ⊢;rw[Mz (!1)];obtain⟨p,T,rfl⟩:=Jk.mp (l.pin x (!1));have U:=iy (s:=s) (o:=o) V.nd T;have Z:=V.few p T;have a3:=xm V T;refine⟨stS p.1,!1,?_⟩;walk_at "dx";refine⟨kOf p.1,rfl,rfl,lwK s o F,rfl,cw (λh=>?_) (λh=>?_)⟩
   .rw[fM] at h;have hx:p.1 ∉ kyw F:=by simpa using h
    have z:=l.add V T hx;have C:=z.len;refine⟨_,rfl,kOf p.1,rfl,rfl,_,U,_,rfl,?_⟩;refine bY (λj=>decide (bC s o p.1 (p.2.getD j [])∈kyw L)) (λj=>wyS s o p.1 (p.2.getD j [])) (by rw[Je];omega) (λj hj Q Q' h1 h2=>?_) ?_
    .rw[Je] at hj;have e:(p.2.map (wyS s o p.1))[j]'(by rw[Je];exact hj)=wyS s o p.1 (p.2.getD j []):=by
      rw[JG,Jh,Ji hj];rfl
     rw[e];generalize p.2.getD j []=r at *;unfold wyS at h1 ⊢;walk_at "dx";refine⟨kOf (bC s o p.1 r),rfl,rfl,lwK s o L,rfl,?_⟩;rw[fM];exact cw (λh=>h1 h) (λh=>h2 (by simpa using h))
    rw[Je,bK p.2 [] (λr=>decide (bC s o p.1 r∈kyw L)) (λr=>wyS s o p.1 r),show(p.2.filter λr=>decide (bC s o p.1 r∈kyw L))=p.2 from a3];walk_at "dx";refine⟨⟨_,rfl⟩,_,rfl,kOf p.1,rfl,rfl,D _ (by rw[eD];have:=V.len;omega),?_⟩;rw[jz hx];walk_at "dx";have W:=iy (s:=s) (o:=o) z.nd (p:=p) (!1);refine⟨_,rfl,kOf p.1,rfl,rfl,_,W,_,rfl,pQ s o p.1 p.2 Z ?_⟩;walk_at "dx";have:=V.len;refine⟨?_,(hL _).nx _ ⟨(L.length - (F.length+1))*64+(P.length+p.2.length),?_,.mk (F++[p]) _ _ _ _ _ _ _ (!1) z (!1)⟩⟩
    .simp at y ⊢;exact KM (D _ (!0))
    .simp at C ⊢;omega
   .rw[fM] at h;have hx:p.1∈kyw F:=by simpa using h
    exact(hL _).nx _ ⟨_,!1,.mk F P _ _ _ _ _ _ (!1) (l.skip hx) rfl⟩
 rw[J4] at l y ⊢;rw[Mz (!1)];have G:IsS s o x:=l.fil.pis x (!1);refine⟨stS x,!1,?_⟩;walk_at "dx";refine⟨kOf x,rfl,rfl,lwK s o L,rfl,cw (λh=>?_) (λh=>?_)⟩
 .rw[fM] at h;have hx:x ∉ kyw L:=by simpa using h
  refine⟨s,o,x.2,x.1,rfl,tb,⟨G.1,G.2.1⟩,λJ a4=>?_⟩;have a5:J.length<64:=by rw[a4.length_eq];exact hJ t1 (hh _ G.1).2
  walk_at "dx";have hP:P.length<900000:=by simp at y;omega
  refine bT (λi=>wyS s o x (J.getD i [])) (by rw[Je];omega) (λi hi Q hQ=>?_) ?_
  .rw[Je] at hi;rw[fN];walk_at "dx";refine⟨s,o,x.2,_,x.1,rfl,!0,t2,G.2.1,?_⟩;walk_at "dx";exact⟨Jt (!2) af,hQ⟩
  rw[Je,aT J [] (λr=>wyS s o x r)];walk_at "dx";have z:=l.add t3 hx a4 a5;have C:=z.len;refine⟨⟨_,rfl⟩,lwK s o L,rfl,kOf x,rfl,rfl,D _ (by rw[eD];omega),?_⟩;rw[jz hx];walk_at "dx";have W:=iy (s:=s) (o:=o) z.nd (p:=(x,J)) (!1);refine⟨lwK s o (L++[(x,J)]),rfl,kOf x,rfl,rfl,_,W,_,rfl,pQ s o x J a5 ?_⟩;walk_at "dx";refine⟨?_,(hN _).nx _ ⟨((f9 s o).length - (L.length+1))*64+(P.length+J.length),?_,.mk (L++[(x,J)]) _ _ _ _ _ _ _ _ (!1) z (!1)⟩⟩
  .simp;exact KM (D _ (!0))
  .simp at C ⊢;omega
 .rw[fM] at h;have hx:x∈kyw L:=by simpa using h
  exact(hN _).nx _ ⟨_,!1,.mk L P _ _ _ _ _ _ _ (!1) (l.skip hx) rfl⟩
def AV{s o:List Int}(ho:1<=o.length){rows:List (List Int)}{P:Nat->Std}{n k:Nat}(hR:rows.length=n+1)(hk:k<n+1)(l:P 0=(0,s))(g:∀i,i<n+1->P (i+1)=bC s o (P i) (rows.getD i [])/\rows.getD i []∈fJ s.length (o.getD (P i).1 0) (P i).2)(e:P (n+1)=P k) :
  KP s o (rows.take k) (rows.drop k):=by
 have c:∀i,i<n+1->rwF (rows.take k) (rows.drop k) i=rows.getD i []:=λi hi=>by
  unfold rwF;rw[JZ,hR,rd (!0),KA,hR];by_cases a:i<k
  .rw[Mz a,Jh,Jh,Lo a]
  .rw[MA a,wr (!0),Jh,Jh,LV,show k+(i - k)=i by omega]
 have b:∀i,i<=n+1->P i=(i % o.length,lfF s (rwF (rows.take k) (rows.drop k)) i):=λi=>by
  induction i with
  | zero=>intro _;rw[l,Nat.zero_mod];rfl
  | succ i m =>
   intro hi;rw[(g i (!0)).1,m (!0)];show((i % o.length+1) % o.length,i5 s (lfF s _ i) _ s.length)=((i+1) % o.length,i5 s (lfF s _ i) (rwF _ _ i) s.length)
   rw[c i (!0),Mh]
 have f:∀i,i<n+1->zV s o (rwF (rows.take k) (rows.drop k)) i=true:=λi hi=>by
  have hq:=(g i hi).2;unfold zV;rw[c i hi];rw[b i (!0)] at hq;exact(Ch (BR _)).mp hq
 rw[b (n+1) (Jx _),b k (!0)] at e;have e1:(n+1) % o.length=k % o.length:=congrArg Prod.fst e;have e2:lfF s (rwF (rows.take k) (rows.drop k)) (n+1)=lfF s (rwF (rows.take k) (rows.drop k)) k:=congrArg Prod.snd e;have h:(rows.take k).length=k:=by rw[JZ,hR];omega
 have d:(rows.drop k).length=n+1 - k:=by rw[KA,hR]
 refine zh (k:=1) (k':=0) (by rw[d];omega) ?_ (!0) (λj hj=>f j (by rw[h,d] at hj;omega)) ?_
 .rw[d];exact Nat.sub_mod_eq_zero_of_mod_eq e1
 .rw[h,d,Nat.zero_mul,t0,show k+1*(n+1 - k)=n+1 by omega];exact e2
def iF(s o:List Int)(F:Lw)(A B:List (List Int)):Prop:=∃(rows:List (List Int)) (P:Nat->Std) (n k:Nat),A=rows.take k/\B=rows.drop k/\rows.length=n+1/\n+1<=F.length/\k<n+1/\P 0=(0,s)/\(∀i,i<n+1->P (i+1)=bC s o (P i) (rows.getD i [])/\∃p∈F,p.1=P i/\rows.getD i []∈p.2)/\P (n+1)=P k
section
def iF.kp(ho:1<=o.length)(a:pO s o F)(h:iF s o F A B):KP s o A B:=by obtain⟨rows,P,n,k,rfl,rfl,hR,_,hk,b,c,d⟩:=h;refine AV ho hR hk b (λi hi=>?_) d;obtain⟨e,p,f,e2,g⟩:=c i hi;refine⟨e,?_⟩;rw[<-e2];exact(a.row p f _ g).1
theorem p9{f:Nat->Int}{g:List Int->Int}{rows:List (List Int)}(n:Nat)(hR:rows.length=n)(h:∀i,i<n->f i<=g (rows.getD i [])+f (i+1)):∀j,j<=n->f (n - j)<=((rows.drop (n - j)).map g).sum+f n
 | 0,_=>by
  rw[LA,Kp (!0)];simp
 | j+1,hj=>by
  have b:=p9 n hR h j (!0);have hi:=h (n - (j+1)) (!0);rw[show n - (j+1)+1=n - j by omega] at hi;have a:n - (j+1)<rows.length:=!0
  rw[K9 a,Jr,r6,show n - (j+1)+1=n - j by omega];rw[Jh,Ji a] at hi;have hi:f (n - (j+1))<=g rows[n - (j+1)]+f (n - j):=hi;omega
theorem tT(cs:List Int)(p q:Int):∀B:List (List Int),(B.map λr=>q*rc cs r - p).sum=q*pc cs B - p*B.length
 | []=>by simp[pc]
 | r::B=>by
  have e:pc cs (r::B)=rc cs r+pc cs B:=by simp[pc]
  rw[Jr,r6,tT cs p q B,e,JX,oo,KG,oo];simp;omega
def iF.low(hg:eI s o (0,s))(d:pO s o F)(h:iF s o F A B)(lo:Ht s o cs p q):(p:Int)*B.length<=q*pc cs B:=by
 obtain⟨rows,P,n,k,rfl,rfl,hR,_,hk,v,w,x⟩:=h;obtain⟨L,f,j,y⟩:=lo;have l:∀i,i<=n+1->P i∈kyw L/\(i<n+1->f (P i)<=q*rc cs (rows.getD i []) - p+f (P (i+1))):=λi=>by
  have key:∀i,i<n+1->P i∈kyw L->P (i+1)∈kyw L/\f (P i)<=q*rc cs (rows.getD i []) - p+f (P (i+1)):=λi hi a=>by
   obtain⟨e,m,z,e2,C⟩:=w i hi;obtain⟨t,_,u⟩:=d.row m z _ C;obtain⟨pl,b,e3⟩:=Jk.mp a;have e4:pl.1=m.1:=e3.trans e2.symm;rw[<-e4] at t u;have c:=j.full pl b _ t u;rw[e,<-e3];exact⟨(j.row pl b _ c).2,y pl b _ c⟩
  induction i with
  | zero =>
   intro _;have a:P 0∈kyw L:=by rw[v];exact j.beg hg
   exact⟨a,λhi=>(key 0 hi a).2⟩
  | succ i D =>
   intro hi;have a:=(key i (!0) (D (!0)).1).1;exact⟨a,λhi=>(key (i+1) hi a).2⟩
 have:=p9 (f:=λi=>f (P i)) (g:=λr=>q*rc cs r - p) (n+1) hR (λi hi=>(l i (!0)).2 hi) (n+1 - k) (!0);rw[show n+1 - (n+1 - k)=k by omega,tT,x] at this;omega
end
structure RdI(s o:List Int)(F:Lw)(met:List Std)(rows:List (List Int))(here:Std):Prop where
 len:rows.length=met.length
 nd : met.Nodup
 st : (met++[here]).getD 0 (0,[])=(0,s)
 inn:∀x∈met++[here],x∈kyw F
 go : ∀i,i<met.length->(met++[here]).getD (i+1) (0,[])=bC s o ((met++[here]).getD i (0,[])) (rows.getD i [])/\∃p∈F,p.1=(met++[here]).getD i (0,[])/\rows.getD i []∈p.2
def RdI.few(h:RdI s o F met rows here):met.length<=F.length:=by have:=cG h.nd λx hx=>h.inn x (by simp[hx]);simpa[kyw] using this
def RdI.next(d:pO s o F)(h:RdI s o F met rows p.1)(hn:p.1 ∉ met)(f:p∈F)(g:r∈p.2):RdI s o F (met++[p.1]) (rows++[r]) (bC s o p.1 r):=by
 have c:∀i,i<met.length+1->((met++[p.1])++[bC s o p.1 r]).getD i (0,[])=(met++[p.1]).getD i (0,[]):=λi hi=>by
  rw[Jh,Jh,JV (by simp;omega)]
 have k:∀i,i<met.length->(rows++[r]).getD i []=rows.getD i []:=λi hi=>by
  rw[Jh,Jh,JV (by rw[h.len];exact hi)]
 refine⟨by simp[h.len],Ju.mpr ⟨h.nd,!1,λa l b j e=>hn (by simp at j;rw[<-j,<-e];exact l)⟩,by rw[c 0 (!0)];exact h.st,λx hx=>?_,λi hi=>?_⟩
 .rcases Jj.mp hx with z|z
  .exact h.inn x z
  .rw[Jf.mp z];exact(d.row p f r g).2.1
 .rw[Jz,JP] at hi;by_cases z:i=met.length
  .subst z;have e1:((met++[p.1])++[bC s o p.1 r]).getD (met.length+1) (0,[])=bC s o p.1 r:=by
    rw[Jh,K2 (!1)];simp
   have e2:(met++[p.1]).getD met.length (0,[])=p.1:=by rw[Jh];simp
   have e3:(rows++[r]).getD met.length []=r:=by rw[Jh,<-h.len];simp
   rw[e1,c _ (!0),e2,e3];exact⟨rfl,p,f,rfl,g⟩
  .rw[c _ (!0),c _ (!0),k i (!0)];exact h.go i (!0)
def RdI.ring(h:RdI s o F met rows here)(hj:met[j]? = some here):iF s o F (rows.take j) (rows.drop j):=by
 have a:=(Js.mp hj).1;obtain⟨n,hn⟩:∃n,met.length=n+1:=⟨met.length - 1,!0⟩
 have few:=h.few;refine⟨rows,λi=>(met++[here]).getD i (0,[]),n,j,rfl,rfl,by rw[h.len,hn],!0,!0,h.st,λi hi=>h.go i (!0),?_⟩;show(met++[here]).getD (n+1) (0,[])=(met++[here]).getD j (0,[]);rw[<-hn,Jh,Jh,JV a,hj];simp
def Fk(met:List Std)(x:Std):((met.map stS).any λd=>eA d (stS x))=decide (x∈met):=by
 induction met with
 | nil=>rfl
 | cons y met a =>
  rw[Jr,Kx,a,show eA (stS y) (stS x)=decide (kOf y=kOf x) from vO (kOf y) (kOf x)];by_cases h:y=x
  .subst h;simp
  .have h1:¬kOf y=kOf x:=λz=>h (fW z);have h2:¬x=y:=λz=>h z.symm;simp[h1,h2]
inductive Ic (s o:List Int) (F:Lw) (M:Nat):List Sl->Prop
 | mk (met:List Std) (rows:List (List Int)) (here:Std) (l:List Int) (a b c:Sl) (ms rs:List ah):ms=met.map stS->rs=lr rows->RdI s o F met rows here->Ds l->M=F.length - met.length->Ic s o F M [.fr (bz (lwK s o F)),.fr (stS here),.io (li l),.ow ms,.ow rs,a,b,c]
abbrev eW:Stmt:=top 48
def bJ:ax ["_law_roads_here", "_law_here", "_law_draws_here", "_law_met", "_law_rows_here", "_law_number", "_law_row", "_law_first"] ["_law_roads_here", "_law_here", "_law_draws_here"] (ad eW):={}
def ua:DSp:=λss R=>∃(s o:List Int) (F:Lw) (l:List Int),ss=[.fr (bz (lwK s o F)),.fr (stS (0,s)),.io (li l)]/\pO s o F/\F.length<=100/\Ds l/\∀(A B:List (List Int)) (a:List Int),iF s o F A B->Ds a->R (.fr (.tuple [.list (lr A),.list (lr B)])) [.un,.un,.io (li a)]
def kP(F:Fun K "_law_round" "_law_round" eW f fd)(B:Bn mg)(d:Cal P w K mg base "_law_pop" 1 (spD K xr)):ca P w K mg base CX0 2 f fd ["_law_roads_here", "_law_here", "_law_draws_here"] (spD K ua):=by
 refine okD (k:=1) F bJ (λss R h=>?_) (!2) (λcdv A outer s H E t=>⟨_,(ae (aw (i:=3) bJ.nd rfl ci (b7 ac))
   (ae (aw (i:=4) bJ.nd rfl ci (b7 ac))
   (ae (cg PassesOwn.never (aF (B5 (K:=K) rfl (jo t)) BM (qv 1) (qv 3) (by with_unfolding_all rfl)) (ae (b9 (gr 3 (K:=K) rfl rfl (qf 1)))
   (ae (aw (i:=5) bJ.nd rfl ci (dE 0 d (t.mono (!2)) rfl (aa (qv 2) ac)))
   (ae (D1 (aN (ai (K:=K) rfl) mIx (aN (nV (K:=K) rfl (hu2 t)) nU (qv 0) (qv 1) (λ_ _=>rfl)) (bX bO mIC (qv 5) (d8 (iA (K:=K) rfl) iw rfl B.len db (aa (aN (nV (K:=K) rfl (hu2 t)) nU (qv 0) (qv 1) (λ_ _=>rfl)) ac))) (λ_ _=>rfl)) (dM (K:=K) (n:=2) rfl rfl (aK (ak (i:=6) bJ.nd rfl ci) (aK (ak (i:=1) bJ.nd rfl ci) cB))))
   (aj (b9 (gr 4 (K:=K) rfl rfl (qf 6))))))))
   (ae (aw (i:=7) bJ.nd rfl ci (qN (K:=K) rfl (jo t) (qv 3) (qv 1)))
   (aj (a9 (cQ (aa (oJ (K:=K) rfl (qv 4) fS (fR (qv 7))) (aa (oJ (K:=K) rfl (qv 4) (fR (qv 7)) fS) ac))))))))),λss R h=>?_⟩)
 .obtain⟨s,o,F,l,rfl,_⟩:=h;rfl
 obtain⟨s,o,F,l,rfl,g,hF,hd,q⟩:=h;have u:∀n:Nat,n<1000000->n<sizeLine:=λn h=>Jp h af;walk_at "dx";refine⟨JD _,?_⟩;walk_at "dx";refine⟨JD _,?_⟩;walk_at "dx";refine gJ (Ic s o F) ⟨_,.mk [] [] (0,s) l _ _ _ _ _ rfl rfl ⟨rfl,!1,rfl,λx hx=>by rw[Jf.mp hx];exact g.st,λi hi=>absurd hi (KF _)⟩ hd rfl⟩ λE hN=>?_;rintro _ env ⟨met,rows,here,l,a,b,c,_,_,rfl,rfl,v,hd,rfl⟩;have few:=v.few;walk_at "dx";refine⟨(uo here).shp (!2),gi met,?_⟩;rw[Fk];refine cw (λh1=>?hB) (λh1=>?hT)
 case hB =>
  have hn:here ∉ met:=by simpa using h1
  obtain⟨p,J,rfl⟩:=Jk.mp (v.inn here (!1));have z:=iy (s:=s) (o:=o) g.nd J;have O:0<p.2.length:=KL.mpr (g.ne p J);have L:=hd.drop;refine⟨u _ (by rw[Je];omega),?_⟩;walk_at "dx";refine⟨l,rfl,?_⟩;generalize sK l=num at *;generalize l.dropLast=l1 at *;obtain⟨m,Q⟩:∃m:Nat,num % ((p.2.length:Nat):Int)=m:=⟨(num % ((p.2.length:Nat):Int)).toNat,(Kz (Kr _ (!0))).symm⟩
  have C:m<p.2.length:=by have:=Kc num (show(0:Int)<((p.2.length:Nat):Int) by omega);omega
  have M:atI (p.2.map (wyS s o p.1)) (m:Int)=some (wyS s o p.1 p.2[m]):=cp (by rw[JE,Ji C];rfl);have D:=v.next g hn J (JF C);have G:=D.few;rw[Jz,JP] at G;have I:(p.2.map (wyS s o p.1)).length=p.2.length:=Je ..;walk_at "dx";refine⟨_,rfl,kOf p.1,rfl,rfl,_,z,_,rfl,kOf p.1,rfl,rfl,_,z,_,rfl,by rw[I];omega,_,rfl,_,by rw[I,Q];exact M,_,rfl,rfl,_,_,rfl,_,_,rfl,rfl,?_⟩;have S:=v.len;generalize p.2[m]=r at *;walk_at "dx";exact⟨u _ (by rw[Je];omega),(hN _).nx _ ⟨F.length - (met.length+1),!0,.mk (met++[p.1]) (rows++[r]) (bC s o p.1 r) l1 _ _ _ _ _ (by rw[Jy];rfl) (by rw[lr,lr,Jy];rfl) D L (by rw[Jz];rfl)⟩⟩
 case hT =>
  have hn:here∈met:=by simpa using h1
  walk_at "dx";refine⟨met.map kOf,by rw[JI];rfl,kOf here,rfl,rfl,by rw[JI];rfl,gX.mpr hn,by rw[Je];omega,λj hj=>?_⟩;have N:met[j]? = some here:=by
   rw[JE] at hj;cases e:met[j]? with
   | none=>rw[e] at hj;cases hj
   | some y =>
    rw[e] at hj;injection hj with hj;rw[fW hj]
  walk_at "dx";rw[nr,nt];exact⟨Jt (!2) af,q _ _ _ (v.ring N) hd⟩
abbrev xA:Stmt:=top 49
def fK:ax ["_law_script", "_law_town_here", "_law_draws_here", "_law_costs", "_law_found", "_law_roads_here", "_law_turn", "_law_plan", "_law_above", "_law_below"] ["_law_script"] (ad xA):={}
theorem uP:∀s:List Int,jr s=mi s
 | []=>rfl
 | x::s=>by
  show x.toNat*jr s=x.toNat*mi s;rw[uP s]
def TB.tbl(h:TB s o)(a:o.length*jr s<=24):TbL s o/\(f9 s o).length<=24:=by
 obtain⟨h1,h2,h3,h4,h5,h6,b⟩:=h;have e:(f9 s o).length<=24:=by rw[ze,<-uP];exact a
 exact⟨⟨h2,h3,λx hx=>(h5 x hx).1,λx hx=>(h6 x hx).1,b.imp id λh x hx=>Int.le_trans (h x hx) (!2),!0⟩,e⟩
theorem iF.rows(b:pO s o F)(h:iF s o F A B):1<=B.length/\A.length+B.length<=F.length/\∀r,r∈A\/r∈B->r.length<=s.length/\∀x∈r,0<=x/\x<s.length:=by obtain⟨rows,P,n,k,rfl,rfl,hR,hF,hk,f,c,g⟩:=h;refine⟨by rw[KA,hR];omega,by rw[JZ,KA,hR];omega,λr a=>?_⟩;have d:r∈rows:=a.elim rr KZ;obtain⟨i,hi,rfl⟩:=J8 d;obtain⟨_,p,e,_,a⟩:=c i (!0);rw[Jh,Ji hi] at a;have:=bR s.length rows[i] (JB.mp (b.row p e _ a).1).1;exact⟨this.1,this.2.2⟩
def AM:DSp:=λss R=>∃a:List Int,ss=[.fr (.list (li a))]/\a.length<=63/\R (.fr (.bool true)) [.un]
def Eo(F:Fun K "law" "law" xA f fd)(B:Bn mg)(e:Cal P w K mg base "_law_draws" 2 (spD K uh))(C:Cal P w K mg base "_law_town" 2 (spD K zr))(D:Cal P w K mg base "_law_pop" 1 (spD K xr))(j:Cal P w K mg base "least_cost" 11 (spD K qr))(t:Cal P w K mg base "_law_roads" 3 (spD K qt))(u:Cal P w K mg base "_law_begun" 1 (spD K kx))(v:Cal P w K mg base "_law_round" 2 (spD K ua))(I:Cal P w K mg base "cost_of" 3 (spD K kz))(J:Cal P w K mg base "keeps" 5 (spD K uf)):ca P w K mg base CX0 12 f fd ["_law_script"] (spD K AM):=by
 refine okD (k:=11) F fK (λss R h=>?_) (!2) (λcdv A outer s H E G=>⟨_,(ae (aw (i:=1) fK.nd rfl ci (Bb C (G.mono (!2)) rfl (aa (aD e (G.mono (!2)) rfl (aa (qf 0) (aa al (aa al ac)))) (aa al ac))))
   (ae (aw (i:=2) fK.nd rfl (di rfl) (aD e (G.mono (!2)) rfl (aa (qf 0) (aa al (aa al ac)))))
   (ae (gO (i:=3) 1 2 rfl fK.nd rfl rfl (N':=["_law_span", "_law_draws_here"]) (ix:=[none,some 2]) rfl (bP (N:=_::_) (sc0:=ad xA) rfl rfl (!3)) (aH (K:=K) rfl (aN (ai (K:=K) rfl) mIx (qv 1) al (λ_ _=>rfl))) (λ_ _ _ _=>(ak (i:=0) (!4) rfl ci)) (λ_ _ _ _=>aM) (λ_ _ _ _=>(bX bO mIC (dE 0 D (G.mono (!2)) rfl (aa (qv 1) ac)) al)))
   (ae (aw (i:=4) fK.nd rfl ci (aD j (G.mono (!2)) rfl (aa (qf 1) (aa (qf 3) ac))))
   (bB (gP (aF vd GC (qv 4) gq (aU _)) (aj (a9 wS)) bS)
   (ae (aw (i:=5) fK.nd rfl ci (aD t (G.mono (!2)) rfl (aa (qf 1) ac)))
   (ae (dD PassesOwn.never rfl (cJ rfl B.range (aa al ac)) (ak (i:=6) fK.nd rfl ci) (ae (aw (i:=7) fK.nd rfl ci (xG v (G.mono (!2)) rfl (aa (qf 5) (aa (aD u (G.mono (!2)) rfl (aa (qf 1) ac)) (aa (aD e (G.mono (!2)) rfl (aa (qf 0) (aa (bX cr mI al (qv 6)) (aa al ac)))) ac)))))
   (ae (D1 (aD I (G.mono (!2)) rfl (aa (qf 7) (aa (qf 3) ac))) (dM (K:=K) (n:=2) rfl rfl (aK (ak (i:=8) fK.nd rfl ci) (aK (ak (i:=9) fK.nd rfl ci) cB))))
   (aj (gP (PW.pt (AZ (aF vc GA (aD J (G.mono (!2)) rfl (aa (qf 1) (aa (qf 7) ac))) wS (aU _)) (uF (aF oT mB (bX ff mIC (qv 8) (aN (ai (K:=K) rfl) mIx (aN (ai (K:=K) rfl) mIx (qv 4) al (λ_ _=>rfl)) al (λ_ _=>rfl))) (bX ff mIC (aN (ai (K:=K) rfl) mIx (aN (ai (K:=K) rfl) mIx (qv 4) al (λ_ _=>rfl)) al (λ_ _=>rfl)) (qv 9)) (aU _))))) (aj (a9 wS)) bS)))))
   (aj (a9 wS))))))))),λss R h=>?_⟩)
 .obtain⟨S,rfl,_⟩:=h;rfl
 obtain⟨S,rfl,O,q⟩:=h;walk_at "dx";refine⟨S,1,30,rfl,O,!2,!2,λl L=>?_⟩;walk_at "dx";refine⟨l,24,rfl,L,!2,!2,λs o Q a3 tb hp=>?_⟩;walk_at "dx";obtain⟨W,hN⟩:=tb.tbl hp;refine⟨S,200,30,rfl,O,!2,!2,λdr Y=>?_⟩;walk_at "dx";refine⟨λi rs l=>∃(cs Q:List Int),rs=li cs/\l=li Q/\cs.length=i/\Ds Q/\∀x∈cs,0<=x/\x<=10,_,_,rfl,rfl,⟨[],dr,rfl,rfl,rfl,Y,!1⟩,?_,?_⟩
 .rintro i rs l hi ⟨cs,Q,rfl,rfl,L,Z,X⟩;rw[Je] at hi;refine⟨by rw[Je,L];exact Jp (by have:=tb.2.1;omega) af,_,rfl,?_⟩;walk_at "dx";refine⟨Q,rfl,?_⟩;walk_at "dx";refine⟨!2,cs++[sK Q % 6],!1,Q.dropLast,rfl,by simp[L],Z.drop,λx hx=>?_⟩;rcases Jj.mp hx with hx|hx
  .exact X x hx
  .rw[Jf.mp hx];omega
 rintro rs l ⟨cs,l2,rfl,rfl,L,a4,X⟩;rw[Je] at L;refine⟨_,rfl,?_⟩;walk_at "dx";refine⟨s,o,cs,rfl,W,!0,L,X,?_,λhg p q' d1 d2 a5 a6 low=>?_⟩
 .walk_at "dx";exact q
 walk_at "dx";refine⟨s,o,rfl,tb,W,!0,hg,λF T=>?_⟩;walk_at "dx";refine⟨!2,!2,cR (λi env=>∃a b c d:Sl,env=[.fr (.list (li S)),.fr (.tuple [.list (li s),.list (li o)]),.ow (li l2),.fr (.list (li cs)),.fr (.tuple [.tuple [.int p,.int q'],d1,d2]),.fr (bz (lwK s o F)),a,b,c,d]) ⟨_,_,_,_,rfl⟩ ?h1 ?h2⟩
 case h1 =>
  rintro i env hi ⟨a,b,c,d,rfl⟩;rw[aA] at hi;have hi:i<3:=hi;rw[bf,u2];have h6:=tb.2.1;have a7:=T.len;walk_at "dx";refine⟨s,o,rfl,!0,?_⟩;walk_at "dx";refine⟨S,400+i,60,by rw[KG];rfl,O,!0,!2,λl3 a0=>?_⟩;walk_at "dx";refine⟨[.fr (bz (lwK s o F)),.fr (.tuple [.int 0,.tuple (li s)])],li l3,rfl,_,rfl,s,o,F,l3,rfl,T,!0,a0,λA B l4 ring _=>?_⟩;obtain⟨g1,g2,g3⟩:=ring.rows T;have kp:=ring.kp W.2.1 T;have U:=ring.low hg T low;have h0:=fb X B;walk_at "dx";refine⟨A,B,cs,rfl,g1,!0,λr G=>?_,h0,?_⟩
  .have:=g3 r (.inr G);exact⟨!0,λx hx=>by rw[L];exact this.2 x hx⟩
  obtain⟨m,em⟩:∃m:Nat,pc cs B=m:=⟨(pc cs B).toNat,(Kz h0).symm⟩
  have M:=iR m B.length;unfold BP at M;rw[em,M];rw[em] at U;have g5:lwQ m B.length<=B.length:=ri _ _;have fin:¬(((lwP m B.length:Nat):Int)*q'<p*((lwQ m B.length:Nat):Int)):=λz=>by
   obtain⟨e1,e2⟩:=BO (a:=m) (b:=B.length);have z:lwP m B.length*q'<p*lwQ m B.length:=by exact_mod_cast z
   have U:p*B.length<=q'*m:=by exact_mod_cast U
   have V:0<om m B.length:=Nat.gcd_pos_of_pos_right _ (!0);generalize lwP m B.length=x at *;generalize lwQ m B.length=y at *;generalize om m B.length=g at *;rw[e1] at U;rw[e2] at U;have:=Nat.mul_lt_mul_of_pos_left z V;rw[show g*(x*q')=q'*(g*x) by rw[KO x q',<-J7,KO g q',J7],show g*(p*y)=p*(g*y) by rw[<-J7,KO g p,J7]] at this;omega
  walk_at "dx";refine⟨s,o,A,B,rfl,⟨W.2.1,!0,!0,!0,λr G=>?_,λr G=>?_⟩,kp,?_⟩
  .have:=(g3 r (.inl G)).1;omega
  .have:=(g3 r (.inr G)).1;omega
  walk_at "dx";exact cw (λz=>by cases z) (λ_=>⟨km (by omega +splitDisjunctions) (by omega +splitDisjunctions),km (by omega +splitDisjunctions) (by omega +splitDisjunctions),cw (λz=>absurd z fin) (λ_=>trivial)⟩)
 case h2 =>
  rintro env ⟨a,b,c,d,rfl⟩;walk_at "dx";exact q
end
def Fl{l:o0}{K:cb}{h:bg}(X:K.In h)(G:h.Ns kq mg)(a5:mg "law" = some (.ref fa))
  (g0:FnI K "_law_pop" gM)
  (g1:FnI K "_law_mix" gN)
  (g2:FnI K "_law_draws" dj)
  (g3:FnI K "_law_town" cA)
  (g4:FnI K "_law_rows" bU)
  (g5:FnI K "_law_after" eY)
  (g6:FnI K "is_row" gj)
  (g7:FnI K "hands_on" gL)
  (g8:FnI K "may_wind" fC)
  (g9:FnI K "behind" iP)
  (a6:FnI K "begun" oE)
  (a7:FnI K "gone" uv)
  (b0:FnI K "winds_all" dW)
  (b1:FnI K "keeps" oD)
  (b2:FnL K "choices" gn)
  (b3:FnL K "full_rows" d7)
  (b4:FnI K "looked_through" bZ)
  (b5:FnI K "plan_of" jm)
  (b6:FnI K "prices_by" dY)
  (c3:FnI K "is_less" jn)
  (c4:FnI K "priced" iO)
  (c5:FnI K "picked_again" dz)
  (c6:FnI K "loops_among" dZ)
  (d0:FnI K "greatest_divisor" cf)
  (d3:FnI K "lowest_terms" dA)
  (d4:FnI K "row_cost" fB)
  (e0:FnI K "cost_of" gm)
  (e5:FnI K "loop_cost" d5)
  (e6:FnI K "cheapest" fD)
  (e7:FnI K "way_between" dX)
  (e8:FnI K "loop_plan" cX)
  (e9:FnI K "leading_to" eV)
  (f0:FnI K "lost_among" dh)
  (f1:FnI K "all_ways" dJ)
  (f2:FnI K "kept_ways" d6)
  (f3:FnI K "steps_of" fA)
  (f4:FnI K "least_cost" eU)
  (f5:FnI K "_law_begun" eX)
  (h0:FnI K "_law_roads" br)
  (h7:FnI K "_law_round" eW)
  (h9:FnI K "law" xA)
  (z : BnI K)
  : ∃fd:ki,(∀(s:az) (v:av),Zl s fd ⟨[v],[]⟩ [("_law_script",v)])/\∀base:bg,K.In base->base.Ns kq mg->ca l.prog w K mg base CX0 12 fa fd ["_law_script"] (spD K AM):=by
 have B:Bn mg:=z.bn X G;refine IM X G a5 h9 (λF s v=>?_) λ{fd base} a4 Xb=>?_
 .obtain⟨_,_,_,_,_,_,_,_,_,rfl,_,_⟩:=F.ex;exact .of_eq rfl
 have b:=eL X G g0 (λF=>bd1 F) λF=>o4 (P:=l.prog) (w:=w) (base:=base) F B;have O:=eL X G g1 (λF=>bd2 F) λF=>o5 (P:=l.prog) (w:=w) (base:=base) F B;have r:=eL X G g2 (λF=>bd3 F) λF=>kR (P:=l.prog) (w:=w) (base:=base) F B O;have D:=eL X G g3 (λF=>bd2 F) λF=>mE (P:=l.prog) (w:=w) (base:=base) F B b;have E:=eL X G g4 (λF=>bd2 F) λF=>mF (P:=l.prog) (w:=w) (base:=base) F B;have t:=eL X G g5 (λF=>bd3 F) λF=>kU (P:=l.prog) (w:=w) (base:=base) F B;have Y:=eL X G g6 (λF=>bd2 F) λF=>vh (P:=l.prog) (w:=w) (base:=base) F B;have j:=eL X G g7 (λF=>bd2 F) λF=>oX (P:=l.prog) (w:=w) (base:=base) F B;have Q:=eL X G g8 (λF=>bd3 F) λF=>oW (P:=l.prog) (w:=w) (base:=base) F B Y j;have i:=eL X G g9 (λF=>bd3 F) λF=>vi (P:=l.prog) (w:=w) (base:=base) F B;have e:=eL X G a6 (λF=>bd1 F) λF=>xS (P:=l.prog) (w:=w) (base:=base) F B;have a3:=eL X G a7 (λF=>bd3 F) λF=>BG (P:=l.prog) (w:=w) (base:=base) F B Q i;have H:=eL X G b0 (λF=>bd2 F) λF=>mv (P:=l.prog) (w:=w) (base:=base) F B;have a0:=eL X G b1 (λF=>bd2 F) λF=>xR (P:=l.prog) (w:=w) (base:=base) F B H e a3;have n:=HR X G Xb b2 (λF=>bd2 F) λF L=>sP (P:=l.prog) (w:=w) F B L j;have I:=HR X G Xb b3 (λF=>bd2 F) λF L=>mD (P:=l.prog) (w:=w) F B L n;have f:=eL X G b4 (λF=>bd2 F) λF=>gS (P:=l.prog) (w:=w) (base:=base) F B I i;have U:=eL X G b5 (λF=>bd1 F) λF=>sM (P:=l.prog) (w:=w) (base:=base) F B f e;have g:=eL X G b6 (λF=>bd3 F) λF=>mw (P:=l.prog) (w:=w) (base:=base) F B;have V:=eL X G c3 (λF=>bd2 F) λF=>sN (P:=l.prog) (w:=w) (base:=base) F B;have Z:=eL X G c4 (λF=>bd2 F) λF=>vg (P:=l.prog) (w:=w) (base:=base) F B g;have m:=eL X G c5 (λF=>bd4 F) λF=>jw (P:=l.prog) (w:=w) (base:=base) F B g;have o:=eL X G c6 (λF=>bd1 F) λF=>jR (P:=l.prog) (w:=w) (base:=base) F B;have c:=eL X G d0 (λF=>bd2 F) λF=>fU (P:=l.prog) (w:=w) (base:=base) F B;have a:=eL X G d3 (λF=>bd2 F) λF=>jx (P:=l.prog) (w:=w) (base:=base) F B c;have k:=eL X G d4 (λF=>bd2 F) λF=>oV (P:=l.prog) (w:=w) (base:=base) F B;have p:=eL X G e0 (λF=>bd2 F) λF=>sO (P:=l.prog) (w:=w) (base:=base) F B a k;have J:=eL X G e5 (λF=>bd1 F) λF=>my (P:=l.prog) (w:=w) (base:=base) F B a;have R:=eL X G e6 (λF=>bd2 F) λF=>oY (P:=l.prog) (w:=w) (base:=base) F B Z m o J V;have q:=eL X G e7 (λF=>bd3 F) λF=>jQ (P:=l.prog) (w:=w) (base:=base) F B;have M:=eL X G e8 (λF=>bd3 F) λF=>mx (P:=l.prog) (w:=w) (base:=base) F B q;have u:=eL X G e9 (λF=>bd1 F) λF=>kO (P:=l.prog) (w:=w) (base:=base) F B;have x:=eL X G f0 (λF=>bd1 F) λF=>kL (P:=l.prog) (w:=w) (base:=base) F B u;have S:=eL X G f1 (λF=>bd1 F) λF=>oZ (P:=l.prog) (w:=w) (base:=base) F B e n i;have N:=eL X G f2 (λF=>bd1 F) λF=>mC (P:=l.prog) (w:=w) (base:=base) F B S x;have T:=eL X G f3 (λF=>bd3 F) λF=>oU (P:=l.prog) (w:=w) (base:=base) F B k;have y:=eL X G f4 (λF=>bd2 F) λF=>kM (P:=l.prog) (w:=w) (base:=base) F B U N T p R e M;have d:=eL X G f5 (λF=>bd1 F) λF=>kT (P:=l.prog) (w:=w) (base:=base) F B;have A:=eL X G h0 (λF=>bd1 F) λF=>kQ (P:=l.prog) (w:=w) (base:=base) F B d E t;have C:=eL X G h7 (λF=>bd3 F) λF=>kP (P:=l.prog) (w:=w) (base:=base) F B b;exact Eo a4 B r D b y A d C p a0
end _W
namespace PySem.Challenge.cw_windround_k30_whole_no_plan_costs_less_holds
theorem tw12916464120536131203:True:=trivial
theorem tw1561082430586870278:True:=trivial
theorem tw7018768101024674627:True:=trivial
theorem tw13698413209529156428:True:=trivial
theorem tw16043000593424772207:True:=trivial
theorem tw16569944857569078656:True:=trivial
theorem tw2888233924815172730:True:=trivial
theorem tw16160626396313093243:True:=trivial
theorem tw17953531037680801505:True:=trivial
theorem tw2607028094967385385:True:=trivial
theorem tw17011667414671985994:True:=trivial
theorem tw12226376172194362481:True:=trivial
theorem tw15574361232712709057:True:=trivial
theorem tw5822179384608681984:True:=trivial
theorem tw3728245717113088510:True:=trivial
theorem tw8335905274159517391:True:=trivial
theorem tw8869972767126553316:True:=trivial
theorem tw14788882282266483616:True:=trivial
theorem tw13164637342353160045:True:=trivial
theorem tw3024279855541119671:True:=trivial
theorem tw5329897750856867535:True:=trivial
theorem tw1096976773446600674:True:=trivial
theorem tw10742771642917447131:True:=trivial
theorem tw9713648174208622035:True:=trivial
theorem tw11945881431218518924:True:=trivial
theorem tw12173395130653560659:True:=trivial
theorem tw5351212021194435825:True:=trivial
theorem tw14493101139300831575:True:=trivial
theorem tw12190373927456418577:True:=trivial
theorem tw6602148812604653290:True:=trivial
theorem tw1775147137574160221:True:=trivial
theorem tw670627705762547625:True:=trivial
theorem tw14033772586604525574:True:=trivial
theorem tw136306326161237312:True:=trivial
theorem tw5992354226804360268:True:=trivial
theorem tw4429501954848742197:True:=trivial
theorem tw16098266238175680692:True:=trivial
theorem tw2179517748698800638:True:=trivial
theorem tw1738037467469526210:True:=trivial
theorem tw5675609570097110227:True:=trivial
theorem tw12936492910961392141:True:=trivial
theorem tw7277830958218159139:True:=trivial
theorem tw15349750497899284424:True:=trivial
theorem tw6146085510589007180:True:=trivial
theorem tw5973006938871466072:True:=trivial
theorem tw13013260145634389546:True:=trivial
theorem tw898133511226824571:True:=trivial
theorem tw17600062042849468807:True:=trivial
theorem tw20621090228250831:True:=trivial
theorem tw6286140672132245593:True:=trivial
theorem tw13798054139609727118:True:=trivial
theorem tw2664376232748319483:True:=trivial
theorem tw8748508664037192312:True:=trivial
theorem tw3831153830397771492:True:=trivial
theorem tw16881005169006161563:True:=trivial
theorem tw9442405047217895598:True:=trivial
theorem tw9267173223549849929:True:=trivial
theorem tw9843978535227198903:True:=trivial
theorem tw10740287133932454213:True:=trivial
theorem tw15871629130077024010:True:=trivial
theorem tw6954659403112513158:True:=trivial
theorem tw158577816899235175:True:=trivial
theorem tw15518013693269752389:True:=trivial
theorem tw12255709784398321333:True:=trivial
theorem tw4983514823605669705:True:=trivial
theorem tw6341304674643819777:True:=trivial
theorem tw11428703751835095051:True:=trivial
theorem tw507183859731410854:True:=trivial
theorem tw454403212169420446:True:=trivial
theorem tw16821876766797634231:True:=trivial
theorem tw683383553233110806:True:=trivial
theorem tw89675734975258939:True:=trivial
theorem tw4671851875854106076:True:=trivial
theorem tw8988827912029981036:True:=trivial
theorem tw10774010259701635697:True:=trivial
theorem tw6356282207442621883:True:=trivial
theorem tw16880080358405926808:True:=trivial
theorem tw1581989207528943566:True:=trivial
theorem tw13994752688742722544:True:=trivial
theorem tw2141168037932910379:True:=trivial
theorem tw14735594017567660225:True:=trivial
theorem tw2621876595489671279:True:=trivial
theorem tw8320915201240472214:True:=trivial
theorem tw8444930928219944021:True:=trivial
theorem tw6047392090466543440:True:=trivial
theorem tw15457349414174666045:True:=trivial
theorem tw14568069551038710818:True:=trivial
theorem tw12145337954535474352:True:=trivial
theorem tw4325414839460977243:True:=trivial
theorem tw1679728677976279215:True:=trivial
theorem tw1143731908474004640:True:=trivial
theorem tw15510194449309571754:True:=trivial
theorem tw8998345191634043343:True:=trivial
theorem tw3712079726051439255:True:=trivial
theorem tw10032823140162733551:True:=trivial
theorem tw5550036972829772876:True:=trivial
theorem tw16781919982103792917:True:=trivial
theorem tw17121883611943975975:True:=trivial
theorem tw4291296894043182149:True:=trivial
theorem tw2613851537598738196:True:=trivial
theorem tw2379888825525206877:True:=trivial
theorem tw8520910280913424887:True:=trivial
theorem tw15375225451678774496:True:=trivial
theorem tw13257216031640912094:True:=trivial
theorem tw10910764798524214392:True:=trivial
theorem tw16898672284627775965:True:=trivial
theorem tw18397341666415267552:True:=trivial
theorem tw7276641374359131899:True:=trivial
theorem tw12683473836769846940:True:=trivial
theorem tw14133565872414438897:True:=trivial
theorem tw3987134970029758851:True:=trivial
theorem tw5434315635668566303:True:=trivial
theorem tw2845926215010072729:True:=trivial
theorem tw14885666537312059174:True:=trivial
theorem tw13598458231435286753:True:=trivial
theorem tw2085905218763540233:True:=trivial
theorem tw4782663315834901515:True:=trivial
theorem tw2454195428913970919:True:=trivial
theorem tw2276054412627997183:True:=trivial
end PySem.Challenge.cw_windround_k30_whole_no_plan_costs_less_holds
open PySem PySem.W PyProof.Rows
set_option maxRecDepth 100000 in
set_option maxHeartbeats 0 in
set_option Elab.async true in
theorem PySem.Challenge.cw_windround_k30_whole_no_plan_costs_less_holds : PySem.Challenge.rw_windround_k30_whole_no_plan_costs_less.Holds := by
 w_on;o_law;k_head;(case hw=>w_witness2)
 k_fill
 refine _L.FT (l:=PySem.Challenge.rw_windround_k30_whole_no_plan_costs_less) (sp:=_W.AM) (k:=12) (by decide) rfl rfl (λc h=>⟨c,rfl,h,rfl⟩) ?TB (λw h Y=>PySem.W.km_in_of Y) ?F
 case TB =>
  intro w s₀ mg mb h G a
  refine' _L.AI _ (_L.rh (x := "choices") (_L.rm G a rfl ?a1 ?l1 ?c1 ?lc1 ?hT1 ?hn1) (_L.rh (x := "full_rows") (_L.rm G a rfl ?a2 ?l2 ?c2 ?lc2 ?hT2 ?hn2) _L.BY)) ?nd (_L.BZ (.inl ?y0) (.inl ?y1) (.inr ?z2) (.inr ?z3))
  (case a1=>k_is);(case l1=>k_is);(case c1=>exact rfl);(case lc1=>k_is);(case hT1=>exact⟨rfl,rfl,⟨_,_,rfl⟩,⟨_,_,rfl⟩,⟨_,rfl⟩,⟨_,_,rfl⟩,by decide⟩);(case hn1=>kernel_rfl)
  (case a2=>k_is);(case l2=>k_is);(case c2=>exact rfl);(case lc2=>k_is);(case hT2=>exact⟨rfl,rfl,⟨_,_,rfl⟩,⟨_,_,rfl⟩,⟨_,rfl⟩,⟨_,_,rfl⟩,by decide⟩);(case hn2=>kernel_rfl)
  (case nd=>decide);(case y0=>simp);(case y1=>simp);(case z2=>k_is);(case z3=>k_is)
 case F =>
  intro w mg fa h a G b
  refine' _W.Fl a G b ?fn0 ?fn1 ?fn2 ?fn3 ?fn4 ?fn5 ?fn6 ?fn7 ?fn8 ?fn9 ?fn10 ?fn11 ?fn12 ?fn13 ?fn14 ?fn15 ?fn16 ?fn17 ?fn18 ?fn19 ?fn20 ?fn21 ?fn22 ?fn23 ?fn24 ?fn25 ?fn26 ?fn27 ?fn28 ?fn29 ?fn30 ?fn31 ?fn32 ?fn33 ?fn34 ?fn35 ?fn36 ?fn37 ?fn38 ?fn39 ?fn40 ?fz
  case fn0|fn1|fn2|fn3|fn4|fn5|fn6|fn7|fn8|fn9|fn10|fn11|fn12|fn13|fn16|fn17|fn18|fn19|fn20|fn21|fn22|fn23|fn24|fn25|fn26|fn27|fn28|fn29|fn30|fn31|fn32|fn33|fn34|fn35|fn36|fn37|fn38|fn39|fn40=>(refine' _L.fnI ?fa ?fl ?fc ?fk;(case fa=>k_is);(case fl=>k_is);(case fc=>k_is);(case fk=>k_is))
  case fn14|fn15=>(refine' _L.fnL (by decide) ?fa ?fl ?fc ?fk ?fhc ?flc ?fhT;(case fa=>k_is);(case fl=>k_is);(case fc=>k_is);(case fk=>k_is);(case fhc=>exact rfl);(case flc=>k_is);(case fhT=>exact⟨rfl,rfl,⟨_,_,rfl⟩,⟨_,_,rfl⟩,⟨_,rfl⟩,⟨_,_,rfl⟩,by decide⟩))
  case fz=>refine'⟨?_,?_,?_,?_,?_,?_,?_,?_,?_,?_,?_,?_,?_,?_,?_,?_,?_,?_⟩ <;> k_is
